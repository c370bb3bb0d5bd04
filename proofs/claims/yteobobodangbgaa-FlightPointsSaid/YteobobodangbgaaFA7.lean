/-
  Of the texts FlightPointsWalk: what the laws reach.
-/
import Derived.Test.YteobobodangbgaaRows
import Derived.Test.YteobobodangbgaaFA6
import Derived.WalkKit
import Derived.ProofKit
import Derived.OpenShut
import Derived.ShutString
import Derived.ChangeOld
import Derived.Below

namespace Go.Proofs.Yteobobodangbgaa.flightPoints
open Go.ChangeShapes Go.WideShapes Go.ChangeAt Go.RowKit
open Go.ChangeMaps (open_string shut_string)
set_option linter.unusedVariables false
set_option linter.unusedSimpArgs false
theorem own : ownKnob Try.prog.godebug = none := by kernel_rfl
theorem laidOut : laidOutB Try.prog = true := by kernel_rfl
/-- What the walk is told of a slice of integers that came in. -/
def IsRow (k : IntKind) (w : World) (a : Option Addr) (len cap : Nat) (zs : List Int) : Prop :=
  (a = none ∧ len = 0 ∧ cap = 0 ∧ zs = []) ∨
  ∃ x, a = some x ∧ len ≤ cap ∧ cap ≤ maxLen ∧ zs.length = cap ∧ (∀ i, i < zs.length → w.cell? (x.add i) = some (.int k (zs.getD i 0))) ∧ ∀ n ∈ zs, (Lit.int k n).wf = true
open Words Oct Par Chk Fl
theorem nat_u8 {x : Int} (h : (Lit.int .u8 x).wf = true) : ∃ n : Nat, x = n ∧ n ≤ 255 := by
  have := bounds_u8 h
  exact ⟨x.toNat, by omega, by omega⟩
set_option maxHeartbeats 8000000 in
set_option maxRecDepth 100000 in
theorem walk {R : World → (Nat → Prop) → Nat → Fl.FS → Prop} (I : Fl.FlI R) (a0 : Option Addr) (len0 cap0 : Nat) (z0 : List Int) (w : World) (w0 : IsRow .u8 w a0 len0 cap0 z0) :
    Calls Try.prog 7 #[.slice a0 len0 cap0] w fun e w' => e = .returned (.bool true) ∧ Below w.heap.size w w' := by
  have keep : ∀ {V : World}, Below w.heap.size w V → ∀ {p : Addr} {u : Value}, w.cell? p = some u → V.cell? p = some u := fun {V} hb {p u} h => (hb.cell (World.block_lt_of_cell? w _ h)).trans h
  obtain ⟨zs, hzs⟩ : ∃ zs, zs = z0.map Int.toNat := ⟨_, rfl⟩
  have HZ : Hid (len0 ≤ zs.length ∧ (∀ u ∈ zs, u < 256) ∧ ∀ {V : World}, Below w.heap.size w V → ∀ i, i < len0 → ∃ (a : Addr) (d : Nat), a0 = some a ∧ V.cell? (a.add i) = some (.int .u8 (d : Int)) ∧ zs[i]? = some d) := by
    rcases w0 with ⟨_, h2, _, h3⟩ | ⟨y, h1, h2, h3, h4, h5, h6⟩
    · subst h2
      refine ⟨Nat.zero_le _, fun u hu => ?_, fun _ i hi => by omega⟩
      rw [hzs, h3] at hu
      cases hu
    · refine ⟨by rw [hzs, List.length_map, h4]; exact h2, fun u hu => ?_, fun {V} hb i hi => ?_⟩
      · rw [hzs] at hu
        obtain ⟨x, hx, rfl⟩ := List.mem_map.1 hu
        obtain ⟨d, hd, hd2⟩ := nat_u8 (h6 x hx)
        omega
      · have hl : i < z0.length := by omega
        obtain ⟨d, hd, hd2⟩ := nat_u8 (h6 (z0.getD i 0) (by
          rw [List.getD_eq_getElem?_getD, List.getElem?_eq_getElem hl]
          exact List.getElem_mem hl))
        refine ⟨y, d, h1, by rw [← hd]; exact keep hb (h5 i hl), ?_⟩
        rw [hzs, List.getElem?_map, List.getElem?_eq_getElem hl]
        rw [List.getD_eq_getElem?_getD, List.getElem?_eq_getElem hl] at hd
        simp at hd
        rw [hd]
        simp
  have hlen : len0 ≤ 9223372036854775807 := by
    rcases w0 with ⟨_, h2, _⟩ | ⟨y, h1, h2, h3, _⟩
    · omega
    · unfold maxLen at h3; omega
  have kc := fun (w : World) (C : Array Value) (n c : Nat) => Lib.run_convert_bytes_const (P := Try.prog) w 23 5 C n c Try.underlying23 Try.underlying5
  obtain ⟨N, hN⟩ : ∃ N, N = min len0 40 := ⟨_, rfl⟩
  have hN1 : N ≤ len0 ∧ N ≤ 40 := by omega
  clear w0 keep hzs
  go_enter Try.func7, Try.ntmps7
  go_wp2_with fail
  refine (first_f I w).mono ?_
  rintro e W2 ⟨rfl, hb2⟩
  have HB2 := Lib.hid hb2
  clear hb2
  go_wp2_with fail
  refine (FV.new I (S := fun _ => False) W2 W2 (Below.refl _ _) (fun i h => h.elim) 100 (by omega)).mono ?_
  rintro e W3 ⟨p, rfl, HF3, _⟩
  go_upto_region 4 with (fail)
  go_cut [4] from 21 to 23 (fun v4 wx => v4 = .int .i64 (N : Int) ∧ W3 = wx)
  case first =>
    by_cases h40 : len0 ≤ 40
    · have e : N = len0 := by omega
      go_wp2_with fail
      go_meet
      exact ⟨by rw [e] <;> rfl, rfl⟩
    · have e : N = 40 := by omega
      go_wp2_with fail
      go_meet
      exact ⟨by rw [e] <;> rfl, rfl⟩
  case rest =>
    obtain ⟨rfl, rfl⟩ := hcut
    have HNN := Lib.hid hN1
    clear hN
    go_upto_region 7 with (with_reducible refine wpList_alloc_run _ rfl 62 rfl (alloc_la _) ?_)
    obtain ⟨W4, hW4⟩ : ∃ W4, W4 = W3.alloc (.cells (laA fun _ => 0) 62) := ⟨_, rfl⟩
    obtain ⟨g7, hg7⟩ : ∃ g, g = W3.heap.size := ⟨_, rfl⟩
    simp only [Act.put, List.setIfInBounds_toArray, List.set_cons_zero, List.set_cons_succ]
    have hb4 : Below W3.heap.size W3 W4 := by rw [hW4]; exact below_one _ _
    have hk4 : Blk W4 g7 62 (laA fun _ => 0) := by rw [hW4, hg7]; exact Blk.new _ _ _
    have HL0 : Hid (PoL R W2 p g7 N (zs.take 0) (zs.take 0) N false (fun _ => 0) (fs0 100) W4) := ⟨HF3.out.more I hb4 (fun i e => .inr ⟨by rw [show i = g7 from e, hg7]; exact Nat.le_refl _, by rw [show i = g7 from e]; exact hk4.lt⟩), hk4, PoS.nil, PoW.nil⟩
    have HG7 : Hid (W2.heap.size ≤ g7) := by rw [hg7]; exact HF3.out.bel.size
    rw [← hW4, ← hg7]
    clear hW4 hg7 hb4 hk4 HF3
    go_upto_region 8 with (fail)
    obtain ⟨wo, rfl⟩ : ∃ wo : World, wo = W4 := ⟨_, rfl⟩
    go_loopw [5, 6, 8, 9, 10, 11, 26] (fun v5 v6 _ _ _ _ v26 wr => ∃ (i en : Nat) (fd : Bool) (L : Nat → Nat) (s : FS), v5 = .int .i64 (en : Int) ∧ v6 = .bool fd ∧ v26 = .int .i64 (i : Int) ∧ i ≤ N ∧ en ≤ N ∧ Hid (PoL R W2 p g7 N (zs.take i) (zs.take i) en fd L s wr)) (fun _ _ _ _ _ _ v26 _ => N - (intOf v26).toNat)
    case atStart => exact ⟨0, N, false, _, _, rfl, rfl, rfl, by omega, by omega, HL0⟩
    case round =>
      clear HL0
      obtain ⟨i, en, fd, L, s, rfl, rfl, rfl, hi, hen, HL⟩ := hrel
      by_cases hlt : i < N
      · obtain ⟨a, k, rfl, cz, hzk⟩ := HZ.out.2.2 (HB2.out.trans (HL.out.fv.bel.mono HB2.out.size)) i (by omega)
        have hkb := HZ.out.2.1 k (List.mem_of_getElem? hzk)
        have htk : zs.take (i + 1) = zs.take i ++ [k] := by rw [List.take_add_one, hzk]; rfl
        have hil : i = (zs.take i).length := by rw [List.length_take]; have := HZ.out.1; omega
        have HTK := Lib.hid htk
        have HIL := Lib.hid hil
        clear htk hil hzk
        have hs1 : (k : Int) / 4 % 4 = (strP k : Int) := by unfold strP; omega
        have hs2 : ((k : Int) / 16 % 2 == 1) = looP k := by
          unfold looP
          by_cases h1 : k / 16 % 2 = 1
          · rw [decide_eq_true h1, beq_iff_eq]; omega
          · rw [decide_eq_false h1]; exact beq_no (show ¬ (k : Int) / 16 % 2 = 1 by omega)
        have hw32 : IntKind.u32.wrap (i : Int) = (i : Int) := by rw [IntKind.wrap_u32]; have := HNN.out; omega
        have hnn := HNN.out
        have hsend := HL.out.send I (below_one wr (.cells #[.int .u8 120] 5 (1, 2))) HIL.out (k := k) (by omega) (Nat.le_refl _) (byt_of_heap (heap_alloc_new wr _) (by simp) rfl)
        go_upto_region 12 with (fail)
        clear hs1 hs2
        by_cases hm : k % 4 = 0
        · have hst : stayP k = true := decide_eq_true hm
          rw [hst] at hsend
          simp only [if_true] at hsend
          have HST := Lib.hid hst
          have hm1 : (k : Int) % 4 = 0 := by omega
          clear hst hm
          go_wp2_with (refine wpList_build_as rfl 35 _ rfl (bareA (poK k i) (some ⟨wr.heap.size, 0, none⟩) 1 1) (built_po k i _ 1 1) ?_)
          refine hsend.mono ?_
          rintro e W6 ⟨A6, c6, s6, rfl, HL6⟩
          clear hsend HL
          have hlen2 : (zs.take i).length < N := by rw [← HIL.out]; exact hlt
          have HL7 : Hid (PoL R W2 p g7 N (zs.take (i + 1)) (zs.take (i + 1)) (min en i) fd L s6 W6) := by
            have h9 := HL6.out.pw.stay HST.out hlen2
            rw [← HIL.out, ← HTK.out] at h9
            have h8 := HL6.out.ps
            rw [← HTK.out] at h8
            exact ⟨HL6.out.fv, HL6.out.la, h8, h9⟩
          clear HL6 hlen2
          by_cases hei : en ≤ i
          · rw [Nat.min_eq_left hei] at HL7
            have hei2 : (en : Int) ≤ (i : Int) := by omega
            go_wp2_with fail
            go_roundw
            case rel => exact ⟨i + 1, en, fd, L, s6, rfl, rfl, by go_num, by omega, by omega, HL7⟩
            case measure => simp [intOf]; omega
          · rw [Nat.min_eq_right (by omega)] at HL7
            have hei2 : ¬ (en : Int) ≤ (i : Int) := by omega
            go_wp2_with fail
            go_roundw
            case rel => exact ⟨i + 1, i, fd, L, s6, rfl, rfl, by go_num, by omega, by omega, HL7⟩
            case measure => simp [intOf]; omega
        · have hst : stayP k = false := decide_eq_false hm
          rw [hst] at hsend
          simp only [Bool.false_eq_true, if_false] at hsend
          have HST := Lib.hid hst
          have hm0 : ¬ (k : Int) % 4 = 0 := by omega
          have hm1 : ((k : Int) % 4 == 0) = false := beq_no hm0
          clear hst hm
          go_wp2_with (refine wpList_build_as rfl 35 _ rfl (bareA (poK k i) (some ⟨wr.heap.size, 0, none⟩) 1 1) (built_po k i _ 1 1) ?_)
          refine hsend.mono ?_
          rintro e W6 ⟨A6, c6, s6, rfl, HL6⟩
          clear hsend HL
          have hlen2 : (zs.take i).length < N := by rw [← HIL.out]; exact hlt
          by_cases hen2 : en = N
          · subst hen2
            have HL7 : Hid (PoL R W2 p g7 en (zs.take (i + 1)) (zs.take (i + 1)) en true (fun x => if x = atP k then i + 1 else L x) s6 (W6.setCell ⟨g7, atP k, none⟩ (.int .i64 ((i + 1 : Nat) : Int)))) := by
              have h9 := HL6.out.note I HST.out hlen2 HG7.out HIL.out
              rw [← HTK.out] at h9
              exact h9
            have cl := (HL6.out.la.cell (atP k)).trans (laA_at L (atP_lt k))
            have fl := HL6.out.la.frozen (atP k)
            have ha8 := atP_lt k
            obtain ⟨W7, hW7⟩ : ∃ W7, W7 = W6.setCell ⟨g7, atP k, none⟩ (.int .i64 ((i + 1 : Nat) : Int)) := ⟨_, rfl⟩
            rw [← hW7] at HL7
            rw [show ((i + 1 : Nat) : Int) = (i : Int) + 1 by omega] at hW7
            obtain ⟨at_, hat⟩ : ∃ x, x = atP k := ⟨_, rfl⟩
            obtain ⟨sp, hsp⟩ : ∃ x, x = strP k := ⟨_, rfl⟩
            have hae : at_ = 2 * sp + (if looP k = true then 1 else 0) := by rw [hat, hsp]; rfl
            rw [← hat] at cl fl ha8 hW7
            obtain ⟨lo, hlo⟩ : ∃ x, x = looP k := ⟨_, rfl⟩
            rw [← hlo] at hae ⊢
            rw [← hsp]
            clear hat hsp hlo HL6
            cases lo
            · have hae2 : (2 : Int) * (sp : Int) = (at_ : Int) := by simp at hae; omega
              have haw : wrap64 ((2 : Int) * (sp : Int)) = (at_ : Int) := by rw [hae2]; exact IntWalk.wrap64_in _ (by omega)
              clear hae
              go_wp2_with fail
              rw [← hW7]
              go_roundw
              case rel => exact ⟨i + 1, en, true, _, s6, rfl, rfl, by go_num, by omega, by omega, HL7⟩
              case measure => simp [intOf]; omega
            · have hae2 : (2 : Int) * (sp : Int) + 1 = (at_ : Int) := by simp at hae; omega
              clear hae
              go_wp2_with fail
              rw [← hW7]
              go_roundw
              case rel => exact ⟨i + 1, en, true, _, s6, rfl, rfl, by go_num, by omega, by omega, HL7⟩
              case measure => simp [intOf]; omega
          · have hen3 : ¬ (en : Int) = (N : Int) := by omega
            have hen4 : ((en : Int) == (N : Int)) = false := beq_no hen3
            have HL7 : Hid (PoL R W2 p g7 N (zs.take (i + 1)) (zs.take (i + 1)) en fd L s6 W6) := by
              have h9 := HL6.out.pw.skip HST.out hlen2 hen2
              rw [← HTK.out] at h9
              have h8 := HL6.out.ps
              rw [← HTK.out] at h8
              exact ⟨HL6.out.fv, HL6.out.la, h8, h9⟩
            clear HL6 hlen2
            go_wp2_with fail
            go_roundw
            case rel => exact ⟨i + 1, en, fd, L, s6, rfl, rfl, by go_num, by omega, by omega, HL7⟩
            case measure => simp [intOf]; omega
      · have hiN : i = N := by omega
        subst hiN
        have hun : (zs.take i).length = i := by rw [List.length_take]; have := HZ.out.1; omega
        have hi40 : i ≤ 1000 := by have := HNN.out; omega
        have hrow := HL.out.ps.row HL.out.pw hun
        have hpl : ((s.expire 6).told).ps.length = i := by show (s.ps.map _).length = _; rw [List.length_map, HL.out.ps.len, hun]
        have hsk := fun sk => HL.out.ps.skips (sk := sk) HL.out.pw hun hi40
        have hfd := HL.out.pw.fd
        have HLB : Hid (∀ x, L x ≤ 40) := fun x => by
          have h9 := HNN.out
          rcases HL.out.pw.la x with ⟨a, _⟩ | ⟨j, _, a, _, c, _⟩
          · rw [a]; omega
          · rw [c]; have := HL.out.pw.le; omega
        rw [hun, Nat.min_eq_left hen] at hfd
        have hmk : ((s.expire 6).told).mark = 99 := HL.out.ps.mark
        have HROW := Lib.hid hrow
        have HPL := Lib.hid hpl
        have HSK := Lib.hid hsk
        have HFD := Lib.hid hfd
        have HMK := Lib.hid hmk
        clear hun hi40 hrow hpl hsk hfd hmk
        go_wp2_with fail
        refine (HL.out.fv.expire I (now := 6) (by omega)).mono ?_
        rintro e W5 ⟨A5, c5, n5, l5, rfl, _, _, _, _, _, _, HF5, HKP5⟩
        have HLA5 := Lib.hid (HKP5.out.blk HL.out.la (fun hx => hx rfl))
        have HB5 : Hid (Below w.heap.size w W5) := HB2.out.trans (HF5.out.bel.mono HB2.out.size)
        clear HKP5 HL
        obtain ⟨s5, hs5⟩ : ∃ s5, s5 = (s.expire 6).told := ⟨_, rfl⟩
        rw [← hs5] at HF5 HROW HPL HSK HMK
        clear hs5
        go_wp2_with fail
        refine (HF5.out.point I (inter := true)).mono ?_
        rintro e W6 ⟨cs, ck, ok, rfl, HAT, HPT, HF6, HKP6⟩
        have HLA6 := Lib.hid (HKP6.out.blk HLA5.out (fun hx => hx (.inl rfl)))
        have HB6 : Hid (Below w.heap.size w W6) := HB2.out.trans (HF6.out.bel.mono HB2.out.size)
        have hcs : cs.size = 19 := HAT.out.size
        have HS1 : Hid ((Try.prog.info? 35).map (·.size) = some cs.size) := by rw [hcs]; exact chunk_info
        have HS2 : Hid ((ckArr (zeroC 0) nilV nilV nilV nilV nilV).size = cs.size) := by rw [hcs]; rfl
        clear HF5 HLA5 HKP6 HB5
        go_upto_region 25 with (first
          | (with_reducible refine wpList_alloc_run _ rfl 35 rfl (alloc_zk _) ?_)
          | (refine wpList_store_row rfl 35 _ _ rfl _ cs rfl rfl 35 (ckArr (zeroC 0) nilV nilV nilV nilV nilV) (Blk.new _ _ _) HS1.out HS2.out HAT.out.one ?_))
        try simp only [Act.put, List.setIfInBounds_toArray, List.set_cons_zero, List.set_cons_succ]
        obtain ⟨W7, hW7⟩ : ∃ W7, W7 = (W6.alloc (.cells (ckArr (zeroC 0) nilV nilV nilV nilV nilV) 35)).setRow W6.heap.size cs := ⟨_, rfl⟩
        obtain ⟨gs, hgs⟩ : ∃ gs, gs = W6.heap.size := ⟨_, rfl⟩
        have hb7 : Below W6.heap.size W6 W7 := by rw [hW7]; exact below_setRow (below_one W6 _) (Nat.le_refl _) _
        have HK7 : Hid (CkBlk W7 gs cs) := by rw [hW7, hgs]; exact setRow_heap _ _ _ _ _ _ (Blk.new W6 _ _)
        have HAT7 : Hid (CkAt W7 W7.heap.size cs ck) := (HAT.out.below hb7).more hb7.size
        have HLA7 := Lib.hid (blk_below HLA6.out hb7)
        have HB7 : Hid (Below w.heap.size w W7) := HB6.out.trans (hb7.mono HB6.out.size)
        rw [← hW7, ← hgs]
        clear hW7 hgs hb7 hcs HS1 HS2 HAT HLA6 HB6 HF6
        obtain ⟨g, dh, s0, p0, b0, C, Ls⟩ := HAT7.out.parts
        rcases HPT.out with ⟨h1, rfl, rfl⟩ | ⟨h1, rfl, sk, h2, h3⟩
        · have hfd2 : fd = false := by
            rw [HFD.out]
            refine decide_eq_false (fun hpos => ?_)
            rw [HROW.out] at h1
            have := congrArg List.length h1
            rw [List.length_take, HPL.out] at this
            simp at this
            omega
          subst hfd2
          have k16 : W7.cell? ⟨gs, 16, none⟩ = some (.slice s0.A 0 s0.cap) := by rw [HK7.out.cell 16, C.c16]; rfl
          clear C Ls
          go_wp2_with fail
          go_ret
          exact ⟨rfl, HB7.out⟩
        · have hfd2 : fd = true := by
            rw [HFD.out]
            refine decide_eq_true (Nat.pos_of_ne_zero fun e => h1 ?_)
            rw [HROW.out, e]; rfl
          subst hfd2
          have hskw : sk = wantP L 8 := HSK.out sk h2
          have hrl : s5.row.length = en := by rw [HROW.out, List.length_take, HPL.out]; omega
          have htn : ck.tsn = 99 + en := by
            rw [h3]
            show (s5.mark + s5.row.length) % 4294967296 = _
            rw [HMK.out, hrl]
            have := HNN.out
            omega
          have hcsk : ck.skips = sk := by rw [h3]; rfl
          have k16 : W7.cell? ⟨gs, 16, none⟩ = some (.slice s0.A sk.length s0.cap) := by rw [HK7.out.cell 16, C.c16, hcsk]
          have k5 : W7.cell? ⟨gs, 5, none⟩ = some (.int .u32 ((99 + en : Nat) : Int)) := by rw [HK7.out.cell 5, C.c5, htn]
          have HRS : Hid (Reads W7 W7.heap.size 3 s0.A sk.length (skC sk)) := by
            have := Ls.skips
            rw [hcsk] at this
            exact this
          have HSW := Lib.hid hskw
          clear C Ls htn hcsk hskw h1 h2 h3 hrl
          obtain ⟨la, hla⟩ : ∃ la, la = laA L := ⟨_, rfl⟩
          rw [← hla] at HLA7
          have HLS : Hid ((Try.prog.info? 62).map (·.size) = some la.size) := by rw [hla]; exact la_sz
          have HLE := Lib.hid hla
          clear hla
          go_upto_region 31 with (refine wpList_load_row rfl 62 _ rfl g7 rfl 62 la (0, 0) _ HLA7.out Try.underlying62 rfl HLS.out ?_)
          obtain ⟨wo, rfl⟩ : ∃ wo : World, wo = W7 := ⟨_, rfl⟩
          have HR0 : Hid (wo.ownsRow wo.heap.size 55 3 (.slice none 0 0) 0 (skC (wantP L 0)) ∧ Below wo.heap.size wo wo) := ⟨World.ownsRow_nil _ _ _ _, Below.refl _ _⟩
          obtain ⟨i0, hi0, hz0, hz1, hz2⟩ := info_parts3 skip_info
          go_loopw [14, 15, 16, 105] (fun v14 _ _ v105 wr => ∃ (x n : Nat) (A : Option Addr) (c : Nat), v14 = .slice A n c ∧ v105 = .int .i64 (x : Int) ∧ x ≤ 8 ∧ n ≤ x ∧ Hid (wr.ownsRow wo.heap.size 55 3 (.slice A n c) n (skC (wantP L x)) ∧ Below wo.heap.size wo wr)) (fun _ _ _ v105 _ => 8 - (intOf v105).toNat)
          case atStart => exact ⟨0, 0, none, 0, rfl, rfl, by omega, by omega, HR0⟩
          case round =>
            clear HR0
            obtain ⟨x, n, A, c, rfl, rfl, hx, hn, HR⟩ := hrel
            by_cases hlt : x < 8
            · obtain ⟨l, hl⟩ : ∃ l, l = L x := ⟨_, rfl⟩
              have hlb : l ≤ 40 := by rw [hl]; exact HLB.out x
              have hix : ∀ W : World, (Instr.index 62 (.agg la) (.int .i64 (x : Int))).run Try.prog W = .ok (.int .i64 (l : Int)) W := fun W => by rw [HLE.out, hl]; exact la_index L hlt W
              have hws := wantP_succ L x
              rw [← hl] at hws
              have HWS := Lib.hid hws
              clear hl hws
              by_cases h0 : 0 < l
              · have h01 : (0 : Int) < (l : Int) := by omega
                rw [if_pos h0] at HWS
                obtain ⟨q, hq⟩ : ∃ q, q = x / 2 := ⟨_, rfl⟩
                obtain ⟨b, hb⟩ : ∃ b, b = decide (x % 2 = 1) := ⟨_, rfl⟩
                obtain ⟨m, hm⟩ : ∃ m, m = l - 1 := ⟨_, rfl⟩
                have hq1 : (x : Int) / 2 = (q : Int) := by omega
                have hq2 : ((x : Int) % 2 == 1) = b := by
                  rw [hb]
                  by_cases h1 : x % 2 = 1
                  · rw [decide_eq_true h1, beq_iff_eq]; omega
                  · rw [decide_eq_false h1]; exact beq_no (show ¬ (x : Int) % 2 = 1 by omega)
                have hq3 : (l : Int) - 1 = (m : Int) := by omega
                have hq4 : IntKind.u16.wrap (q : Int) = (q : Int) := by simp [IntKind.wrap, IntKind.bits, IntKind.signed]; omega
                have hq5 : IntKind.u32.wrap (m : Int) = (m : Int) := by rw [IntKind.wrap_u32]; omega
                rw [← hq, ← hb, ← hm] at HWS
                clear hq hb hm
                have hHR := HR.out.2.size
                go_wp2_with (at_builtin; refine wpList_append_any _ rfl (.tmp 111) (.tmp 122) _ rfl wo.heap.size 55 i0 _ 3 8 Try.underlying32 hi0 hz0 hz1 hz2 rfl (by omega) (.slice A n c) n _ rfl (((Fr.refl (fun _ => False) wr).alloc _).own HR.out.1 (fun _ _ h => h)) (wr.heap.size + 1) (some ⟨wr.heap.size, 0, none⟩) 1 1 [.int .u16 (q : Int), .bool b, .int .u32 (m : Int)] rfl (blk_reads (Blk.new wr 55 #[.int .u16 (q : Int), .bool b, .int .u32 (m : Int)]) rfl) (by simp [Value.oneCell']) (by simp only [maxLen]; omega) (by omega) (by simp; omega) ?_; intro v7 w7 hown7 hg7 hat7; have HR7 : Hid (w7.ownsRow wo.heap.size 55 3 v7 (n + 1) (skC (wantP L (x + 1))) ∧ Below wo.heap.size wo w7) := ⟨by rw [HWS.out, skC_snoc]; exact hown7, below_fr (HR.out.2.trans ((below_one wr _).mono hHR)) (Fr.of_grown hg7) (Nat.le_refl _) (fun k e => (HR.out.1.lt k e.symm).1)⟩; obtain ⟨A7, c7, rfl, h7a, h7b⟩ := own_slice hown7; clear hown7 hg7 hat7)
                go_roundw
                case rel => exact ⟨x + 1, n + 1, A7, c7, rfl, by go_num, by omega, by omega, HR7⟩
                case measure => simp [intOf]; omega
              · have h01 : ¬ (0 : Int) < (l : Int) := by omega
                rw [if_neg h0, List.append_nil] at HWS
                have HR2 : Hid (wr.ownsRow wo.heap.size 55 3 (.slice A n c) n (skC (wantP L (x + 1))) ∧ Below wo.heap.size wo wr) := by rw [HWS.out]; exact HR.out
                go_wp2_with fail
                go_roundw
                case rel => exact ⟨x + 1, n, A, c, rfl, by go_num, by omega, by omega, HR2⟩
                case measure => simp [intOf]; omega
            · have hx8 : x = 8 := by omega
              subst hx8
              have hsn : sk.length = n := by
                have h9 := HR.out.1.1
                rw [skC_len', ← HSW.out] at h9
                omega
              have hb9 := HR.out.2
              have hkr := blk_below HK7.out hb9
              have k16' : wr.cell? ⟨gs, 16, none⟩ = some (.slice s0.A n s0.cap) := by rw [← hsn, ← k16]; exact hb9.cell HK7.out.lt
              obtain ⟨T, hT⟩ : ∃ T, T = 99 + en := ⟨_, rfl⟩
              have k5' : wr.cell? ⟨gs, 5, none⟩ = some (.int .u32 (T : Int)) := by rw [hT, ← k5]; exact hb9.cell HK7.out.lt
              have hnn := HNN.out
              have hw32 : IntKind.u32.wrap (en : Int) = (en : Int) := by rw [IntKind.wrap_u32]; omega
              have hT2 : (99 : Int) + (en : Int) = (T : Int) := by omega
              have hT3 : IntKind.u32.wrap (T : Int) = (T : Int) := by rw [IntKind.wrap_u32]; omega
              have hT4 : IntKind.u32.wrap ((99 : Int) + (en : Int)) = (T : Int) := by rw [hT2, hT3]
              have HRS' : Hid (Reads wr wr.heap.size 3 s0.A n (skC sk)) := by
                have := (HRS.out.below hb9).more hb9.size
                rw [hsn] at this
                exact this
              have HO : Hid (wr.ownsRow wo.heap.size 55 3 (.slice A n c) n (skC sk)) := by rw [HSW.out]; exact HR.out.1
              have HBW : Hid (Below w.heap.size w wr) := HB7.out.trans (hb9.mono HB7.out.size)
              have HSN := Lib.hid hsn
              clear hT hsn hb9 hkr k5 k16 HR HRS HK7 HAT7 HLA7 hnn
              have hn8 : n ≤ 9223372036854775807 := by omega
              have HCE : Hid (∀ j, j < n → ∃ (ad : Addr) (gr : Nat) (y1 : Nat) (y2 : Bool) (y3 : Nat), s0.A = some ad ∧ A = some ⟨gr, 0, none⟩ ∧ wr.cell? (ad.add (j * 3)) = some (.int .u16 (y1 : Int)) ∧ wr.cell? ⟨(ad.add (j * 3)).block, (ad.add (j * 3)).off + 1, none⟩ = some (.bool y2) ∧ wr.cell? ⟨(ad.add (j * 3)).block, (ad.add (j * 3)).off + 2, none⟩ = some (.int .u32 (y3 : Int)) ∧ wr.cell? ⟨gr, j * 3, none⟩ = some (.int .u16 (y1 : Int)) ∧ wr.cell? ⟨gr, j * 3 + 1, none⟩ = some (.bool y2) ∧ wr.cell? ⟨gr, j * 3 + 2, none⟩ = some (.int .u32 (y3 : Int))) := fun j hj => by
                obtain ⟨ad, y, hA, _, hy, d0, d1, d2⟩ := sk_cells HRS'.out HSN.out.symm hj
                obtain ⟨gr, cap, hv, _, _⟩ := HO.out.form (by omega)
                injection hv with hv1 _ hv2
                subst hv1 hv2
                obtain ⟨e0, e1, e2⟩ := skC_at sk j y hy
                exact ⟨ad, gr, y.1, y.2.1, y.2.2, hA, rfl, d0, d1, d2, by rw [HO.out.cellAt (j * 3) (by omega)]; exact e0, by rw [HO.out.cellAt (j * 3 + 1) (by omega)]; exact e1, by rw [HO.out.cellAt (j * 3 + 2) (by omega)]; exact e2⟩
              go_wp2_with fail
              obtain ⟨wq, rfl⟩ : ∃ wq : World, wq = wr := ⟨_, rfl⟩
              have HK16 : Hid (∀ m, (wq.drewN m).cell? ⟨gs, 16, none⟩ = some (.slice s0.A n s0.cap)) := fun m => k16'
              clear k16' k5' HRS' HO HSN
              go_loopw [17, 141] (fun _ v141 wr => ∃ (j : Nat), v141 = .int .i64 (j : Int) ∧ j ≤ n ∧ Hid (∃ m, wr = wq.drewN m)) (fun _ v141 _ => n - (intOf v141).toNat)
              case atStart => exact ⟨0, rfl, by omega, 0, rfl⟩
              case round =>
                obtain ⟨j, rfl, hj, HW⟩ := hrel
                by_cases hjn : j < n
                · obtain ⟨ad, gr, y1, y2, y3, hA, rfl, d0, d1, d2, e0, e1, e2⟩ := HCE.out j hjn
                  have k16'' : wr.cell? ⟨gs, 16, none⟩ = some (.slice (some ad) n s0.cap) := by obtain ⟨m, rfl⟩ := HW.out; rw [← hA]; exact HK16.out m
                  have d0' : wr.cell? (ad.add (j * 3)) = some (.int .u16 (y1 : Int)) := by obtain ⟨m, rfl⟩ := HW.out; exact d0
                  have d1' : wr.cell? ⟨(ad.add (j * 3)).block, (ad.add (j * 3)).off + 1, none⟩ = some (.bool y2) := by obtain ⟨m, rfl⟩ := HW.out; exact d1
                  have d2' : wr.cell? ⟨(ad.add (j * 3)).block, (ad.add (j * 3)).off + 2, none⟩ = some (.int .u32 (y3 : Int)) := by obtain ⟨m, rfl⟩ := HW.out; exact d2
                  have e0' : wr.cell? ⟨gr, j * 3, none⟩ = some (.int .u16 (y1 : Int)) := by obtain ⟨m, rfl⟩ := HW.out; exact e0
                  have e1' : wr.cell? ⟨gr, j * 3 + 1, none⟩ = some (.bool y2) := by obtain ⟨m, rfl⟩ := HW.out; exact e1
                  have e2' : wr.cell? ⟨gr, j * 3 + 2, none⟩ = some (.int .u32 (y3 : Int)) := by obtain ⟨m, rfl⟩ := HW.out; exact e2
                  clear d0 d1 d2 e0 e1 e2 hA
                  go_upto_region 41 with (fail)
                  go_quiet (fail)
                  have HW2 : Hid (∃ m, wr.drewN nq = wq.drewN m) := by
                    obtain ⟨m, e⟩ := HW.out
                    rw [e]
                    exact ⟨m + nq, by simp [World.drewN, Nat.add_assoc]⟩
                  go_wp2_with fail
                  go_roundw
                  case rel => exact ⟨j + 1, by go_num, by omega, HW2⟩
                  case measure => simp [intOf]; omega
                · go_wp2_with fail
                  go_ret
                  refine ⟨rfl, HBW.out.trans ?_⟩
                  obtain ⟨m, e⟩ := HW.out
                  rw [e]
                  exact (below_drewN (Below.refl _ _) m).mono HBW.out.size
end Go.Proofs.Yteobobodangbgaa.flightPoints
