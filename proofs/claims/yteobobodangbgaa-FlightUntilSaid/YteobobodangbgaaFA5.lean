/-
  Of the texts FlightUntilWalk: what the laws reach.
-/
import Derived.Test.YteobobodangbgaaRows
import Derived.Test.YteobobodangbgaaFA4
import Derived.WalkKit
import Derived.ProofKit
import Derived.OpenShut
import Derived.ShutString
import Derived.ChangeOld
import Derived.Below

namespace Go.Proofs.Yteobobodangbgaa.flightUntil
open Go.ChangeShapes Go.WideShapes Go.ChangeAt Go.RowKit
open Go.ChangeMaps (open_string shut_string)
set_option linter.unusedVariables false
set_option linter.unusedSimpArgs false
theorem own : ownKnob Try.prog.godebug = none := by kernel_rfl
theorem laidOut : laidOutB Try.prog = true := by kernel_rfl
/-- What the walk is told of a slice of integers that came in. -/
def IsRow (k : IntKind) (w : World) (a : Option Addr) (len cap : Nat) (zs : List Int) : Prop :=
  (a = none ∧ len = 0 ∧ cap = 0 ∧ zs = []) ∨
  ∃ x, a = some x ∧ len ≤ cap ∧ cap ≤ maxLen ∧ zs.length = cap ∧ (∀ i, i < zs.length → w.cell? (x.add i) = some (.int k (zs.getD i 0))) ∧ ∀ n ∈ zs, (Lit.int k n).wf = true
open Words Oct Par Chk Fl
theorem nat_u8 {x : Int} (h : (Lit.int .u8 x).wf = true) : ∃ n : Nat, x = n ∧ n ≤ 255 := by
  have := bounds_u8 h
  exact ⟨x.toNat, by omega, by omega⟩
set_option maxHeartbeats 1600000 in
set_option maxRecDepth 100000 in
theorem walk {R : World → (Nat → Prop) → Nat → Fl.FS → Prop} (I : Fl.FlI R) (a0 : Option Addr) (len0 cap0 : Nat) (z0 : List Int) (a1 : Int) (w : World) (w0 : IsRow .u8 w a0 len0 cap0 z0) (w1 : (Lit.int .u8 a1).wf = true) :
    Calls Try.prog 5 #[.slice a0 len0 cap0, .int .u8 a1] w fun e w' => e = .returned (.bool true) ∧ Below w.heap.size w w' := by
  have hw1 := bounds_u8 w1
  obtain ⟨now, rfl, hnow⟩ : ∃ n : Nat, a1 = n ∧ n < 256 := ⟨a1.toNat, by omega, by omega⟩
  have keep : ∀ {V : World}, Below w.heap.size w V → ∀ {p : Addr} {u : Value}, w.cell? p = some u → V.cell? p = some u := fun {V} hb {p u} h => (hb.cell (World.block_lt_of_cell? w _ h)).trans h
  obtain ⟨zs, hzs⟩ : ∃ zs, zs = z0.map Int.toNat := ⟨_, rfl⟩
  have HZ : Hid (len0 ≤ zs.length ∧ (∀ u ∈ zs, u < 256) ∧ ∀ {V : World}, Below w.heap.size w V → ∀ i, i < len0 → ∃ (a : Addr) (d : Nat), a0 = some a ∧ V.cell? (a.add i) = some (.int .u8 (d : Int)) ∧ zs[i]? = some d) := by
    rcases w0 with ⟨_, h2, _, h3⟩ | ⟨y, h1, h2, h3, h4, h5, h6⟩
    · subst h2
      refine ⟨Nat.zero_le _, fun u hu => ?_, fun _ i hi => by omega⟩
      rw [hzs, h3] at hu
      cases hu
    · refine ⟨by rw [hzs, List.length_map, h4]; exact h2, fun u hu => ?_, fun {V} hb i hi => ?_⟩
      · rw [hzs] at hu
        obtain ⟨x, hx, rfl⟩ := List.mem_map.1 hu
        obtain ⟨d, hd, hd2⟩ := nat_u8 (h6 x hx)
        omega
      · have hl : i < z0.length := by omega
        obtain ⟨d, hd, hd2⟩ := nat_u8 (h6 (z0.getD i 0) (by
          rw [List.getD_eq_getElem?_getD, List.getElem?_eq_getElem hl]
          exact List.getElem_mem hl))
        refine ⟨y, d, h1, by rw [← hd]; exact keep hb (h5 i hl), ?_⟩
        rw [hzs, List.getElem?_map, List.getElem?_eq_getElem hl]
        rw [List.getD_eq_getElem?_getD, List.getElem?_eq_getElem hl] at hd
        simp at hd
        rw [hd]
        simp
  have hlen : len0 ≤ 9223372036854775807 := by
    rcases w0 with ⟨_, h2, _⟩ | ⟨y, h1, h2, h3, _⟩
    · omega
    · unfold maxLen at h3; omega
  have kc := fun (w : World) (C : Array Value) (n c : Nat) => Lib.run_convert_bytes_const (P := Try.prog) w 23 5 C n c Try.underlying23 Try.underlying5
  obtain ⟨N, hN⟩ : ∃ N, N = min len0 40 := ⟨_, rfl⟩
  have hN1 : N ≤ len0 ∧ N ≤ 40 := by omega
  clear w0 keep hzs w1 hw1
  go_enter Try.func5, Try.ntmps5
  go_wp2_with fail
  refine (first_f I w).mono ?_
  rintro e W2 ⟨rfl, hb2⟩
  have HB2 := Lib.hid hb2
  clear hb2
  go_wp2_with fail
  refine (FV.new I (S := fun i => (Value.slice none 0 0).ownBlock = some i) W2 W2 (Below.refl _ _) (fun i h => by simp [Value.ownBlock] at h) 1 (by omega)).mono ?_
  rintro e W3 ⟨p, rfl, HF3, _⟩
  have HL0 : Hid (UnL R W2 p now (zs.take 0) (zs.take 0) (.slice none 0 0) 0 (fs0 1) [] W3) := ⟨HF3.out, World.ownsRow_nil _ _ _ _, UnS.nil 1, UnW.nil⟩
  clear HF3
  go_upto_region 4 with (fail)
  go_cut [6] from 15 to 17 (fun v6 wx => v6 = .int .i64 (N : Int) ∧ W3 = wx)
  case first =>
    by_cases h40 : len0 ≤ 40
    · have e : N = len0 := by omega
      go_wp2_with fail
      go_meet
      exact ⟨by rw [e] <;> rfl, rfl⟩
    · have e : N = 40 := by omega
      go_wp2_with fail
      go_meet
      exact ⟨by rw [e] <;> rfl, rfl⟩
  case rest =>
    obtain ⟨rfl, rfl⟩ := hcut
    have HNN := Lib.hid hN1
    clear hN
    obtain ⟨i0, hi0, hz0, hz1, hz2⟩ := info_parts3 int_infoF
    go_upto_region 7 with (fail)
    obtain ⟨wo, rfl⟩ : ∃ wo : World, wo = W3 := ⟨_, rfl⟩
    go_loopw [7, 8, 9, 19] (fun v7 v8 v9 v19 wr => ∃ (i n : Nat) (A : Option Addr) (c : Nat) (s : FS) (want : List Int), v7 = .slice A n c ∧ v19 = .int .i64 (i : Int) ∧ i ≤ N ∧ n ≤ i ∧ Hid (UnL R W2 p now (zs.take i) (zs.take i) (.slice A n c) n s want wr)) (fun _ _ _ v19 _ => N - (intOf v19).toNat)
    case atStart => exact ⟨0, 0, none, 0, _, [], rfl, rfl, by omega, by omega, HL0⟩
    case round =>
      clear HL0
      obtain ⟨i, n, A, c, s, want, rfl, rfl, hi, hni, HL⟩ := hrel
      by_cases hlt : i < N
      · obtain ⟨a, u, rfl, cz, hzu⟩ := HZ.out.2.2 (HB2.out.trans (HL.out.fv.bel.mono HB2.out.size)) i (by omega)
        have hub := HZ.out.2.1 u (List.mem_of_getElem? hzu)
        have htk : zs.take (i + 1) = zs.take i ++ [u] := by rw [List.take_add_one, hzu]; rfl
        have hil : i = (zs.take i).length := by rw [List.length_take]; have := HZ.out.1; omega
        have hw32 : IntKind.u32.wrap (u : Int) = (u : Int) := by rw [IntKind.wrap_u32]; omega
        have HTK := Lib.hid htk
        have HIL := Lib.hid hil
        clear htk hil hzu
        go_upto_region 10 with (fail)
        obtain ⟨W4, hW4⟩ : ∃ W4, W4 = wr.alloc (.cells #[.int .i64 2, .int .u32 (u : Int)] 39) := ⟨_, rfl⟩
        obtain ⟨g9, hg9⟩ : ∃ g, g = wr.heap.size := ⟨_, rfl⟩
        have HL4 : Hid (UnL R W2 p now (zs.take i) (zs.take i) (.slice A n c) n s want W4) := by rw [hW4]; exact HL.out.grows I (below_one _ _)
        have HK4 : Hid (Blk W4 g9 39 #[.int .i64 2, .int .u32 (u : Int)]) := by rw [hW4, hg9]; exact Blk.new _ _ _
        have cz4 : W4.cell? (a.add i) = some (.int .u8 (u : Int)) := by rw [hW4]; exact ((below_one wr _).cell (World.block_lt_of_cell? wr _ cz)).trans cz
        have HG9 : Hid (wr.heap.size ≤ g9) := Nat.le_of_eq hg9.symm
        have HB4 : Hid (Below wr.heap.size wr W4) := by rw [hW4]; exact below_one _ _
        have HNG : Hid (¬ (Value.slice A n c).ownBlock = some g9) := fun e => by have := (HL.out.own.lt g9 e).2; omega
        have HBS : Hid (W2.heap.size ≤ W4.heap.size) := HL4.out.fv.bel.size
        rw [← hW4, ← hg9]
        clear hW4 hg9
        go_cut [33] from 28 to 33 (fun v33 wx => ∃ b : Bool, v33 = .bool b ∧ Hid (b = decide (u % 5 = 0)) ∧ W4 = wx)
        case first =>
          by_cases hm : u % 5 = 0
          · have hm1 : (u : Int) % 5 = 0 := by omega
            go_wp2_with fail
            go_meet
            exact ⟨true, rfl, (decide_eq_true hm).symm, rfl⟩
          · have hm0 : ¬ (u : Int) % 5 = 0 := by omega
            have hm1 : ((u : Int) % 5 == 0) = false := beq_no hm0
            go_wp2_with fail
            go_meet
            exact ⟨false, rfl, (decide_eq_false hm).symm, rfl⟩
        case rest =>
          obtain ⟨b, rfl, HMB, rfl⟩ := hcut
          go_step
          go_cut [7] from 34 to 44 (fun v7 wx => ∃ (n' : Nat) (A' : Option Addr) (c' : Nat) (want' : List Int), v7 = .slice A' n' c' ∧ n' ≤ i + 1 ∧ Hid (UnL R W2 p now (zs.take i) (zs.take i ++ [u]) (.slice A' n' c') n' s want' wx) ∧ Hid (Blk wx g9 39 #[.int .i64 (lkU u : Int), .int .u32 (lnU u : Int)]))
          case first =>
            cases b
            · have hm : ¬ u % 5 = 0 := of_decide_eq_false HMB.out.symm
              have HBL : Hid (Blk W4 g9 39 #[.int .i64 (lkU u : Int), .int .u32 (lnU u : Int)]) := by
                unfold lkU lnU
                rw [if_neg hm, if_neg hm]
                exact HK4.out
              have HDU : Hid (deadU now u = decide (u < now)) := by
                unfold deadU Hid
                rw [decide_eq_true (show u % 5 ≠ 0 from hm), Bool.true_and]
              clear hm
              by_cases hun : u < now
              · have HY := Lib.hid (HDU.out.trans (decide_eq_true hun))
                have HOW : Hid ((W4.alloc (.cells #[.int .i64 (i : Int)] 3)).ownsRow W2.heap.size 3 1 (.slice A n c) n (z64 want)) := ((Fr.refl (fun _ => False) W4).alloc _).own HL4.out.own (fun _ _ h => h)
                have HBA : Hid (Blk (W4.alloc (.cells #[.int .i64 (i : Int)] 3)) g9 39 #[.int .i64 (lkU u : Int), .int .u32 (lnU u : Int)]) := blk_below HBL.out (below_one _ _)
                have hnn := HNN.out
                go_wp2_with (at_builtin; refine wpList_append_any _ rfl (.tmp 41) (.tmp 43) _ rfl W2.heap.size 3 i0 _ 1 8 Try.underlying50 hi0 hz0 hz1 hz2 rfl (by omega) (.slice A n c) n _ rfl HOW.out (W4.heap.size + 1) (some ⟨W4.heap.size, 0, none⟩) 1 1 [.int .i64 (i : Int)] rfl (blk_reads (Blk.new W4 3 #[.int .i64 (i : Int)]) rfl) (by simp [Value.oneCell']) (by simp only [maxLen]; omega) (by omega) (by have := HBS.out; simp; omega) ?_; intro v7 w7 hown7 hg7 hat7; have H7 := Lib.hid (HL4.out.yes I HY.out HIL.out (below_one W4 _) hown7 hg7 hat7); have HK7 := Lib.hid ((Fr.of_grown hg7).blk HBA.out (fun e => HNG.out e.symm)); obtain ⟨A7, c7, rfl, h7a, h7b⟩ := own_slice hown7; clear hown7 hg7 hat7)
                go_meet
                exact ⟨n + 1, A7, c7, _, rfl, by omega, H7, HK7⟩
              · have HY := Lib.hid (HDU.out.trans (decide_eq_false hun))
                go_wp2_with fail
                go_meet
                exact ⟨n, A, c, want, rfl, by omega, HL4.out.no HY.out, HBL⟩
            · have hm : u % 5 = 0 := of_decide_eq_true HMB.out.symm
              have HDU : Hid (deadU now u = false) := by
                unfold deadU Hid
                rw [decide_eq_false (show ¬ u % 5 ≠ 0 from fun e => e hm), Bool.false_and]
              have HLU : Hid (lkU u = 0 ∧ lnU u = 0) := by unfold lkU lnU Hid; rw [if_pos hm, if_pos hm]; exact ⟨rfl, rfl⟩
              have c90 := HK4.out.cell 0
              have c91 := HK4.out.cell 1
              have f90 := HK4.out.frozen 0
              have f91 := HK4.out.frozen 1
              simp only [List.getElem?_toArray, List.getElem?_cons_succ, List.getElem?_cons_zero] at c90 c91
              have HL5 : Hid (UnL R W2 p now (zs.take i) (zs.take i) (.slice A n c) n s want ((W4.setCell ⟨g9, 0, none⟩ (.int .i64 0)).setCell ⟨g9, 1, none⟩ (.int .u32 0))) := HL.out.grows I (below_fr HB4.out (((Fr.refl (fun k => k = g9) W4).setCell (p := ⟨g9, 0, none⟩) (.inl rfl) _).setCell (p := ⟨g9, 1, none⟩) (.inl rfl) _) (Nat.le_refl _) (fun x e => by rw [show x = g9 from e]; exact HG9.out))
              have HK5 : Hid (Blk ((W4.setCell ⟨g9, 0, none⟩ (.int .i64 0)).setCell ⟨g9, 1, none⟩ (.int .u32 0)) g9 39 #[.int .i64 (lkU u : Int), .int .u32 (lnU u : Int)]) := by
                rw [HLU.out.1, HLU.out.2]
                exact (HK4.out.set_ 0 _).set_ 1 _
              go_wp2_with fail
              go_meet
              exact ⟨n, A, c, want, rfl, by omega, HL5.out.no HDU.out, HK5⟩
          case rest =>
            obtain ⟨n', A', c', want', rfl, hn', HL5, HB5⟩ := hcut
            obtain ⟨lk, hlk⟩ : ∃ x, x = lkU u := ⟨_, rfl⟩
            obtain ⟨ln, hln⟩ : ∃ x, x = lnU u := ⟨_, rfl⟩
            rw [← hlk, ← hln] at HB5
            have HLK := Lib.hid hlk
            have HLN := Lib.hid hln
            have hli : (Try.prog.info? 39).map (·.size) = some (#[.int .i64 (lk : Int), .int .u32 (ln : Int)] : Array Value).size := by kernel_rfl
            have hw16 : IntKind.u16.wrap (i : Int) = (i : Int) := by simp [IntKind.wrap, IntKind.bits, IntKind.signed]; have := HNN.out; omega
            clear hlk hln
            go_wp2_with (first
              | (refine wpList_load_row rfl 39 _ rfl g9 rfl 39 #[.int .i64 (lk : Int), .int .u32 (ln : Int)] (0, 0) _ HB5.out Try.underlying39 rfl hli ?_)
              | (refine wpList_build_as rfl 35 _ rfl (bareA (unK i) (some ⟨wc.heap.size, 0, none⟩) 1 1) (built_un i _ 1 1) ?_))
            have hs := HL5.out.send I (below_one wc (.cells #[.int .u8 120] 5 (1, 2))) HIL.out (by have := HNN.out; omega) hub (Nat.le_refl _) (byt_of_heap (heap_alloc_new wc _) (by simp) rfl)
            rw [← HLK.out, ← HLN.out] at hs
            refine hs.mono ?_
            rintro e W6 ⟨A6, c6, s6, rfl, HL6'⟩
            have HL6 : Hid (UnL R W2 p now (zs.take (i + 1)) (zs.take (i + 1)) (.slice A' n' c') n' s6 want' W6) := by rw [HTK.out]; exact HL6'.out
            clear hs HL6' HB5 HL5
            go_wp2_with fail
            go_roundw
            case rel => exact ⟨i + 1, n', A', c', s6, want', rfl, by go_num, by omega, by omega, HL6⟩
            case measure => simp [intOf]; omega
      · have hiN : i = N := by omega
        subst hiN
        have hun : (zs.take i).length = i := by rw [List.length_take]; have := HZ.out.1; omega
        have husb : ∀ v ∈ zs.take i, v < 256 := fun v hv => HZ.out.2.1 v (List.mem_of_mem_take hv)
        have hgo := fun x => HL.out.un.gone_iff HL.out.uw hnow husb x
        have hlf := HL.out.un.left_eq HL.out.uw hnow husb
        have hwn : want.length = n := by have := HL.out.own.1; simp [z64] at this; omega
        rw [hun, hwn] at hlf
        have hw32 : IntKind.u32.wrap (now : Int) = (now : Int) := by rw [IntKind.wrap_u32]; omega
        have HGO := Lib.hid hgo
        have HLF := Lib.hid hlf
        have HWN := Lib.hid hwn
        clear hun husb hgo hlf hwn
        go_wp2_with fail
        refine (HL.out.fv.expire I (now := now) (by omega)).mono ?_
        rintro e W5 ⟨A5, c5, n5, l5, rfl, h5a, h5b, H5N, HRD, H5S, H5M, HF5, HKP5⟩
        have hlw : l5 = want := up_eq _ _ H5S.out HL.out.uw.srt (fun x => by rw [H5M.out, HGO.out])
        subst hlw
        obtain rfl : n5 = n := H5N.out.trans HWN.out
        have HO5 : Hid (W5.ownsRow W2.heap.size 3 1 (.slice A n5 c) n5 (z64 l5)) := HKP5.out.own HL.out.own (fun g hg hx => hx hg)
        clear H5N H5S H5M HKP5 HL HGO
        obtain ⟨L, hL⟩ : ∃ L, L = (s.expire now).told.left := ⟨_, rfl⟩
        have hlf := HLF.out
        rw [← hL] at hlf
        have hsub : wrap64 ((i : Int) - (n5 : Int)) = (L : Int) := by rw [IntWalk.wrap64_in _ (by omega)]; omega
        have hsub2 : (i : Int) - (n5 : Int) = (L : Int) := by omega
        have HLL := Lib.hid hL
        clear HLF hlf hL
        go_wp2_with fail
        refine (HF5.out.left I).mono ?_
        rintro e W6 ⟨rfl, HF6, HKP6⟩
        rw [← HLL.out]
        have HO6 : Hid (W6.ownsRow W2.heap.size 3 1 (.slice A n5 c) n5 (z64 l5)) := HKP6.out.own HO5.out (fun g hg hx => hx (.inl hg))
        have HR6 : Hid (Reads W6 W6.heap.size 1 A5 n5 (z64 l5)) := ⟨HRD.out.1, fun hn => by
          obtain ⟨ad, e, hb, hc⟩ := HRD.out.2 hn
          refine ⟨ad, e, Nat.lt_of_lt_of_le hb HKP6.out.size, fun j u hu => ?_⟩
          have h9 := HKP6.out.block (ad.add j).block (by rw [block_of_add]; exact hb) (fun hx => hx (.inr ⟨ad.block, by rw [e]; rfl, (block_of_add ad j).symm⟩))
          rw [World.cell?_of_block h9]
          exact hc j u hu⟩
        clear HRD HO5 HKP6 HF5
        go_wp2_with fail
        refine (HF6.out.expire I (now := now) (by omega)).mono ?_
        rintro e W7 ⟨A7, c7, n7, l7, rfl, h7a, h7b, H7N, _, _, H7M, HF7, HKP7⟩
        have hl7 : l7 = [] := List.eq_nil_iff_forall_not_mem.2 (fun x hx => by
          have h9 := (H7M.out x).1 hx
          rw [expire_twice] at h9
          cases h9)
        obtain rfl : n7 = 0 := by rw [H7N.out, hl7]; rfl
        have HO7 : Hid (W7.ownsRow W2.heap.size 3 1 (.slice A n5 c) n5 (z64 l5)) := HKP7.out.own HO6.out (fun g hg hx => hx (.inl hg))
        have HR7 : Hid (Reads W7 W7.heap.size 1 A5 n5 (z64 l5)) := ⟨HR6.out.1, fun hn => by
          obtain ⟨ad, e, hb, hc⟩ := HR6.out.2 hn
          refine ⟨ad, e, Nat.lt_of_lt_of_le hb HKP7.out.size, fun j u hu => ?_⟩
          have h9 := HKP7.out.block (ad.add j).block (by rw [block_of_add]; exact hb) (fun hx => hx (.inr ⟨ad.block, by rw [e]; rfl, (block_of_add ad j).symm⟩))
          rw [World.cell?_of_block h9]
          exact hc j u hu⟩
        have HBE : Hid (Below w.heap.size w W7) := HB2.out.trans (HF7.out.bel.mono HB2.out.size)
        have HCE : Hid (∀ j, j < n5 → ∃ (ad : Addr) (gr : Nat) (z : Int), A5 = some ad ∧ A = some ⟨gr, 0, none⟩ ∧ W7.cell? (ad.add j) = some (.int .i64 z) ∧ W7.cell? ⟨gr, j, none⟩ = some (.int .i64 z)) := fun j hj => by
          obtain ⟨ad, hA, _, hc⟩ := HR7.out.2 (by omega)
          obtain ⟨gr, cap, hv, _, _⟩ := HO7.out.form (by omega)
          injection hv with hv1 _ hv2
          subst hv1 hv2
          have hjl : j < l5.length := by have := HWN.out; omega
          have h3 : (z64 l5)[j]? = some (.int .i64 l5[j]) := by unfold z64; rw [List.getElem?_map, List.getElem?_eq_getElem hjl]; rfl
          exact ⟨ad, gr, l5[j], hA, rfl, hc j _ h3, by rw [HO7.out.cellAt j (by omega), h3]⟩
        clear HF6 HR6 HO6 HKP7 H7N H7M hl7 HF7
        go_wp2_with fail
        obtain ⟨wo, rfl⟩ : ∃ wo : World, wo = W7 := ⟨_, rfl⟩
        go_loopw [11, 83] (fun _ v83 wr => ∃ (j : Nat), v83 = .int .i64 (j : Int) ∧ j ≤ n5 ∧ Hid (∃ m, wr = wo.drewN m)) (fun _ v83 _ => n5 - (intOf v83).toNat)
        case atStart => exact ⟨0, rfl, by omega, 0, rfl⟩
        case round =>
          obtain ⟨j, rfl, hj, HW⟩ := hrel
          by_cases hlt : j < n5
          · obtain ⟨ad, gr, z, rfl, rfl, h1, h2⟩ := HCE.out j hlt
            have h1' : wr.cell? (ad.add j) = some (.int .i64 z) := by obtain ⟨m, rfl⟩ := HW.out; exact h1
            have h2' : wr.cell? ⟨gr, j, none⟩ = some (.int .i64 z) := by obtain ⟨m, rfl⟩ := HW.out; exact h2
            clear h1 h2
            go_upto_region 22 with (fail)
            go_quiet (fail)
            have HW2 : Hid (∃ m, wr.drewN nq = wo.drewN m) := by
              obtain ⟨m, e⟩ := HW.out
              rw [e]
              exact ⟨m + nq, by simp [World.drewN, Nat.add_assoc]⟩
            go_wp2_with fail
            go_roundw
            case rel => exact ⟨j + 1, by go_num, by omega, HW2⟩
            case measure => simp [intOf]; omega
          · go_wp2_with fail
            go_ret
            refine ⟨rfl, HBE.out.trans ?_⟩
            obtain ⟨m, e⟩ := HW.out
            rw [e]
            exact (below_drewN (Below.refl _ _) m).mono HBE.out.size
end Go.Proofs.Yteobobodangbgaa.flightUntil
