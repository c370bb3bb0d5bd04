/-
  PROVED: CrcTells of flumelaw03 answers true for every input, and its arguments read afterwards as before. CONDITIONS: none beside the form's own.
-/
import Derived.Test.YtgbkmnmkejcogaaRows
import Derived.Test.YtgbkmnmkejcogaaCrcLaw
import Derived.Test.YtgbkmnmkejcogaaOpen
import Derived.WalkKit
import Derived.ProofKit
import Derived.OpenShut
import Derived.ShutString
import Derived.ChangeOld
import Derived.Below
namespace Go.Proofs.Ytgbkmnmkejcogaa.crcTells
open Go.ChangeShapes Go.WideShapes Go.ChangeAt Go.RowKit
open Go.ChangeMaps (open_string shut_string)
set_option linter.unusedVariables false

theorem own : ownKnob Try.prog.godebug = none := by kernel_rfl
theorem laidOut : laidOutB Try.prog = true := by kernel_rfl

/-- What the walk is told of a slice of integers that came in. -/
def IsRow (k : IntKind) (w : World) (a : Option Addr) (len cap : Nat) (zs : List Int) : Prop :=
  (a = none ∧ len = 0 ∧ cap = 0 ∧ zs = []) ∨
  ∃ x, a = some x ∧ len ≤ cap ∧ cap ≤ maxLen ∧ zs.length = cap ∧ (∀ i, i < zs.length → w.cell? (x.add i) = some (.int k (zs.getD i 0))) ∧ ∀ n ∈ zs, (Lit.int k n).wf = true

/-! ### The walk -/
open Words Crc
set_option maxHeartbeats 4000000 in
theorem walk {H : Type} {enc : TypeId × Value → H} {base : Nat} (a0 : Option Addr) (len0 cap0 : Nat) (z0 : List Int) (v1 : Value) (d1 : DataW H) (p1 : List MemPlace) (a2 : Int) (w : World) (w0 : IsRow .u8 w a0 len0 cap0 z0) (o1 : Value.okWide Try.prog w .any base 34 v1) (k1 : DataW.Trod enc Try.prog w 0 (fun _ => true) true 34 v1 d1 p1) (w2 : (Lit.int .u32 a2).wf = true) :
    Calls Try.prog 4 #[.slice a0 len0 cap0, v1, .int .u32 a2] w fun e w' => e = .returned (.bool true) ∧ Below w.heap.size w w' := by
  obtain ⟨l, hlen, hcap, hc63, hby⟩ := bytes_of w0
  subst hlen
  obtain ⟨y0, y1, rfl, hy0, hy1⟩ := open_array2 Try.underlying34 (by kernel_rfl) Try.underlying3 (by kernel_rfl) o1 k1
  have b2 := bounds_u32 w2
  obtain ⟨t, ht⟩ : ∃ t : Nat, a2 = (t : Int) := ⟨a2.toNat, by omega⟩
  subst ht
  have HBY := Lib.hid hby
  clear hby w0 w2 o1 k1 hy0 hy1
  obtain ⟨i0, hi0, hz0, hz1, hz2⟩ := info_parts3 u8_info
  obtain ⟨x, hx⟩ : ∃ x, x = l.take 2000 := ⟨_, rfl⟩
  have hx1 : l.length ≤ 2000 → x = l := fun h => by rw [hx, List.take_of_length_le h]
  have hx2 : ¬ l.length ≤ 2000 → x.length = 2000 := fun h => by rw [hx, List.length_take]; omega
  have hx3 : x.length ≤ 2000 ∧ x.length ≤ l.length := by rw [hx, List.length_take]; omega
  have HX := Lib.hid hx
  have HX1 := Lib.hid hx1
  have HX2 := Lib.hid hx2
  obtain ⟨hx3, hx4⟩ := hx3
  clear hx hx1 hx2
  go_enter Try.func4, Try.ntmps4
  go_wp2_with fail
  obtain ⟨w0, hw0⟩ : ∃ w0, w0 = w.alloc (.cells #[.int .i64 y0, .int .i64 y1] 34) := ⟨_, rfl⟩
  have HW0 : Hid (Below w.heap.size w w0) := by rw [hw0]; exact (Below.refl _ _).alloc (Nat.le_refl _) _
  have HBL : Hid (Blk w0 w.heap.size 34 #[.int .i64 y0, .int .i64 y1]) := by rw [hw0]; exact Blk.new _ _ _
  have HBY0 := Lib.hid ((HBY.out.below HW0.out).more HW0.out.size)
  have hgw : w.heap.size < w0.heap.size := HBL.out.lt
  rw [← hw0]
  clear hw0
  refine (first_any w0).mono ?_
  rintro e W1 ⟨rfl, hb1⟩
  have HB1 := Lib.hid hb1
  have HE := Lib.hid (own_empty W1 5)
  clear hb1
  go_upto_region 3 with (fail)
  go_cut [7] from 15 to 21 (fun s7 wx => ∃ n A1 c1, s7 = .slice A1 n c1 ∧ Hid (n = x.length) ∧ n ≤ 2000 ∧ n ≤ c1 ∧ c1 ≤ 9223372036854775807 ∧ Hid (wx.ownsRow w0.heap.size 5 1 (.slice A1 n c1) n (u8s x)) ∧ Hid (Below w0.heap.size w0 wx))
  case first =>
    by_cases h3 : (l.length : Int) ≤ 2000
    · have hxl := HX1.out (by omega)
      subst hxl
      go_wp2_with (at_builtin; refine wpList_append_any _ rfl (.tmp 15) (.tmp 20) _ rfl W1.heap.size 5 i0 _ 1 1 Try.underlying22 hi0 hz0 hz1 hz2 rfl (by omega) (.slice (some ⟨W1.heap.size, 0, none⟩) 0 0) 0 [] rfl HE.out w0.heap.size a0 x.length cap0 (u8s x) rfl ((HBY0.out.below HB1.out).alloc HB1.out.size _) (u8s_one x) (by simp only [maxLen]; omega) (by omega) (by simp) ?_; intro v1 w1 hown1 hg1 hat1; obtain ⟨n, A1, c1, rfl, HN, hnq, hnc, hc1, HO, HB2⟩ := copied HB1.out hown1 rfl hg1; clear hown1 hg1 hat1)
      go_meet
      exact ⟨n, A1, c1, rfl, HN, by omega, hnc, hc1, HO, HB2⟩
    · go_wp2_with (at_builtin; refine wpList_append_any _ rfl (.tmp 15) (.tmp 20) _ rfl W1.heap.size 5 i0 _ 1 1 Try.underlying22 hi0 hz0 hz1 hz2 rfl (by omega) (.slice (some ⟨W1.heap.size, 0, none⟩) 0 0) 0 [] rfl HE.out w0.heap.size a0 2000 cap0 (u8s x) rfl (by have := (((HBY0.out.take_ 2000).below HB1.out).alloc HB1.out.size (.cells #[] 5)); unfold Byt at this; rw [← HX.out, HX2.out (by omega)] at this; exact this) (u8s_one x) (by simp only [maxLen]; omega) (by omega) (by simp) ?_; intro v1 w1 hown1 hg1 hat1; obtain ⟨n, A1, c1, rfl, HN, hnq, hnc, hc1, HO, HB2⟩ := copied HB1.out hown1 (HX2.out (by omega)).symm hg1; clear hown1 hg1 hat1)
      go_meet
      exact ⟨n, A1, c1, rfl, HN, by omega, hnc, hc1, HO, HB2⟩
  case rest =>
    obtain ⟨n, A1, c1, rfl, HN, hn3, hnc, hc1, HO, HB2⟩ := hcut
    have BX : Byt wc wc.heap.size A1 x := by have := HO.out; rw [HN.out] at this; exact Reads.of_own this
    have HBX := Lib.hid BX
    clear BX
    have HBL2 := Lib.hid (HBL.out.below HB2.out hgw)
    by_cases h12 : (n : Int) < 12
    · go_wp2_with fail
      go_ret
      exact ⟨rfl, HW0.out.trans (HB2.out.mono HW0.out.size)⟩
    · by_cases ht0 : t = 0
      · subst ht0
        go_wp2_with fail
        go_ret
        exact ⟨rfl, HW0.out.trans (HB2.out.mono HW0.out.size)⟩
      · have hc0 : wc.cell? ⟨w.heap.size, 0, none⟩ = some (.int .i64 y0) := HBL2.out.cell 0
        have htn : ((t : Int) == 0) = false := by simp; omega
        have ht0' : 0 < t := by omega
        go_wp2_with fail
        obtain ⟨a, ha, han⟩ := u64rem y0 ((n : Int) - 3) (by omega) (by omega)
        rw [ha]
        clear ha hc0
        have ha4 : a + 4 ≤ n := by omega
        have HA4 : Hid (a + 4 ≤ x.length) := by rw [← HN.out]; exact ha4
        refine Calls.mono (by have := seal_any A1 x c1 a wc (by rw [← HN.out]; exact hnc) hc1 (by omega) HBX.out HA4.out; rw [← HN.out] at this; exact this) ?_
        rintro e W2 ⟨v, rfl, hown, hb2⟩
        obtain ⟨s, hs⟩ : ∃ s, s = sealL x a := ⟨_, rfl⟩
        rw [← hs] at hown
        have HNs : Hid (n = s.length) := by rw [hs, sealL_length _ _ HA4.out]; exact HN.out
        have HAs : Hid (a + 4 ≤ s.length) := by rw [← HNs.out]; exact ha4
        have HSS : Hid (sealedB s a = true) := by rw [hs]; exact sealed_seal _ _ HA4.out
        unfold Own at hown
        rw [← HNs.out] at hown
        obtain ⟨A2, c2, rfl, hn2, hc2⟩ := own_slice hown
        have HS2 := Lib.hid hown
        have HB3 := Lib.hid (HB2.out.trans (hb2.mono HB2.out.size))
        have BS : Byt W2 W2.heap.size A2 s := by have := HS2.out; rw [HNs.out] at this; exact Reads.of_own this
        have HBS := Lib.hid BS
        clear hown hb2 hs BS
        go_wp2_with fail
        refine Calls.mono (by have := sealed_any A2 s c2 a W2 (by rw [← HNs.out]; exact hn2) hc2 HBS.out HAs.out; rw [← HNs.out] at this; exact this) ?_
        rintro e W3 ⟨he, hb3⟩
        rw [HSS.out] at he
        subst he
        have HS3 : Hid (W3.ownsRow w0.heap.size 5 1 (.slice A2 n c2) n (u8s s)) := own_mono (HS2.out.kept (row := none) (by exact ⟨hb3.os, hb3.tape, hb3.output, hb3.size, fun k hk _ => hb3.block k hk⟩) (by rcases h : (Value.slice A2 n c2).ownBlock with _ | b; exact .inl rfl; exact .inr (fun e => by cases e))) HB2.out.size
        have HB4 := Lib.hid (HB3.out.trans (hb3.mono HB3.out.size))
        have hc1' : W3.cell? ⟨w.heap.size, 1, none⟩ = some (.int .i64 y1) := (HBL.out.below HB4.out hgw).cell 1
        clear hb3
        go_upto_region 11 with (fail)
        obtain ⟨k, hk, hkn⟩ := u64rem y1 (8 * (n : Int) - 31) (by omega) (by omega)
        rw [hk]
        clear hk hc1'
        by_cases hov : 8 * a ≤ k + 31 ∧ k < 8 * a + 32
        · obtain ⟨hov1, hov2⟩ := hov
          go_wp2_with fail
          go_ret
          exact ⟨rfl, HW0.out.trans (HB4.out.mono HW0.out.size)⟩
        · have HT : Hid (sealedB (turned s k t 32) a = false) := told HAs.out (by rw [← HNs.out]; omega) ht0 (by omega) (by omega) HSS.out
          obtain ⟨g, cap, hA2, hg1, hg2⟩ := HS3.out.form (by omega)
          injection hA2 with hA2 _ hcc
          subst hA2 hcc
          have hk32 : k + 32 ≤ 8 * n := by omega
          have hfin : 8 * a ≤ k + 31 ∧ ¬ k < 8 * a + 32 ∨ ¬ 8 * a ≤ k + 31 := by omega
          clear hov
          rcases hfin with ⟨hov1, hov2⟩ | hov1
          all_goals
            go_wp2_with fail
            go_loopw [12] (fun i wr => ∃ m : Nat, m ≤ 32 ∧ i = .int .i64 m ∧ Hid (wr.ownsRow w0.heap.size 5 1 (.slice (some ⟨g, 0, none⟩) n c2) n (u8s (turned s k t m))) ∧ Hid (Below w0.heap.size w0 wr)) (fun i _ => 32 - (intOf i).toNat)
            case atStart => exact ⟨0, by omega, rfl, HS3.out, HB4.out⟩
            case round =>
              obtain ⟨m, hm, rfl, ho, hb⟩ := hrel
              by_cases h32 : m < 32
              · have hbit := bit_of t m (by omega)
                by_cases htb : t.testBit m = true
                · have htt : (bits .and .u32 ((t : Int) / 2 ^ m) 1 == 1) = true := by rw [hbit, htb]; rfl
                  have hcell : wr.cell? ⟨g, (k + m) / 8, none⟩ = (u8s (turned s k t m))[(k + m) / 8]? := ho.out.cellAt ((k + m) / 8) (by omega)
                  rw [u8s_get, List.getElem?_eq_getElem (by rw [turned_length, ← HNs.out]; omega)] at hcell
                  simp only [Option.map_some] at hcell
                  have hfr := ho.out.frozenAt ((k + m) / 8)
                  have HST := Lib.hid (turn_stored ho.out htb (by rw [turned_length, ← HNs.out]; omega))
                  have HB5 := Lib.hid hb
                  clear hbit hb
                  go_wp2_with fail
                  go_roundw
                  case rel => exact ⟨m + 1, by omega, by go_num, HST.out, HB5.out.setCell (p := ⟨g, (k + m) / 8, none⟩) hg1 _⟩
                  case measure => simp [intOf]; omega
                · have htt : (bits .and .u32 ((t : Int) / 2 ^ m) 1 == 1) = false := by rw [hbit]; simp [B2, htb]
                  have HTM : Hid (turned s k t (m + 1) = turned s k t m) := by show (if t.testBit m = true then _ else _) = _; rw [if_neg htb]
                  clear hbit
                  go_wp2_with fail
                  go_roundw
                  case rel => exact ⟨m + 1, by omega, by go_num, by rw [HTM.out]; exact ho, hb⟩
                  case measure => simp [intOf]; omega
              · obtain rfl : m = 32 := by omega
                have BS2 : Byt wr wr.heap.size (some ⟨g, 0, none⟩) (turned s k t 32) := by have := ho.out; rw [HNs.out, ← turned_length s k t 32] at this; exact Reads.of_own this
                have HC : Hid (Calls Try.prog 13 #[.slice (some ⟨g, 0, none⟩) n c2, .int .i64 (a : Int)] wr fun e w' => e = .returned (.bool false) ∧ Below wr.heap.size wr w') := by
                  have := sealed_any (some ⟨g, 0, none⟩) (turned s k t 32) c2 a wr (by rw [turned_length, ← HNs.out]; exact hn2) hc2 BS2 (by rw [turned_length]; exact HAs.out)
                  rw [turned_length, ← HNs.out] at this
                  exact this.mono fun e w' h => ⟨by rw [h.1, HT.out], h.2⟩
                have HB5 := Lib.hid hb
                clear hb BS2
                go_wp2_with fail
                refine HC.out.mono ?_
                rintro e W6 ⟨rfl, hb6⟩
                go_wp2_with fail
                go_ret
                exact ⟨rfl, HW0.out.trans ((HB5.out.trans (hb6.mono HB5.out.size)).mono HW0.out.size)⟩

/-! ### The row's step -/
set_option maxRecDepth 100000 in
theorem lifted (os : Os) (started : os.Started) (H : Type) (enc : TypeId × Value → H) :
    ReturnsInHanded {} Try.checked os 4 .any (Rows.crcTellsSpec.pre6 enc Try.prog Try.f4 Rows.crcTellsRow.domain false) (Rows.crcTellsSpec.post enc Try.prog Try.f4 false true false false) := by
  refine returnsInHanded_of_change (C := Try.checked) own started (by kernel_rfl) Try.func4
    (ChangeSpec.witness6 (enc := enc) (C := Try.checked) false ⟨#[], #[.slice none 0 0, .agg #[.int .i64 0, .int .i64 0], .int .u32 0], []⟩ 8 (by kernel_rfl) (by kernel_rfl) (by kernel_rfl) (by kernel_rfl)) ?_
  intro W base args ds gs before hval0 hW hcnd _
  have hval : ∀ (j : Nat) t v, Try.f4.params[j]? = some t → args[j]? = some v → Value.okWide Try.prog W .any base t v := hval0
  have hW' := hW
  obtain ⟨p, q, hA0, hV, rfl, hfz, hnd⟩ := hW
  have hA : DataW.TrodAll enc Try.prog W 0 (fun _ => true) true Try.f4.params.toList args.toList ds p := hA0
  rw [Try.params4] at hA hval
  obtain ⟨v0, vs0, d0, ds0, p0, q0, hargs, rfl, rfl, h0, r0⟩ := trodAll_cons hA
  obtain ⟨v1, vs1, d1, ds1, p1, q1, rfl, rfl, rfl, h1, r1⟩ := trodAll_cons r0
  obtain ⟨v2, vs2, d2, ds2, p2, q2, rfl, rfl, rfl, h2, r2⟩ := trodAll_cons r1
  obtain ⟨rfl, rfl, rfl⟩ := trodAll_nil r2
  obtain rfl : args = #[v0, v1, v2] := by cases args; simp_all
  obtain ⟨rfl, rfl⟩ := trodVars_none hV
  obtain ⟨a0, len0, cap0, rfl⟩ := okWide_slice Try.underlying22 (hval 0 22 v0 rfl rfl)
  have k0 := h0
  have lt0 : ∀ x ∈ p0, x.block < W.heap.size := by obtain ⟨m, hm⟩ := k0; exact DataW.trod_lt m _ _ _ hm
  obtain ⟨z0, w0⟩ : ∃ zs, IsRow .u8 W a0 len0 cap0 zs := by
    obtain ⟨fuel, hf⟩ := h0
    rcases open_ints Try.underlying22 Try.underlying5 (by kernel_rfl) hf with ⟨hcs, _⟩ | ⟨x, l, c, zs, hcs, _, hl, hm, hz, _, hcell, hwz⟩
    · simp [Value.cells] at hcs
      obtain ⟨rfl, rfl, rfl⟩ := hcs
      exact ⟨[], .inl ⟨rfl, rfl, rfl, rfl⟩⟩
    · simp [Value.cells] at hcs
      obtain ⟨rfl, rfl, rfl⟩ := hcs
      exact ⟨zs, .inr ⟨_, rfl, hl, hm, by simpa using hz, hcell, hwz⟩⟩
  have lt1 : ∀ x ∈ p1, x.block < W.heap.size := by obtain ⟨m, hm⟩ := h1; exact DataW.trod_lt m _ _ _ hm
  obtain ⟨a2, rfl, rfl, rfl, w2⟩ := open_int Try.underlying25 (hval 2 25 v2 rfl rfl) h2
  clear hA0 hval0
  refine (walk a0 len0 cap0 z0 v1 d1 p1 a2 W w0 (hval 1 34 v1 rfl rfl) h1 w2).mono fun e W' ⟨he, bel⟩ => ?_
  subst he
  exact ⟨_, rfl, _, _, _, [], _, [], hW', trodAll_mk1 (shut_bool Try.underlying4 _), (trodAll_cons_mk (Below.trod laidOut (by kernel_rfl) (of_decide_eq_true (by kernel_rfl)) k0 bel lt0) (trodAll_cons_mk (Below.trod laidOut (by kernel_rfl) (of_decide_eq_true (by kernel_rfl)) h1 bel lt1) (trodAll_cons_mk (shut_int Try.underlying25 w2) trodAll_mk0))), rfl, bel.frame _, fun h => by cases h⟩

theorem over : Rows.crcTellsRow.holds Try.pinned (OpenSpec.ofChange Rows.crcTellsSpec) :=
  OpenClaim.holds_of_wide 4 Try.f4 rfl rfl rfl rfl rfl rfl rfl ⟨rfl, rfl, rfl, rfl, rfl⟩ rfl rfl rfl rfl rfl (by kernel_rfl) Try.func4 (by kernel_rfl)
    (of_decide_eq_true (by kernel_rfl)) (by unfold Func.isWrapper; first | (rw [if_pos (by decide +kernel)]; kernel_rfl) | (rw [if_neg (by decide +kernel)]; exact ⟨rfl, rfl⟩))
    (fun os started H enc _ => lifted os started H enc)

theorem proved : Rows.CrcTellsSaid := over
#print axioms proved
end Go.Proofs.Ytgbkmnmkejcogaa.crcTells
