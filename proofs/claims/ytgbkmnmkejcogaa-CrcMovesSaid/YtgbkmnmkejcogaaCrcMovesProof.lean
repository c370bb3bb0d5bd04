/-
  PROVED: CrcMoves of flumelaw03 answers true for every input, and its arguments read afterwards as before. CONDITIONS: none beside the form's own.
-/
import Derived.Test.YtgbkmnmkejcogaaRows
import Derived.Test.YtgbkmnmkejcogaaCrcLaw
import Derived.Test.YtgbkmnmkejcogaaOpen
import Derived.WalkKit
import Derived.ProofKit
import Derived.OpenShut
import Derived.ShutString
import Derived.ChangeOld
import Derived.Below
namespace Go.Proofs.Ytgbkmnmkejcogaa.crcMoves
open Go.ChangeShapes Go.WideShapes Go.ChangeAt Go.RowKit
open Go.ChangeMaps (open_string shut_string)
set_option linter.unusedVariables false

theorem own : ownKnob Try.prog.godebug = none := by kernel_rfl
theorem laidOut : laidOutB Try.prog = true := by kernel_rfl

/-- What the walk is told of a slice of integers that came in. -/
def IsRow (k : IntKind) (w : World) (a : Option Addr) (len cap : Nat) (zs : List Int) : Prop :=
  (a = none ∧ len = 0 ∧ cap = 0 ∧ zs = []) ∨
  ∃ x, a = some x ∧ len ≤ cap ∧ cap ≤ maxLen ∧ zs.length = cap ∧ (∀ i, i < zs.length → w.cell? (x.add i) = some (.int k (zs.getD i 0))) ∧ ∀ n ∈ zs, (Lit.int k n).wf = true

/-! ### The walk -/
open Words Crc
set_option maxHeartbeats 4000000 in
theorem walk {H : Type} {enc : TypeId × Value → H} {base : Nat} (a0 : Option Addr) (len0 cap0 : Nat) (z0 : List Int) (a1 : Int) (v2 : Value) (d2 : DataW H) (p2 : List MemPlace) (w : World) (w0 : IsRow .u8 w a0 len0 cap0 z0) (w1 : (Lit.int .i64 a1).wf = true) (o2 : Value.okWide Try.prog w .any base 37 v2) (k2 : DataW.Trod enc Try.prog w 0 (fun _ => true) true 37 v2 d2 p2) :
    Calls Try.prog 6 #[.slice a0 len0 cap0, .int .i64 a1, v2] w fun e w' => e = .returned (.bool true) ∧ Below w.heap.size w w' := by
  obtain ⟨l, hlen, hcap, hc63, hby⟩ := bytes_of w0
  subst hlen
  have ha1 := bounds_i64 w1
  obtain ⟨x0, x1, x2, x3, rfl, hx0, hx1, hx2, hx3⟩ := open_array4 Try.underlying37 (by kernel_rfl) Try.underlying5 (by kernel_rfl) o2 k2
  have b0 := bounds_u8' hx0
  have b1 := bounds_u8' hx1
  have b2 := bounds_u8' hx2
  have b3 := bounds_u8' hx3
  obtain ⟨s, q0, q1, q2, q3⟩ := byte_word x0 x1 x2 x3 b0 b1 b2 b3
  have Q0 := Lib.hid q0
  have Q1 := Lib.hid q1
  have Q2 := Lib.hid q2
  have Q3 := Lib.hid q3
  have HBY := Lib.hid hby
  clear hby w0 w1 o2 k2 hx0 hx1 hx2 hx3 q0 q1 q2 q3
  obtain ⟨i0, hi0, hz0, hz1, hz2⟩ := info_parts3 u8_info
  obtain ⟨x, hx⟩ : ∃ x, x = l.take 2000 := ⟨_, rfl⟩
  have hx1 : l.length ≤ 2000 → x = l := fun h => by rw [hx, List.take_of_length_le h]
  have hx2 : ¬ l.length ≤ 2000 → x.length = 2000 := fun h => by rw [hx, List.length_take]; omega
  have hx3 : x.length ≤ 2000 ∧ x.length ≤ l.length := by rw [hx, List.length_take]; omega
  have HX := Lib.hid hx
  have HX1 := Lib.hid hx1
  have HX2 := Lib.hid hx2
  obtain ⟨hx3, hx4⟩ := hx3
  clear hx hx1 hx2
  go_enter Try.func6, Try.ntmps6
  go_wp2_with fail
  obtain ⟨w0, hw0⟩ : ∃ w0, w0 = w.alloc (.cells #[.int .u8 x0, .int .u8 x1, .int .u8 x2, .int .u8 x3] 37) := ⟨_, rfl⟩
  have HW0 : Hid (Below w.heap.size w w0) := by rw [hw0]; exact (Below.refl _ _).alloc (Nat.le_refl _) _
  have HBL : Hid (Blk w0 w.heap.size 37 #[.int .u8 x0, .int .u8 x1, .int .u8 x2, .int .u8 x3]) := by rw [hw0]; exact Blk.new _ _ _
  have HBY0 := Lib.hid ((HBY.out.below HW0.out).more HW0.out.size)
  have hgw : w.heap.size < w0.heap.size := HBL.out.lt
  rw [← hw0]
  clear hw0
  refine (first_any w0).mono ?_
  rintro e W1 ⟨rfl, hb1⟩
  have HB1 := Lib.hid hb1
  have HE := Lib.hid (own_empty W1 5)
  clear hb1
  go_upto_region 3 with (fail)
  go_cut [7] from 17 to 23 (fun s7 wx => ∃ n A1 c1, s7 = .slice A1 n c1 ∧ Hid (n = x.length) ∧ n ≤ 2000 ∧ n ≤ c1 ∧ c1 ≤ 9223372036854775807 ∧ Hid (wx.ownsRow w0.heap.size 5 1 (.slice A1 n c1) n (u8s x)) ∧ Hid (Below w0.heap.size w0 wx))
  case first =>
    by_cases h3 : (l.length : Int) ≤ 2000
    · have hxl := HX1.out (by omega)
      subst hxl
      go_wp2_with (at_builtin; refine wpList_append_any _ rfl (.tmp 17) (.tmp 22) _ rfl W1.heap.size 5 i0 _ 1 1 Try.underlying22 hi0 hz0 hz1 hz2 rfl (by omega) (.slice (some ⟨W1.heap.size, 0, none⟩) 0 0) 0 [] rfl HE.out w0.heap.size a0 x.length cap0 (u8s x) rfl ((HBY0.out.below HB1.out).alloc HB1.out.size _) (u8s_one x) (by simp only [maxLen]; omega) (by omega) (by simp) ?_; intro v1 w1 hown1 hg1 hat1; obtain ⟨n, A1, c1, rfl, HN, hnq, hnc, hc1, HO, HB2⟩ := copied HB1.out hown1 rfl hg1; clear hown1 hg1 hat1)
      go_meet
      exact ⟨n, A1, c1, rfl, HN, by omega, hnc, hc1, HO, HB2⟩
    · go_wp2_with (at_builtin; refine wpList_append_any _ rfl (.tmp 17) (.tmp 22) _ rfl W1.heap.size 5 i0 _ 1 1 Try.underlying22 hi0 hz0 hz1 hz2 rfl (by omega) (.slice (some ⟨W1.heap.size, 0, none⟩) 0 0) 0 [] rfl HE.out w0.heap.size a0 2000 cap0 (u8s x) rfl (by have := (((HBY0.out.take_ 2000).below HB1.out).alloc HB1.out.size (.cells #[] 5)); unfold Byt at this; rw [← HX.out, HX2.out (by omega)] at this; exact this) (u8s_one x) (by simp only [maxLen]; omega) (by omega) (by simp) ?_; intro v1 w1 hown1 hg1 hat1; obtain ⟨n, A1, c1, rfl, HN, hnq, hnc, hc1, HO, HB2⟩ := copied HB1.out hown1 (HX2.out (by omega)).symm hg1; clear hown1 hg1 hat1)
      go_meet
      exact ⟨n, A1, c1, rfl, HN, by omega, hnc, hc1, HO, HB2⟩
  case rest =>
    obtain ⟨n, A1, c1, rfl, HN, hn3, hnc, hc1, HO, HB2⟩ := hcut
    have BX : Byt wc wc.heap.size A1 x := by have := HO.out; rw [HN.out] at this; exact Reads.of_own this
    have HBX := Lib.hid BX
    clear BX
    by_cases hf : 0 ≤ a1 ∧ a1 + 4 ≤ (n : Int)
    · obtain ⟨hf0, hf1⟩ := hf
      obtain ⟨p, hp⟩ : ∃ p : Nat, a1 = (p : Int) := ⟨a1.toNat, by omega⟩
      subst hp
      have hp4 : p + 4 ≤ n := by omega
      have HP4 : Hid (p + 4 ≤ x.length) := by rw [← HN.out]; exact hp4
      go_wp2_with fail
      refine Calls.mono (by have := seal_any A1 x c1 p wc (by rw [← HN.out]; exact hnc) hc1 (by omega) HBX.out HP4.out; rw [← HN.out] at this; exact this) ?_
      rintro e W2 ⟨v, rfl, hown, hb2⟩
      have hlx := sealL_length x p HP4.out
      unfold Own at hown
      rw [hlx, ← HN.out] at hown
      obtain ⟨A2, c2, rfl, hn2, hc2⟩ := own_slice hown
      obtain ⟨g, cap, hA1, hg1, hg2⟩ := HO.out.form (by omega)
      injection hA1 with hA1 _ hcc
      subst hA1 hcc
      have HO2 : Hid (W2.ownsRow w0.heap.size 5 1 (.slice (some ⟨g, 0, none⟩) n c1) n (u8s x)) := HO.out.kept (row := none) (by exact ⟨hb2.os, hb2.tape, hb2.output, hb2.size, fun k hk _ => hb2.block k hk⟩) (by right; intro h; cases h)
      have HS2 := Lib.hid hown
      have HB3 := Lib.hid (HB2.out.trans (hb2.mono HB2.out.size))
      clear hown hb2 hlx
      go_wp2_with fail
      have hxl : n ≤ c1 := hnc
      have hgl : w.heap.size < W2.heap.size := Nat.lt_of_lt_of_le hgw HB3.out.size
      go_loopw [10, 35] (fun _ i wr => ∃ m : Nat, m ≤ 4 ∧ i = .int .i64 m ∧ Hid (wr.ownsRow w0.heap.size 5 1 (.slice (some ⟨g, 0, none⟩) n c1) n (u8s (laid x p s m))) ∧ Hid (wr.ownsRow wc.heap.size 5 1 (.slice A2 n c2) n (u8s (sealL x p))) ∧ Hid (Below w0.heap.size w0 wr)) (fun _ i _ => 4 - (intOf i).toNat)
      case atStart => exact ⟨0, by omega, rfl, HO2.out, HS2.out, HB3.out⟩
      case round =>
        obtain ⟨m, hm, rfl, ho, hs, hb⟩ := hrel
        by_cases h4 : m < 4
        · obtain ⟨q, hcell⟩ := laid_cell ho.out HN.out (by omega)
          have hfr := ho.out.frozenAt (p + m)
          have HBL2 := HBL.out.below hb.out hgw
          have hm4 : m = 0 ∨ m = 1 ∨ m = 2 ∨ m = 3 := by omega
          rcases hm4 with rfl | rfl | rfl | rfl
          · have hbc : wr.cell? ⟨w.heap.size, 0, none⟩ = some (.int .u8 x0) := HBL2.cell 0
            have HBL2 := Lib.hid HBL2
            simp only [Nat.add_zero] at hcell hfr
            go_wp2
            go_roundw
            case rel => exact ⟨1, by omega, rfl, stored_byte ho.out Q0.out, ownsRow_setCell_below hs.out (a := ⟨g, p, none⟩) hg2 _, hb.out.setCell (p := ⟨g, p, none⟩) hg1 _⟩
            case measure => simp [intOf]
          · have hbc : wr.cell? ⟨w.heap.size, 1, none⟩ = some (.int .u8 x1) := HBL2.cell 1
            have HBL2 := Lib.hid HBL2
            go_wp2
            go_roundw
            case rel => exact ⟨2, by omega, rfl, stored_byte ho.out Q1.out, ownsRow_setCell_below hs.out (a := ⟨g, p + 1, none⟩) hg2 _, hb.out.setCell (p := ⟨g, p + 1, none⟩) hg1 _⟩
            case measure => simp [intOf]
          · have hbc : wr.cell? ⟨w.heap.size, 2, none⟩ = some (.int .u8 x2) := HBL2.cell 2
            have HBL2 := Lib.hid HBL2
            go_wp2
            go_roundw
            case rel => exact ⟨3, by omega, rfl, stored_byte ho.out Q2.out, ownsRow_setCell_below hs.out (a := ⟨g, p + 2, none⟩) hg2 _, hb.out.setCell (p := ⟨g, p + 2, none⟩) hg1 _⟩
            case measure => simp [intOf]
          · have hbc : wr.cell? ⟨w.heap.size, 3, none⟩ = some (.int .u8 x3) := HBL2.cell 3
            have HBL2 := Lib.hid HBL2
            go_wp2
            go_roundw
            case rel => exact ⟨4, by omega, rfl, stored_byte ho.out Q3.out, ownsRow_setCell_below hs.out (a := ⟨g, p + 3, none⟩) hg2 _, hb.out.setCell (p := ⟨g, p + 3, none⟩) hg1 _⟩
            case measure => simp [intOf]
        · obtain rfl : m = 4 := by omega
          obtain ⟨y, hy⟩ : ∃ y, y = sealL x p := ⟨_, rfl⟩
          obtain ⟨x', hx'⟩ : ∃ x', x' = laid x p s 4 := ⟨_, rfl⟩
          have hx2 : x' = x.take p ++ le4 s ++ x.drop (p + 4) := by rw [hx', laid_four _ _ _ HP4.out]
          rw [← hy] at hs
          rw [← hx'] at ho
          have HNx : Hid (n = x'.length) := by rw [hx', laid_length]; exact HN.out
          have HNy : Hid (n = y.length) := by rw [hy, sealL_length _ _ HP4.out]; exact HN.out
          have HPx : Hid (p + 4 ≤ x'.length) := by rw [← HNx.out]; exact hp4
          have HPy : Hid (p + 4 ≤ y.length) := by rw [← HNy.out]; exact hp4
          have HSx : Hid (sealL x' p = y) := by rw [hx2, hy]; exact sealL_mid _ _ _ HP4.out rfl
          have HSy : Hid (sealL y p = y) := by
            have := sealL_mid x (le4 (sumL (zeroed x p))) p HP4.out rfl
            rw [hy]; exact this
          have BX : Byt wr wr.heap.size (some ⟨g, 0, none⟩) x' := by have := ho.out; rw [HNx.out] at this; exact Reads.of_own this
          have BY : Byt wr wr.heap.size A2 y := by have := hs.out; rw [HNy.out] at this; exact Reads.of_own this
          have HBX2 := Lib.hid BX
          have HBY2 := Lib.hid BY
          clear hx' hy hx2 BX BY ho hs
          go_wp2_with fail
          refine Calls.mono (by have := seal_any (some ⟨g, 0, none⟩) x' c1 p wr (by rw [← HNx.out]; exact hnc) hc1 (by rw [← HNx.out]; omega) HBX2.out HPx.out; rw [← HNx.out] at this; exact this) ?_
          rintro e W4 ⟨v, rfl, hown, hb4⟩
          rw [HSx.out] at hown
          obtain ⟨A3, c3, rfl, hn3', hc3, HS3⟩ := own_as (n := n) hown HNy.out
          have HBY3 := Lib.hid ((HBY2.out.below hb4).more hb4.size)
          have HB5 := Lib.hid (hb.out.trans (hb4.mono hb.out.size))
          clear hown hb4
          go_wp2_with fail
          refine Calls.mono (by have := seal_any A2 y c2 p W4 (by rw [← HNy.out]; exact hn2) hc2 (by rw [← HNy.out]; omega) HBY3.out HPy.out; rw [← HNy.out] at this; exact this) ?_
          rintro e W5 ⟨v, rfl, hown, hb5⟩
          rw [HSy.out] at hown
          obtain ⟨A4, c4, rfl, hn4, hc4, HS4⟩ := own_as (n := n) hown HNy.out
          have HBY4 := Lib.hid ((HBY3.out.below hb5).more hb5.size)
          have HS5 := Lib.hid ((HS3.out.below hb5).more hb5.size)
          have HB6 := Lib.hid (HB5.out.trans (hb5.mono HB5.out.size))
          clear hown hb5
          have hst1 : (convert 22 9 (.slice A2 n c2)).run Try.prog W5 = .ok (.string ⟨y.toArray⟩) W5 := run_str HBY4.out _ _ _ Try.underlying22 Try.underlying5 Try.underlying9 n c2 HNy.out
          have hst2 : (convert 22 9 (.slice A3 n c3)).run Try.prog W5 = .ok (.string ⟨y.toArray⟩) W5 := run_str HS5.out _ _ _ Try.underlying22 Try.underlying5 Try.underlying9 n c3 HNy.out
          have hst3 : (convert 22 9 (.slice A4 n c4)).run Try.prog W5 = .ok (.string ⟨y.toArray⟩) W5 := run_str HS4.out _ _ _ Try.underlying22 Try.underlying5 Try.underlying9 n c4 HNy.out
          go_wp2_with fail
          go_ret
          exact ⟨rfl, HW0.out.trans (HB6.out.mono HW0.out.size)⟩
    · have hf2 : a1 < 0 ∨ (n : Int) < a1 + 4 := by omega
      go_wp2_with fail
      refine (seal_not A1 n c1 a1 wc (by omega) hf2 ha1.2).mono ?_
      rintro e W2 ⟨rfl, rfl⟩
      go_wp2_with fail
      go_ret
      exact ⟨rfl, HW0.out.trans (HB2.out.mono HW0.out.size)⟩

/-! ### The row's step -/
set_option maxRecDepth 100000 in
theorem lifted (os : Os) (started : os.Started) (H : Type) (enc : TypeId × Value → H) :
    ReturnsInHanded {} Try.checked os 6 .any (Rows.crcMovesSpec.pre6 enc Try.prog Try.f6 Rows.crcMovesRow.domain false) (Rows.crcMovesSpec.post enc Try.prog Try.f6 false true false false) := by
  refine returnsInHanded_of_change (C := Try.checked) own started (by kernel_rfl) Try.func6
    (ChangeSpec.witness6 (enc := enc) (C := Try.checked) false ⟨#[], #[.slice none 0 0, .int .i64 0, .agg #[.int .u8 0, .int .u8 0, .int .u8 0, .int .u8 0]], []⟩ 8 (by kernel_rfl) (by kernel_rfl) (by kernel_rfl) (by kernel_rfl)) ?_
  intro W base args ds gs before hval0 hW hcnd _
  have hval : ∀ (j : Nat) t v, Try.f6.params[j]? = some t → args[j]? = some v → Value.okWide Try.prog W .any base t v := hval0
  have hW' := hW
  obtain ⟨p, q, hA0, hV, rfl, hfz, hnd⟩ := hW
  have hA : DataW.TrodAll enc Try.prog W 0 (fun _ => true) true Try.f6.params.toList args.toList ds p := hA0
  rw [Try.params6] at hA hval
  obtain ⟨v0, vs0, d0, ds0, p0, q0, hargs, rfl, rfl, h0, r0⟩ := trodAll_cons hA
  obtain ⟨v1, vs1, d1, ds1, p1, q1, rfl, rfl, rfl, h1, r1⟩ := trodAll_cons r0
  obtain ⟨v2, vs2, d2, ds2, p2, q2, rfl, rfl, rfl, h2, r2⟩ := trodAll_cons r1
  obtain ⟨rfl, rfl, rfl⟩ := trodAll_nil r2
  obtain rfl : args = #[v0, v1, v2] := by cases args; simp_all
  obtain ⟨rfl, rfl⟩ := trodVars_none hV
  obtain ⟨a0, len0, cap0, rfl⟩ := okWide_slice Try.underlying22 (hval 0 22 v0 rfl rfl)
  have k0 := h0
  have lt0 : ∀ x ∈ p0, x.block < W.heap.size := by obtain ⟨m, hm⟩ := k0; exact DataW.trod_lt m _ _ _ hm
  obtain ⟨z0, w0⟩ : ∃ zs, IsRow .u8 W a0 len0 cap0 zs := by
    obtain ⟨fuel, hf⟩ := h0
    rcases open_ints Try.underlying22 Try.underlying5 (by kernel_rfl) hf with ⟨hcs, _⟩ | ⟨x, l, c, zs, hcs, _, hl, hm, hz, _, hcell, hwz⟩
    · simp [Value.cells] at hcs
      obtain ⟨rfl, rfl, rfl⟩ := hcs
      exact ⟨[], .inl ⟨rfl, rfl, rfl, rfl⟩⟩
    · simp [Value.cells] at hcs
      obtain ⟨rfl, rfl, rfl⟩ := hcs
      exact ⟨zs, .inr ⟨_, rfl, hl, hm, by simpa using hz, hcell, hwz⟩⟩
  obtain ⟨a1, rfl, rfl, rfl, w1⟩ := open_int Try.underlying3 (hval 1 3 v1 rfl rfl) h1
  have lt2 : ∀ x ∈ p2, x.block < W.heap.size := by obtain ⟨m, hm⟩ := h2; exact DataW.trod_lt m _ _ _ hm
  clear hA0 hval0
  refine (walk a0 len0 cap0 z0 a1 v2 d2 p2 W w0 w1 (hval 2 37 v2 rfl rfl) h2).mono fun e W' ⟨he, bel⟩ => ?_
  subst he
  exact ⟨_, rfl, _, _, _, [], _, [], hW', trodAll_mk1 (shut_bool Try.underlying4 _), (trodAll_cons_mk (Below.trod laidOut (by kernel_rfl) (of_decide_eq_true (by kernel_rfl)) k0 bel lt0) (trodAll_cons_mk (shut_int Try.underlying3 w1) (trodAll_cons_mk (Below.trod laidOut (by kernel_rfl) (of_decide_eq_true (by kernel_rfl)) h2 bel lt2) trodAll_mk0))), rfl, bel.frame _, fun h => by cases h⟩

theorem over : Rows.crcMovesRow.holds Try.pinned (OpenSpec.ofChange Rows.crcMovesSpec) :=
  OpenClaim.holds_of_wide 6 Try.f6 rfl rfl rfl rfl rfl rfl rfl ⟨rfl, rfl, rfl, rfl, rfl⟩ rfl rfl rfl rfl rfl (by kernel_rfl) Try.func6 (by kernel_rfl)
    (of_decide_eq_true (by kernel_rfl)) (by unfold Func.isWrapper; first | (rw [if_pos (by decide +kernel)]; kernel_rfl) | (rw [if_neg (by decide +kernel)]; exact ⟨rfl, rfl⟩))
    (fun os started H enc _ => lifted os started H enc)

theorem proved : Rows.CrcMovesSaid := over
#print axioms proved
end Go.Proofs.Ytgbkmnmkejcogaa.crcMoves
