/-
  PROVED: SpanRound of flumelaw02 answers true for every input, and its arguments read afterwards as before. CONDITIONS: none beside the form's own.
  (The frame was written by the kit's proof-skeleton; the walk is mine.)
-/
import Derived.Test.YtmkbadkibjmpaaaRows
import Derived.Test.YtmkbadkibjmpaaaSpanRnd
import Derived.WalkKit
import Derived.ProofKit
import Derived.OpenShut
import Derived.ShutString
import Derived.ChangeOld
import Derived.Below
namespace Go.Proofs.Ytmkbadkibjmpaaa.spanRound
open Go.ChangeShapes Go.WideShapes Go.ChangeAt Go.RowKit
open Go.ChangeMaps (open_string shut_string)
set_option linter.unusedVariables false

theorem own : ownKnob Try.prog.godebug = none := by kernel_rfl
theorem laidOut : laidOutB Try.prog = true := by kernel_rfl

/-- WHAT THE WALK IS TOLD OF A SLICE OF INTEGERS THAT CAME IN: it is nil; or it leads to a row of 'cap' cells, the numbers 'zs' (the first 'len' are its elements, the rest its spare room), each fitting its kind. -/
def IsRow (k : IntKind) (w : World) (a : Option Addr) (len cap : Nat) (zs : List Int) : Prop :=
  (a = none ∧ len = 0 ∧ cap = 0 ∧ zs = []) ∨
  ∃ x, a = some x ∧ len ≤ cap ∧ cap ≤ maxLen ∧ zs.length = cap ∧ (∀ i, i < zs.length → w.cell? (x.add i) = some (.int k (zs.getD i 0))) ∧ ∀ n ∈ zs, (Lit.int k n).wf = true

/-! ### STEP 1: THE WALK: the Go text returns true, AND WRITES NOTHING THAT WAS THERE: 'Below w.heap.size w w'' (Derived/Below.lean: '.refl', '.alloc', '.drew', '.setCell' at a new block, '.trans'). Open each 'IsRow' by 'rcases' AHEAD of 'go_enter'; part every test ahead of the walk. -/
open Ser Span
theorem elem {w w' : World} {a : Option Addr} {len : Nat} {z : List Int} (hr : ∀ i, i < len → ∃ x, a = some x ∧ x.block < w.heap.size ∧ w.cell? (x.add i) = some (.int .u32 (z.getD i 0)) ∧ (Lit.int .u32 (z.getD i 0)).wf = true) (hb : Below w.heap.size w w') {i : Nat} (hi : i < len) :
    ∃ x q, a = some x ∧ w'.cell? (x.add i) = some (.int .u32 q) ∧ 0 ≤ q ∧ q ≤ 4294967295 := by
  obtain ⟨x, ha, hx, hc, hw⟩ := hr i hi
  have hz := bounds_u32 hw
  exact ⟨x, z.getD i 0, ha, row_later hb hx hc, hz.1, hz.2⟩
theorem moved (a0 a1 q : Int) : ((a0 + q) % 4294967296 + a1) % 4294967296 = (a0 + a1 + q) % 4294967296 := by omega
set_option maxHeartbeats 1000000 in
theorem walk (a0 : Int) (a1 : Int) (a2 : Option Addr) (len2 cap2 : Nat) (z2 : List Int) (w : World) (w0 : (Lit.int .u32 a0).wf = true) (w1 : (Lit.int .u32 a1).wf = true) (w2 : IsRow .u32 w a2 len2 cap2 z2) :
    Calls Try.prog 5 #[.int .u32 a0, .int .u32 a1, .slice a2 len2 cap2] w fun e w' => e = .returned (.bool true) ∧ Below w.heap.size w w' := by
  have hM : 0 ≤ a0 ∧ a0 ≤ 4294967295 := bounds_u32 w0
  have hY : 0 ≤ a1 ∧ a1 ≤ 4294967295 := bounds_u32 w1
  obtain ⟨hcap, hlen, hrow⟩ := row_of w2
  have HR := Lib.hid hrow
  clear hrow w1 w0 w2
  go_enter Try.func5, Try.ntmps5
  go_wp2_with fail
  refine (first_span w).mono ?_
  rintro e W1 ⟨rfl, hb1⟩
  go_wp2_with fail
  refine (new_any a0 hM w.heap.size W1 hb1.size).mono ?_
  rintro e W2 ⟨rfl, hs2, hb2⟩
  have hb12 := hb1.trans (hb2.mono hb1.size)
  go_wp2_with fail
  refine (new_any ((a0 + a1) % 4294967296) (by omega) w.heap.size W2 hb12.size).mono ?_
  rintro e W3 ⟨rfl, hs3, hb3⟩
  have HO := Lib.hid (RSt.new (hb12.trans (hb3.mono hb12.size)) (hs2.below hb3) hs3 (by have := hs2.blk.lt; omega))
  clear hs2 hs3 hb1 hb2 hb3 hb12
  go_wp2_with fail
  go_loopw [21] (fun i wr => ∃ k : Nat, k ≤ len2 ∧ i = .int .i64 k ∧ Hid (RSt w wr W1.heap.size W2.heap.size a1)) (fun i _ => len2 - (intOf i).toNat)
  case atStart => exact ⟨0, Nat.zero_le _, rfl, HO⟩
  case round =>
    obtain ⟨k, hk, rfl, ho⟩ := hrel
    by_cases hlt : k < len2
    · obtain ⟨x, q, rfl, hc1, hz1⟩ := elem HR.out ho.out.below hlt
      by_cases h40 : k < 40
      · by_cases h7 : q % 7 = 0
        · have e7 : (q % 7 == 0) = true := by simp [h7]
          obtain ⟨M, rs, C1⟩ := ho.out.skip1 (show 0 ≤ (a0 + q) % 4294967296 ∧ (a0 + q) % 4294967296 ≤ 4294967295 by omega)
          have HC := Lib.hid C1
          clear h7 C1
          go_wp2_with fail
          refine HC.out.mono ?_
          rintro e w1 ⟨rfl, hm⟩
          have HM := Lib.hid hm
          clear hm hc1
          have c2 := RMid.skip2 (t := (a0 + q) % 4294967296) HM.out
          rw [moved] at c2
          have C2 := Lib.hid c2
          clear c2
          go_wp2_with fail
          (with_reducible refine C2.out.mono ?_)
          rintro e w2 ⟨rfl, hs⟩
          have HS := Lib.hid hs
          clear hs
          go_wp2
          go_roundw
          case rel => exact ⟨k + 1, by omega, by go_num, HS⟩
          case measure => simp [intOf]; omega
        · have e7 : (q % 7 == 0) = false := by simpa using h7
          obtain ⟨M, rs, C1⟩ := ho.out.add1 (show 0 ≤ (a0 + q) % 4294967296 ∧ (a0 + q) % 4294967296 ≤ 4294967295 by omega)
          have HC := Lib.hid C1
          clear h7 C1
          go_wp2_with fail
          refine HC.out.mono ?_
          rintro e w1 ⟨rfl, hm⟩
          have HM := Lib.hid hm
          clear hm hc1
          have c2 := RMid.add2 (t := (a0 + q) % 4294967296) HM.out
          rw [moved] at c2
          have C2 := Lib.hid c2
          clear c2
          go_wp2_with fail
          (with_reducible refine C2.out.mono ?_)
          rintro e w2 ⟨rfl, hs⟩
          have HS := Lib.hid hs
          clear hs
          go_wp2
          go_roundw
          case rel => exact ⟨k + 1, by omega, by go_num, HS⟩
          case measure => simp [intOf]; omega
      · have HE := Lib.hid ho
        clear ho
        obtain ⟨va, vb, M, rs, h2, hg, hbE⟩ := HE.out
        have H2 := Lib.hid h2
        have HB := Lib.hid hbE
        have HG := Lib.hid hg
        have hl := gp_len hg
        clear h2 hg hbE
        go_wp2_with fail
        refine (mark_any H2.out.sa).mono ?_
        rintro e w1 ⟨rfl, rfl⟩
        go_wp2_with fail
        refine (mark_any H2.out.sb).mono ?_
        rintro e w1 ⟨rfl, rfl⟩
        go_wp2_with fail
        refine (gaps_read H2.out.sa HG.out 999 (by omega)).mono ?_
        rintro e w3 ⟨u3, rfl, hu3, hb3⟩
        have H5 := Lib.hid (H2.out.below hb3)
        have HB5 := Lib.hid (HB.out.trans (hb3.mono HB.out.size))
        clear hb3
        go_wp2_with fail
        refine (gaps_read H5.out.sb HG.out 999 (by omega)).mono ?_
        rintro e w4 ⟨u4, rfl, hu4, hb4⟩
        have HU := Lib.hid (hu3.out.1.below hb4)
        have HB6 := Lib.hid (HB5.out.trans (hb4.mono HB5.out.size))
        clear hb4
        go_wp2_with fail
        refine (same_yes HU.out hu4.out.1 (by rw [List.length_take]; omega)).mono ?_
        rintro e w5 ⟨rfl, hb5⟩
        have HB7 := Lib.hid (HB6.out.trans (hb5.mono HB6.out.size))
        clear hb5
        go_wp2
        go_ret
        exact ⟨rfl, HB7.out⟩
    · obtain rfl : k = len2 := by omega
      have HE := Lib.hid ho
      clear ho
      obtain ⟨va, vb, M, rs, h2, hg, hbE⟩ := HE.out
      have H2 := Lib.hid h2
      have HB := Lib.hid hbE
      have HG := Lib.hid hg
      have hl := gp_len hg
      clear h2 hg hbE
      go_wp2_with fail
      refine (mark_any H2.out.sa).mono ?_
      rintro e w1 ⟨rfl, rfl⟩
      go_wp2_with fail
      refine (mark_any H2.out.sb).mono ?_
      rintro e w1 ⟨rfl, rfl⟩
      go_wp2_with fail
      refine (gaps_read H2.out.sa HG.out 999 (by omega)).mono ?_
      rintro e w3 ⟨u3, rfl, hu3, hb3⟩
      have H5 := Lib.hid (H2.out.below hb3)
      have HB5 := Lib.hid (HB.out.trans (hb3.mono HB.out.size))
      clear hb3
      go_wp2_with fail
      refine (gaps_read H5.out.sb HG.out 999 (by omega)).mono ?_
      rintro e w4 ⟨u4, rfl, hu4, hb4⟩
      have HU := Lib.hid (hu3.out.1.below hb4)
      have HB6 := Lib.hid (HB5.out.trans (hb4.mono HB5.out.size))
      clear hb4
      go_wp2_with fail
      refine (same_yes HU.out hu4.out.1 (by rw [List.length_take]; omega)).mono ?_
      rintro e w5 ⟨rfl, hb5⟩
      have HB7 := Lib.hid (HB6.out.trans (hb5.mono HB6.out.size))
      clear hb5
      go_wp2
      go_ret
      exact ⟨rfl, HB7.out⟩

/-! ### THE ROW's STEP: WRITTEN OUT: LEAVE IT -/
set_option maxRecDepth 100000 in
theorem lifted (os : Os) (started : os.Started) (H : Type) (enc : TypeId × Value → H) :
    ReturnsInHanded {} Try.checked os 5 .any (Rows.spanRoundSpec.pre6 enc Try.prog Try.f5 Rows.spanRoundRow.domain false) (Rows.spanRoundSpec.post enc Try.prog Try.f5 false true false false) := by
  refine returnsInHanded_of_change (C := Try.checked) own started (by kernel_rfl) Try.func5
    (ChangeSpec.witness6 (enc := enc) (C := Try.checked) false ⟨#[], #[.int .u32 0, .int .u32 0, .slice none 0 0], []⟩ 8 (by kernel_rfl) (by kernel_rfl) (by kernel_rfl) (by kernel_rfl)) ?_
  intro W base args ds gs before hval0 hW hcnd _
  have hval : ∀ (j : Nat) t v, Try.f5.params[j]? = some t → args[j]? = some v → Value.okWide Try.prog W .any base t v := hval0
  have hW' := hW
  obtain ⟨p, q, hA0, hV, rfl, hfz, hnd⟩ := hW
  have hA : DataW.TrodAll enc Try.prog W 0 (fun _ => true) true Try.f5.params.toList args.toList ds p := hA0
  rw [Try.params5] at hA hval
  obtain ⟨v0, vs0, d0, ds0, p0, q0, hargs, rfl, rfl, h0, r0⟩ := trodAll_cons hA
  obtain ⟨v1, vs1, d1, ds1, p1, q1, rfl, rfl, rfl, h1, r1⟩ := trodAll_cons r0
  obtain ⟨v2, vs2, d2, ds2, p2, q2, rfl, rfl, rfl, h2, r2⟩ := trodAll_cons r1
  obtain ⟨rfl, rfl, rfl⟩ := trodAll_nil r2
  obtain rfl : args = #[v0, v1, v2] := by cases args; simp_all
  obtain ⟨rfl, rfl⟩ := trodVars_none hV
  obtain ⟨a0, rfl, rfl, rfl, w0⟩ := open_int Try.underlying22 (hval 0 22 v0 rfl rfl) h0
  obtain ⟨a1, rfl, rfl, rfl, w1⟩ := open_int Try.underlying22 (hval 1 22 v1 rfl rfl) h1
  obtain ⟨a2, len2, cap2, rfl⟩ := okWide_slice Try.underlying23 (hval 2 23 v2 rfl rfl)
  have k2 := h2
  have lt2 : ∀ x ∈ p2, x.block < W.heap.size := by obtain ⟨m, hm⟩ := k2; exact DataW.trod_lt m _ _ _ hm
  obtain ⟨z2, w2⟩ : ∃ zs, IsRow .u32 W a2 len2 cap2 zs := by
    obtain ⟨fuel, hf⟩ := h2
    rcases open_ints Try.underlying23 Try.underlying22 (by kernel_rfl) hf with ⟨hcs, _⟩ | ⟨x, l, c, zs, hcs, _, hl, hm, hz, _, hcell, hwz⟩
    · simp [Value.cells] at hcs
      obtain ⟨rfl, rfl, rfl⟩ := hcs
      exact ⟨[], .inl ⟨rfl, rfl, rfl, rfl⟩⟩
    · simp [Value.cells] at hcs
      obtain ⟨rfl, rfl, rfl⟩ := hcs
      exact ⟨zs, .inr ⟨_, rfl, hl, hm, by simpa using hz, hcell, hwz⟩⟩
  clear hA0 hval0
  refine (walk a0 a1 a2 len2 cap2 z2 W w0 w1 w2).mono fun e W' ⟨he, bel⟩ => ?_
  subst he
  exact ⟨_, rfl, _, _, _, [], _, [], hW', trodAll_mk1 (shut_bool Try.underlying4 _), (trodAll_cons_mk (shut_int Try.underlying22 w0) (trodAll_cons_mk (shut_int Try.underlying22 w1) (trodAll_cons_mk (Below.trod laidOut (by kernel_rfl) (of_decide_eq_true (by kernel_rfl)) k2 bel lt2) trodAll_mk0))), rfl, bel.frame _, fun h => by cases h⟩

theorem over : Rows.spanRoundRow.holds Try.pinned (OpenSpec.ofChange Rows.spanRoundSpec) :=
  OpenClaim.holds_of_wide 5 Try.f5 rfl rfl rfl rfl rfl rfl rfl ⟨rfl, rfl, rfl, rfl, rfl⟩ rfl rfl rfl rfl rfl (by kernel_rfl) Try.func5 (by kernel_rfl)
    (of_decide_eq_true (by kernel_rfl)) (by unfold Func.isWrapper; first | (rw [if_pos (by decide +kernel)]; kernel_rfl) | (rw [if_neg (by decide +kernel)]; exact ⟨rfl, rfl⟩))
    (fun os started H enc _ => lifted os started H enc)

/-- ████ THE STATEMENT ████ -/
theorem proved : Rows.SpanRoundSaid := over
#print axioms proved
end Go.Proofs.Ytmkbadkibjmpaaa.spanRound
