/-
  PROVED: RttBounds of flumelaw10 answers true for every input, and its arguments read afterwards as before. CONDITIONS: none beside the form's own.
-/
import Derived.Test.YtcfmdeimehoipaaRows
import Derived.Test.YtcfmdeimehoipaaRttLaw
import Derived.WalkKit
import Derived.ProofKit
import Derived.OpenShut
import Derived.ShutString
import Derived.ChangeOld
import Derived.Below
namespace Go.Proofs.Ytcfmdeimehoipaa.rttBounds
open Go.ChangeShapes Go.WideShapes Go.ChangeAt Go.RowKit
open Go.ChangeMaps (open_string shut_string)
set_option linter.unusedVariables false
set_option linter.unusedSimpArgs false

theorem own : ownKnob Try.prog.godebug = none := by kernel_rfl
theorem laidOut : laidOutB Try.prog = true := by kernel_rfl

/-- What the walk is told of a slice of integers that came in. -/
def IsRow (k : IntKind) (w : World) (a : Option Addr) (len cap : Nat) (zs : List Int) : Prop :=
  (a = none ∧ len = 0 ∧ cap = 0 ∧ zs = []) ∨
  ∃ x, a = some x ∧ len ≤ cap ∧ cap ≤ maxLen ∧ zs.length = cap ∧ (∀ i, i < zs.length → w.cell? (x.add i) = some (.int k (zs.getD i 0))) ∧ ∀ n ∈ zs, (Lit.int k n).wf = true

/-! ### The walk -/
open Words Rtt
set_option maxHeartbeats 4000000 in
set_option maxRecDepth 100000 in
theorem walk (a0 : Option Addr) (len0 cap0 : Nat) (z0 : List Int) (w : World) (w0 : IsRow .i64 w a0 len0 cap0 z0) :
    Calls Try.prog 4 #[.slice a0 len0 cap0] w fun e w' => e = .returned (.bool true) ∧ Below w.heap.size w w' := by
  obtain ⟨hcap, hlen, hrow⟩ := row_of w0
  have HR := Lib.hid hrow
  clear hrow w0
  go_enter Try.func4, Try.ntmps4
  go_wp2_with fail
  refine (first_any w).mono ?_
  rintro e W1 ⟨rfl, hb1⟩
  have H0 := Lib.hid (S1.new hb1)
  clear hb1
  go_wp2_with fail
  obtain ⟨W2, hW2⟩ : ∃ W2, W2 = W1.alloc (.cells #[.bool false, .int .i64 0, .int .i64 0, .int .i64 0] 25) := ⟨_, rfl⟩
  rw [← hW2] at H0 ⊢
  clear hW2
  obtain ⟨p, hp⟩ : ∃ p, p = W1.heap.size := ⟨_, rfl⟩
  rw [← hp] at H0 ⊢
  clear hp
  go_loopw [12] (fun i wr => ∃ k : Nat, k ≤ len0 ∧ i = .int .i64 k ∧ ∃ x, Hid (S1 w wr p x)) (fun i _ => len0 - (intOf i).toNat)
  case atStart => exact ⟨0, Nat.zero_le _, rfl, _, H0⟩
  case round =>
    obtain ⟨k, hk, rfl, x, HX⟩ := hrel
    by_cases hlt : k < len0
    · obtain ⟨y, q, rfl, hc1, hz1, hz2⟩ := elem HR.out HX.out.b hlt
      by_cases h200 : k < 200
      · go_wp2_with fail
        refine HX.out.wait.mono ?_
        rintro e w2 ⟨rfl, H1⟩
        have hd := wait_dbl H1.out.e.k
        have hb := wait_le x
        obtain ⟨wx, hwx⟩ : ∃ v, v = Rtt.wait x := ⟨_, rfl⟩
        rw [← hwx] at hd hb ⊢
        have HD : Hid (Rtt.wait (dbl x) = min 600 (2 * wx)) := hd
        clear hd hwx
        go_upto_if 22 with (fail)
        obtain ⟨r, hr⟩ : ∃ r, r = (q.tmod 3 == 0) := ⟨_, rfl⟩
        rw [← hr]
        clear hr
        go_cut [] from 23 to 36 (fun wx => ∃ x, Hid (S1 w wx p x))
        case first =>
          cases r
          · go_wp2_with fail
            refine (H1.out.any q).mono ?_
            rintro e w3 ⟨t, z, rfl, H2, _⟩
            go_wp2_with fail
            go_meet
            exact ⟨_, H2⟩
          · by_cases h6 : (600 : Int) < 2 * wx
            · have e6 : (Rtt.wait (dbl x) : Int) = 600 := by have := HD.out; omega
              have HE := Lib.hid e6
              clear e6
              go_wp2_with fail
              refine H1.out.double.mono ?_
              rintro e w3 ⟨rfl, H2⟩
              go_wp2_with fail
              refine H2.out.wait.mono ?_
              rintro e w4 ⟨rfl, H3⟩
              rw [HE.out]
              go_wp2_with fail
              refine H3.out.wait.mono ?_
              rintro e w5 ⟨rfl, H4⟩
              rw [HE.out]
              go_wp2_with fail
              all_goals
                go_meet
                exact ⟨_, H4⟩
            · have e6 : (Rtt.wait (dbl x) : Int) = 2 * wx := by have := HD.out; omega
              have h7 : (wx : Int) ≤ 2 * wx := by omega
              have h8 : decide (2 * (wx : Int) < (wx : Int)) = false := decide_eq_false (by omega)
              have HE := Lib.hid e6
              clear e6
              go_wp2_with fail
              refine H1.out.double.mono ?_
              rintro e w3 ⟨rfl, H2⟩
              go_wp2_with fail
              refine H2.out.wait.mono ?_
              rintro e w4 ⟨rfl, H3⟩
              rw [HE.out]
              go_wp2_with fail
              refine H3.out.wait.mono ?_
              rintro e w5 ⟨rfl, H4⟩
              rw [HE.out]
              go_wp2_with fail
              all_goals
                go_meet
                exact ⟨_, H4⟩
        case rest =>
          obtain ⟨x', HX'⟩ := hcut
          have hb := wait_le x'
          go_wp2_with fail
          refine HX'.out.wait.mono ?_
          rintro e w4 ⟨rfl, H3⟩
          obtain ⟨wx, hwx⟩ : ∃ v, v = Rtt.wait x' := ⟨_, rfl⟩
          rw [← hwx] at hb ⊢
          clear hwx
          go_wp2_with fail
          go_roundw
          case rel => exact ⟨k + 1, by omega, by go_num, _, H3⟩
          case measure => simp [intOf]; omega
      · go_wp2_with fail
        go_ret
        exact ⟨rfl, HX.out.b⟩
    · obtain rfl : k = len0 := by omega
      go_wp2_with fail
      go_ret
      exact ⟨rfl, HX.out.b⟩

/-! ### The row's step -/
set_option maxRecDepth 100000 in
theorem lifted (os : Os) (started : os.Started) (H : Type) (enc : TypeId × Value → H) :
    ReturnsInHanded {} Try.checked os 4 .any (Rows.rttBoundsSpec.pre6 enc Try.prog Try.f4 Rows.rttBoundsRow.domain false) (Rows.rttBoundsSpec.post enc Try.prog Try.f4 false true false false) := by
  refine returnsInHanded_of_change (C := Try.checked) own started (by kernel_rfl) Try.func4
    (ChangeSpec.witness6 (enc := enc) (C := Try.checked) false ⟨#[], #[.slice none 0 0], []⟩ 8 (by kernel_rfl) (by kernel_rfl) (by kernel_rfl) (by kernel_rfl)) ?_
  intro W base args ds gs before hval0 hW hcnd _
  have hval : ∀ (j : Nat) t v, Try.f4.params[j]? = some t → args[j]? = some v → Value.okWide Try.prog W .any base t v := hval0
  have hW' := hW
  obtain ⟨p, q, hA0, hV, rfl, hfz, hnd⟩ := hW
  have hA : DataW.TrodAll enc Try.prog W 0 (fun _ => true) true Try.f4.params.toList args.toList ds p := hA0
  rw [Try.params4] at hA hval
  obtain ⟨v0, vs0, d0, ds0, p0, q0, hargs, rfl, rfl, h0, r0⟩ := trodAll_cons hA
  obtain ⟨rfl, rfl, rfl⟩ := trodAll_nil r0
  obtain rfl : args = #[v0] := by cases args; simp_all
  obtain ⟨rfl, rfl⟩ := trodVars_none hV
  obtain ⟨a0, len0, cap0, rfl⟩ := okWide_slice Try.underlying22 (hval 0 22 v0 rfl rfl)
  have k0 := h0
  have lt0 : ∀ x ∈ p0, x.block < W.heap.size := by obtain ⟨m, hm⟩ := k0; exact DataW.trod_lt m _ _ _ hm
  obtain ⟨z0, w0⟩ : ∃ zs, IsRow .i64 W a0 len0 cap0 zs := by
    obtain ⟨fuel, hf⟩ := h0
    rcases open_ints Try.underlying22 Try.underlying3 (by kernel_rfl) hf with ⟨hcs, _⟩ | ⟨x, l, c, zs, hcs, _, hl, hm, hz, _, hcell, hwz⟩
    · simp [Value.cells] at hcs
      obtain ⟨rfl, rfl, rfl⟩ := hcs
      exact ⟨[], .inl ⟨rfl, rfl, rfl, rfl⟩⟩
    · simp [Value.cells] at hcs
      obtain ⟨rfl, rfl, rfl⟩ := hcs
      exact ⟨zs, .inr ⟨_, rfl, hl, hm, by simpa using hz, hcell, hwz⟩⟩
  clear hA0 hval0
  refine (walk a0 len0 cap0 z0 W w0).mono fun e W' ⟨he, bel⟩ => ?_
  subst he
  exact ⟨_, rfl, _, _, _, [], _, [], hW', trodAll_mk1 (shut_bool Try.underlying4 _), (trodAll_cons_mk (Below.trod laidOut (by kernel_rfl) (of_decide_eq_true (by kernel_rfl)) k0 bel lt0) trodAll_mk0), rfl, bel.frame _, fun h => by cases h⟩

theorem over : Rows.rttBoundsRow.holds Try.pinned (OpenSpec.ofChange Rows.rttBoundsSpec) :=
  OpenClaim.holds_of_wide 4 Try.f4 rfl rfl rfl rfl rfl rfl rfl ⟨rfl, rfl, rfl, rfl, rfl⟩ rfl rfl rfl rfl rfl (by kernel_rfl) Try.func4 (by kernel_rfl)
    (of_decide_eq_true (by kernel_rfl)) (by unfold Func.isWrapper; first | (rw [if_pos (by decide +kernel)]; kernel_rfl) | (rw [if_neg (by decide +kernel)]; exact ⟨rfl, rfl⟩))
    (fun os started H enc _ => lifted os started H enc)

theorem proved : Rows.RttBoundsSaid := over
#print axioms proved
end Go.Proofs.Ytcfmdeimehoipaa.rttBounds
