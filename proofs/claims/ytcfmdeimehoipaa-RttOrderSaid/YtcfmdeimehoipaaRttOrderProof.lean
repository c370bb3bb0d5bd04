/-
  PROVED: RttOrder of flumelaw10 answers true for every input, and its arguments read afterwards as before. CONDITIONS: none beside the form's own.
-/
import Derived.Test.YtcfmdeimehoipaaRows
import Derived.Test.YtcfmdeimehoipaaRttLaw
import Derived.WalkKit
import Derived.ProofKit
import Derived.OpenShut
import Derived.ShutString
import Derived.ChangeOld
import Derived.Below
namespace Go.Proofs.Ytcfmdeimehoipaa.rttOrder
open Go.ChangeShapes Go.WideShapes Go.ChangeAt Go.RowKit
open Go.ChangeMaps (open_string shut_string)
set_option linter.unusedVariables false
set_option linter.unusedSimpArgs false

theorem own : ownKnob Try.prog.godebug = none := by kernel_rfl
theorem laidOut : laidOutB Try.prog = true := by kernel_rfl

/-- What the walk is told of a slice of integers that came in. -/
def IsRow (k : IntKind) (w : World) (a : Option Addr) (len cap : Nat) (zs : List Int) : Prop :=
  (a = none ∧ len = 0 ∧ cap = 0 ∧ zs = []) ∨
  ∃ x, a = some x ∧ len ≤ cap ∧ cap ≤ maxLen ∧ zs.length = cap ∧ (∀ i, i < zs.length → w.cell? (x.add i) = some (.int k (zs.getD i 0))) ∧ ∀ n ∈ zs, (Lit.int k n).wf = true

/-! ### The walk -/
open Words Rtt
set_option maxHeartbeats 4000000 in
set_option maxRecDepth 100000 in
theorem walk (a0 : Int) (a1 : Int) (w : World) (w0 : (Lit.int .i64 a0).wf = true) (w1 : (Lit.int .i64 a1).wf = true) :
    Calls Try.prog 6 #[.int .i64 a0, .int .i64 a1] w fun e w' => e = .returned (.bool true) ∧ Below w.heap.size w w' := by
  have hA := bounds_i64 w0
  have hB := bounds_i64 w1
  clear w0 w1
  go_enter Try.func6, Try.ntmps6
  go_wp2_with fail
  refine (first_any w).mono ?_
  rintro e W1 ⟨rfl, hb1⟩
  have H0 := Lib.hid (S2.new hb1)
  clear hb1
  go_wp2_with fail
  obtain ⟨W2, hW2⟩ : ∃ W2, W2 = (W1.alloc (.cells #[.bool false, .int .i64 0, .int .i64 0, .int .i64 0] 25)).alloc (.cells #[.bool false, .int .i64 0, .int .i64 0, .int .i64 0] 25) := ⟨_, rfl⟩
  rw [← hW2] at H0 ⊢
  clear hW2
  obtain ⟨p, hp⟩ : ∃ p, p = W1.heap.size := ⟨_, rfl⟩
  obtain ⟨q, hq⟩ : ∃ q, q = p + 1 := ⟨_, rfl⟩
  rw [← hp] at H0 ⊢
  rw [← hq] at H0 ⊢
  clear hp hq
  refine (H0.out.any a0).mono ?_
  rintro e w3 ⟨t1, z1, rfl, H1, T1, Z1⟩
  go_wp2_with fail
  refine (H1.out.symm.any a1).mono ?_
  rintro e w4 ⟨t2, z2, rfl, H2, T2, Z2⟩
  by_cases g1 : 0 ≤ a0 ∧ a0 ≤ 60000
  · have e1 : t1 = true := T1.out.trans (decide_eq_true g1)
    by_cases g2 : 0 ≤ a1 ∧ a1 ≤ 60000
    · have e2 : t2 = true := T2.out.trans (decide_eq_true g2)
      obtain ⟨m, rfl⟩ : ∃ m : Nat, a0 = m := ⟨a0.toNat, by omega⟩
      obtain ⟨n, rfl⟩ : ∃ n : Nat, a1 = n := ⟨a1.toNat, by omega⟩
      obtain rfl : z1 = samp es0 (m : Int).toNat := by rw [Z1.out, if_pos e1]
      obtain rfl : z2 = samp es0 (n : Int).toNat := by rw [Z2.out, if_pos e2]
      clear T1 T2 Z1 Z2
      subst e1 e2
      rw [Int.toNat_natCast, Int.toNat_natCast] at H2
      have hm := wait_first m
      have hn := wait_first n
      obtain ⟨wm, hwm⟩ : ∃ v, v = Rtt.wait (samp es0 m) := ⟨_, rfl⟩
      obtain ⟨wn, hwn⟩ : ∃ v, v = Rtt.wait (samp es0 n) := ⟨_, rfl⟩
      rw [← hwm] at hm
      rw [← hwn] at hn
      have HM := Lib.hid hwm
      have HN := Lib.hid hwn
      clear hwm hwn
      by_cases hle : (m : Int) ≤ (n : Int)
      · go_wp2_with fail
        refine H2.out.symm.wait.mono ?_
        rintro e w5 ⟨rfl, H3⟩
        rw [← HM.out]
        go_wp2_with fail
        refine H3.out.symm.wait.mono ?_
        rintro e w6 ⟨rfl, H4⟩
        rw [← HN.out]
        have hc : (wm : Int) ≤ (wn : Int) := by omega
        go_wp2_with fail
        refine H4.out.symm.wait.mono ?_
        rintro e w7 ⟨rfl, H5⟩
        rw [← HM.out]
        go_wp2_with fail
        all_goals
          go_ret
          refine ⟨?_, H5.out.a.b⟩
          show Ending.returned (.bool _) = _
          congr 2
          simp
          omega
      · go_wp2_with fail
        refine H2.out.symm.wait.mono ?_
        rintro e w5 ⟨rfl, H3⟩
        rw [← HM.out]
        go_wp2_with fail
        refine H3.out.symm.wait.mono ?_
        rintro e w6 ⟨rfl, H4⟩
        rw [← HN.out]
        have hc : (wn : Int) ≤ (wm : Int) := by omega
        go_wp2_with fail
        go_ret
        refine ⟨?_, H4.out.b.b⟩
        show Ending.returned (.bool _) = _
        congr 2
        simp
        omega
    · have e2 : t2 = false := T2.out.trans (decide_eq_false g2)
      clear T1 T2 Z1 Z2
      subst e1 e2
      by_cases g3 : a1 < 0
      all_goals
        go_wp2_with fail
        go_ret
        refine ⟨?_, H2.out.b.b⟩
        first
        | rfl
        | (show Ending.returned (.bool _) = _; congr 2; simp; omega)
  · have e1 : t1 = false := T1.out.trans (decide_eq_false g1)
    by_cases g2 : 0 ≤ a1 ∧ a1 ≤ 60000
    · have e2 : t2 = true := T2.out.trans (decide_eq_true g2)
      clear T1 T2 Z1 Z2
      subst e1 e2
      by_cases g3 : a0 < 0
      all_goals
        go_wp2_with fail
        go_ret
        refine ⟨?_, H2.out.b.b⟩
        first
        | rfl
        | (show Ending.returned (.bool _) = _; congr 2; simp; omega)
    · have e2 : t2 = false := T2.out.trans (decide_eq_false g2)
      clear T1 T2 Z1 Z2
      subst e1 e2
      by_cases g3 : a0 < 0
      all_goals
        by_cases g4 : a1 < 0
        all_goals
          go_wp2_with fail
          go_ret
          refine ⟨?_, H2.out.b.b⟩
          first
          | rfl
          | (show Ending.returned (.bool _) = _; congr 2; simp; omega)

/-! ### The row's step -/
set_option maxRecDepth 100000 in
theorem lifted (os : Os) (started : os.Started) (H : Type) (enc : TypeId × Value → H) :
    ReturnsInHanded {} Try.checked os 6 .any (Rows.rttOrderSpec.pre6 enc Try.prog Try.f6 Rows.rttOrderRow.domain false) (Rows.rttOrderSpec.post enc Try.prog Try.f6 false true false false) := by
  refine returnsInHanded_of_change (C := Try.checked) own started (by kernel_rfl) Try.func6
    (ChangeSpec.witness6 (enc := enc) (C := Try.checked) false ⟨#[], #[.int .i64 0, .int .i64 0], []⟩ 8 (by kernel_rfl) (by kernel_rfl) (by kernel_rfl) (by kernel_rfl)) ?_
  intro W base args ds gs before hval0 hW hcnd _
  have hval : ∀ (j : Nat) t v, Try.f6.params[j]? = some t → args[j]? = some v → Value.okWide Try.prog W .any base t v := hval0
  have hW' := hW
  obtain ⟨p, q, hA0, hV, rfl, hfz, hnd⟩ := hW
  have hA : DataW.TrodAll enc Try.prog W 0 (fun _ => true) true Try.f6.params.toList args.toList ds p := hA0
  rw [Try.params6] at hA hval
  obtain ⟨v0, vs0, d0, ds0, p0, q0, hargs, rfl, rfl, h0, r0⟩ := trodAll_cons hA
  obtain ⟨v1, vs1, d1, ds1, p1, q1, rfl, rfl, rfl, h1, r1⟩ := trodAll_cons r0
  obtain ⟨rfl, rfl, rfl⟩ := trodAll_nil r1
  obtain rfl : args = #[v0, v1] := by cases args; simp_all
  obtain ⟨rfl, rfl⟩ := trodVars_none hV
  obtain ⟨a0, rfl, rfl, rfl, w0⟩ := open_int Try.underlying3 (hval 0 3 v0 rfl rfl) h0
  obtain ⟨a1, rfl, rfl, rfl, w1⟩ := open_int Try.underlying3 (hval 1 3 v1 rfl rfl) h1
  clear hA0 hval0
  refine (walk a0 a1 W w0 w1).mono fun e W' ⟨he, bel⟩ => ?_
  subst he
  exact ⟨_, rfl, _, _, _, [], _, [], hW', trodAll_mk1 (shut_bool Try.underlying4 _), (trodAll_cons_mk (shut_int Try.underlying3 w0) (trodAll_cons_mk (shut_int Try.underlying3 w1) trodAll_mk0)), rfl, bel.frame _, fun h => by cases h⟩

theorem over : Rows.rttOrderRow.holds Try.pinned (OpenSpec.ofChange Rows.rttOrderSpec) :=
  OpenClaim.holds_of_wide 6 Try.f6 rfl rfl rfl rfl rfl rfl rfl ⟨rfl, rfl, rfl, rfl, rfl⟩ rfl rfl rfl rfl rfl (by kernel_rfl) Try.func6 (by kernel_rfl)
    (of_decide_eq_true (by kernel_rfl)) (by unfold Func.isWrapper; first | (rw [if_pos (by decide +kernel)]; kernel_rfl) | (rw [if_neg (by decide +kernel)]; exact ⟨rfl, rfl⟩))
    (fun os started H enc _ => lifted os started H enc)

theorem proved : Rows.RttOrderSaid := over
#print axioms proved
end Go.Proofs.Ytcfmdeimehoipaa.rttOrder
