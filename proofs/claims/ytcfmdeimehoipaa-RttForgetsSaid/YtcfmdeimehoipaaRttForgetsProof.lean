/-
  PROVED: RttForgets of flumelaw10 answers true for every input, and its arguments read afterwards as before. CONDITIONS: none beside the form's own.
-/
import Derived.Test.YtcfmdeimehoipaaRows
import Derived.Test.YtcfmdeimehoipaaRttLaw
import Derived.WalkKit
import Derived.ProofKit
import Derived.OpenShut
import Derived.ShutString
import Derived.ChangeOld
import Derived.Below
namespace Go.Proofs.Ytcfmdeimehoipaa.rttForgets
open Go.ChangeShapes Go.WideShapes Go.ChangeAt Go.RowKit
open Go.ChangeMaps (open_string shut_string)
set_option linter.unusedVariables false
set_option linter.unusedSimpArgs false

theorem own : ownKnob Try.prog.godebug = none := by kernel_rfl
theorem laidOut : laidOutB Try.prog = true := by kernel_rfl

/-- What the walk is told of a slice of integers that came in. -/
def IsRow (k : IntKind) (w : World) (a : Option Addr) (len cap : Nat) (zs : List Int) : Prop :=
  (a = none ∧ len = 0 ∧ cap = 0 ∧ zs = []) ∨
  ∃ x, a = some x ∧ len ≤ cap ∧ cap ≤ maxLen ∧ zs.length = cap ∧ (∀ i, i < zs.length → w.cell? (x.add i) = some (.int k (zs.getD i 0))) ∧ ∀ n ∈ zs, (Lit.int k n).wf = true

/-! ### The walk -/
open Words Rtt
set_option maxHeartbeats 4000000 in
set_option maxRecDepth 100000 in
theorem walk (a0 : Option Addr) (len0 cap0 : Nat) (z0 : List Int) (a1 : Int) (a2 : Int) (w : World) (w0 : IsRow .i64 w a0 len0 cap0 z0) (w1 : (Lit.int .i64 a1).wf = true) (w2 : (Lit.int .i64 a2).wf = true) :
    Calls Try.prog 7 #[.slice a0 len0 cap0, .int .i64 a1, .int .i64 a2] w fun e w' => e = .returned (.bool true) ∧ Below w.heap.size w w' := by
  obtain ⟨hcap, hlen, hrow⟩ := row_of w0
  have HR := Lib.hid hrow
  have hA := bounds_i64 w1
  have hB := bounds_i64 w2
  clear hrow w0 w1 w2
  obtain ⟨n, hn, hnb⟩ := u64rem a1 70 (by omega) (by omega)
  go_enter Try.func7, Try.ntmps7
  go_wp2_with fail
  refine (first_any w).mono ?_
  rintro e W1 ⟨rfl, hb1⟩
  have H0 := Lib.hid (S2.new hb1)
  clear hb1
  go_wp2_with fail
  obtain ⟨W2, hW2⟩ : ∃ W2, W2 = (W1.alloc (.cells #[.bool false, .int .i64 0, .int .i64 0, .int .i64 0] 25)).alloc (.cells #[.bool false, .int .i64 0, .int .i64 0, .int .i64 0] 25) := ⟨_, rfl⟩
  rw [← hW2] at H0 ⊢
  clear hW2
  obtain ⟨p, hp⟩ : ∃ p, p = W1.heap.size := ⟨_, rfl⟩
  obtain ⟨r, hr⟩ : ∃ r, r = p + 1 := ⟨_, rfl⟩
  rw [← hp] at H0 ⊢
  rw [← hr] at H0 ⊢
  clear hp hr
  go_loopw [16] (fun i wr => ∃ k : Nat, k ≤ len0 ∧ i = .int .i64 k ∧ ∃ x, Hid (S2 w wr p r x x)) (fun i _ => len0 - (intOf i).toNat)
  case atStart => exact ⟨0, Nat.zero_le _, rfl, _, H0⟩
  case round =>
    obtain ⟨k, hk, rfl, x, HX⟩ := hrel
    by_cases hlt : k < len0
    · obtain ⟨y, q, rfl, hc1, hz1, hz2⟩ := elem HR.out HX.out.a.b hlt
      by_cases h30 : k < 30
      · go_wp2_with fail
        refine (HX.out.any q).mono ?_
        rintro e w3 ⟨t1, z1, rfl, H2, T1, Z1⟩
        go_wp2_with fail
        refine (H2.out.symm.any q).mono ?_
        rintro e w4 ⟨t2, z2, rfl, H3, T2, Z2⟩
        go_wp2_with fail
        go_roundw
        case rel =>
          exact ⟨k + 1, by omega, by go_num, z1, H3.out.symm.as_ rfl (by rw [Z1.out, Z2.out, T1.out, T2.out])⟩
        case measure => simp [intOf]; omega
      · go_wp2_with fail
        go_roundw
        case rel => exact ⟨k + 1, by omega, by go_num, _, HX⟩
        case measure => simp [intOf]; omega
    · obtain rfl : k = len0 := by omega
      go_upto_region 12 with (fail)
      rw [hn]
      clear hn
      go_loopw [32] (fun i wr => ∃ j : Nat, j ≤ n ∧ i = .int .i64 j ∧ ∃ d, Hid (S2 w wr p r (kk x d) x)) (fun i _ => n - (intOf i).toNat)
      case atStart => exact ⟨0, Nat.zero_le _, rfl, x.k, HX⟩
      case round =>
        obtain ⟨j, hj, rfl, d, HJ⟩ := hrel
        by_cases hlt : j < n
        · go_wp2_with fail
          refine HJ.out.double.mono ?_
          rintro e w3 ⟨rfl, H2⟩
          go_wp2_with fail
          go_roundw
          case rel => exact ⟨j + 1, by omega, by go_num, _, H2⟩
          case measure => simp [intOf]; omega
        · obtain rfl : j = n := by omega
          go_wp2_with fail
          refine HJ.out.wait.mono ?_
          rintro e w4 ⟨rfl, H3⟩
          obtain ⟨v, hv⟩ : ∃ v, v = Rtt.wait (kk x d) := ⟨_, rfl⟩
          rw [← hv]
          have HV := Lib.hid hv
          clear hv
          by_cases g : 0 ≤ a2 ∧ a2 ≤ 60000
          · obtain ⟨m, rfl⟩ : ∃ m : Nat, a2 = m := ⟨a2.toNat, by omega⟩
            go_wp2_with fail
            refine (H3.out.sample (n := m) (by omega)).mono ?_
            rintro e w5 ⟨rfl, H4⟩
            go_wp2_with fail
            refine (H4.out.symm.sample (n := m) (by omega)).mono ?_
            rintro e w6 ⟨rfl, H5⟩
            go_wp2_with fail
            refine H5.out.symm.wait.mono ?_
            rintro e w7 ⟨rfl, H6⟩
            rw [samp_kk]
            go_wp2_with fail
            refine H6.out.symm.wait.mono ?_
            rintro e w8 ⟨rfl, H7⟩
            go_wp2_with fail
            go_ret
            exact ⟨by simp, H7.out.a.b⟩
          · go_wp2_with fail
            refine (H3.out.sample_no (n := a2) (by omega)).mono ?_
            rintro e w5 ⟨rfl, H4⟩
            go_wp2_with fail
            refine H4.out.wait.mono ?_
            rintro e w6 ⟨rfl, H5⟩
            rw [← HV.out]
            go_wp2_with fail
            refine (H5.out.symm.sample_no (n := a2) (by omega)).mono ?_
            rintro e w7 ⟨rfl, H6⟩
            go_wp2_with fail
            go_ret
            exact ⟨rfl, H6.out.a.b⟩

/-! ### The row's step -/
set_option maxRecDepth 100000 in
theorem lifted (os : Os) (started : os.Started) (H : Type) (enc : TypeId × Value → H) :
    ReturnsInHanded {} Try.checked os 7 .any (Rows.rttForgetsSpec.pre6 enc Try.prog Try.f7 Rows.rttForgetsRow.domain false) (Rows.rttForgetsSpec.post enc Try.prog Try.f7 false true false false) := by
  refine returnsInHanded_of_change (C := Try.checked) own started (by kernel_rfl) Try.func7
    (ChangeSpec.witness6 (enc := enc) (C := Try.checked) false ⟨#[], #[.slice none 0 0, .int .i64 0, .int .i64 0], []⟩ 8 (by kernel_rfl) (by kernel_rfl) (by kernel_rfl) (by kernel_rfl)) ?_
  intro W base args ds gs before hval0 hW hcnd _
  have hval : ∀ (j : Nat) t v, Try.f7.params[j]? = some t → args[j]? = some v → Value.okWide Try.prog W .any base t v := hval0
  have hW' := hW
  obtain ⟨p, q, hA0, hV, rfl, hfz, hnd⟩ := hW
  have hA : DataW.TrodAll enc Try.prog W 0 (fun _ => true) true Try.f7.params.toList args.toList ds p := hA0
  rw [Try.params7] at hA hval
  obtain ⟨v0, vs0, d0, ds0, p0, q0, hargs, rfl, rfl, h0, r0⟩ := trodAll_cons hA
  obtain ⟨v1, vs1, d1, ds1, p1, q1, rfl, rfl, rfl, h1, r1⟩ := trodAll_cons r0
  obtain ⟨v2, vs2, d2, ds2, p2, q2, rfl, rfl, rfl, h2, r2⟩ := trodAll_cons r1
  obtain ⟨rfl, rfl, rfl⟩ := trodAll_nil r2
  obtain rfl : args = #[v0, v1, v2] := by cases args; simp_all
  obtain ⟨rfl, rfl⟩ := trodVars_none hV
  obtain ⟨a0, len0, cap0, rfl⟩ := okWide_slice Try.underlying22 (hval 0 22 v0 rfl rfl)
  have k0 := h0
  have lt0 : ∀ x ∈ p0, x.block < W.heap.size := by obtain ⟨m, hm⟩ := k0; exact DataW.trod_lt m _ _ _ hm
  obtain ⟨z0, w0⟩ : ∃ zs, IsRow .i64 W a0 len0 cap0 zs := by
    obtain ⟨fuel, hf⟩ := h0
    rcases open_ints Try.underlying22 Try.underlying3 (by kernel_rfl) hf with ⟨hcs, _⟩ | ⟨x, l, c, zs, hcs, _, hl, hm, hz, _, hcell, hwz⟩
    · simp [Value.cells] at hcs
      obtain ⟨rfl, rfl, rfl⟩ := hcs
      exact ⟨[], .inl ⟨rfl, rfl, rfl, rfl⟩⟩
    · simp [Value.cells] at hcs
      obtain ⟨rfl, rfl, rfl⟩ := hcs
      exact ⟨zs, .inr ⟨_, rfl, hl, hm, by simpa using hz, hcell, hwz⟩⟩
  obtain ⟨a1, rfl, rfl, rfl, w1⟩ := open_int Try.underlying3 (hval 1 3 v1 rfl rfl) h1
  obtain ⟨a2, rfl, rfl, rfl, w2⟩ := open_int Try.underlying3 (hval 2 3 v2 rfl rfl) h2
  clear hA0 hval0
  refine (walk a0 len0 cap0 z0 a1 a2 W w0 w1 w2).mono fun e W' ⟨he, bel⟩ => ?_
  subst he
  exact ⟨_, rfl, _, _, _, [], _, [], hW', trodAll_mk1 (shut_bool Try.underlying4 _), (trodAll_cons_mk (Below.trod laidOut (by kernel_rfl) (of_decide_eq_true (by kernel_rfl)) k0 bel lt0) (trodAll_cons_mk (shut_int Try.underlying3 w1) (trodAll_cons_mk (shut_int Try.underlying3 w2) trodAll_mk0))), rfl, bel.frame _, fun h => by cases h⟩

theorem over : Rows.rttForgetsRow.holds Try.pinned (OpenSpec.ofChange Rows.rttForgetsSpec) :=
  OpenClaim.holds_of_wide 7 Try.f7 rfl rfl rfl rfl rfl rfl rfl ⟨rfl, rfl, rfl, rfl, rfl⟩ rfl rfl rfl rfl rfl (by kernel_rfl) Try.func7 (by kernel_rfl)
    (of_decide_eq_true (by kernel_rfl)) (by unfold Func.isWrapper; first | (rw [if_pos (by decide +kernel)]; kernel_rfl) | (rw [if_neg (by decide +kernel)]; exact ⟨rfl, rfl⟩))
    (fun os started H enc _ => lifted os started H enc)

theorem proved : Rows.RttForgetsSaid := over
#print axioms proved
end Go.Proofs.Ytcfmdeimehoipaa.rttForgets
