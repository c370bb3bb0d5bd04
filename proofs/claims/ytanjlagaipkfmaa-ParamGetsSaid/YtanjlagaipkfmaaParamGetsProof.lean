/-
  PROVED: ParamGets of flumelaw05 answers true for every input, and its arguments read afterwards as before. CONDITIONS: none beside the form's own.
-/
import Derived.Test.YtanjlagaipkfmaaRows
import Derived.Test.YtanjlagaipkfmaaParG
import Derived.Test.YtanjlagaipkfmaaParLaw
import Derived.Test.YtanjlagaipkfmaaSees
import Derived.Test.YtanjlagaipkfmaaStage
import Derived.Test.YtanjlagaipkfmaaRegion
import Derived.WalkKit
import Derived.ProofKit
import Derived.OpenShut
import Derived.ShutString
import Derived.ChangeOld
import Derived.Below
namespace Go.Proofs.Ytanjlagaipkfmaa.paramGets
open Go.ChangeShapes Go.WideShapes Go.ChangeAt Go.RowKit
open Go.ChangeMaps (open_string shut_string)
set_option linter.unusedVariables false
set_option linter.unusedSimpArgs false

theorem own : ownKnob Try.prog.godebug = none := by kernel_rfl
theorem laidOut : laidOutB Try.prog = true := by kernel_rfl

/-- What the walk is told of a slice of integers that came in. -/
def IsRow (k : IntKind) (w : World) (a : Option Addr) (len cap : Nat) (zs : List Int) : Prop :=
  (a = none ∧ len = 0 ∧ cap = 0 ∧ zs = []) ∨
  ∃ x, a = some x ∧ len ≤ cap ∧ cap ≤ maxLen ∧ zs.length = cap ∧ (∀ i, i < zs.length → w.cell? (x.add i) = some (.int k (zs.getD i 0))) ∧ ∀ n ∈ zs, (Lit.int k n).wf = true

/-! ### The walk -/
open Words Oct Par
set_option maxHeartbeats 4000000 in
set_option maxRecDepth 100000 in
theorem walk (a0 : Option Addr) (len0 cap0 : Nat) (z0 : List Int) (w : World) (w0 : IsRow .u8 w a0 len0 cap0 z0) :
    Calls Try.prog 4 #[.slice a0 len0 cap0] w fun e w' => e = .returned (.bool true) ∧ Below w.heap.size w w' := by
  obtain ⟨x, hlen, hcap, hc63, hby⟩ := bytes_of w0
  subst hlen
  have HX := Lib.hid hby
  obtain ⟨n, hn⟩ : ∃ n, n = x.length := ⟨_, rfl⟩
  rw [← hn] at hcap ⊢
  have HN := Lib.hid hn
  clear hby w0 hn
  go_enter Try.func4, Try.ntmps4
  go_wp2_with fail
  refine (first_any put_c get_c w).mono ?_
  rintro e W1 ⟨rfl, hb1⟩
  have HB1 := Lib.hid hb1
  clear hb1
  by_cases hbig : (100000 : Int) < (n : Int)
  · go_wp2_with fail
    go_ret
    exact ⟨rfl, HB1.out⟩
  · go_wp2_with fail
    refine (get_c a0 x n cap0 W1 HN.out hcap hc63 (by omega) ((HX.out.below HB1.out).more HB1.out.size)).mono ?_
    rintro e W2 ⟨hd, hb2⟩
    have HB2 := Lib.hid (HB1.out.trans (hb2.mono HB1.out.size))
    rcases hd with ⟨v, ls, hls, rfl, ho⟩ | ⟨k, A2, c2, hk, rfl, hc2⟩
    · obtain ⟨A2, c2, rfl, h2a, h2b⟩ := ho.slice
      obtain ⟨nl, hnl⟩ : ∃ nl, nl = ls.length := ⟨_, rfl⟩
      rw [← hnl] at ho h2a ⊢
      have HNL := Lib.hid hnl
      have HLS := Lib.hid hls
      have HO2 := Lib.hid ho
      clear hb2 ho hnl hls
      go_wp2_with fail
      refine (rget_any a0 x n cap0 W2 HN.out (by omega) hcap hc63 ((HX.out.below HB2.out).more HB2.out.size)).mono ?_
      rintro e W3 ⟨hd, hb3⟩
      have HB3 := Lib.hid (HB2.out.trans (hb3.mono HB2.out.size))
      have HO3 := Lib.hid (HO2.out.grows hb3)
      rcases hd with ⟨v3, ls3, hls3, rfl, ho3⟩ | ⟨k, hk, rfl⟩
      · rw [HLS.out] at hls3
        injection hls3 with hls3
        subst hls3
        obtain ⟨A3, c3, rfl, h3a, h3b⟩ := ho3.slice
        rw [← HNL.out] at ho3 h3a ⊢
        have HP3 := Lib.hid ho3.ps
        clear hb3 ho3
        go_wp2_with fail
        refine (same_any A2 A3 ls ls nl nl c2 c3 _ _ W3 HNL.out HNL.out h2a h3a h2b h3b HO3.out.ps HP3.out).mono ?_
        rintro e W4 ⟨he, m, rfl⟩
        obtain rfl : e = .returned (.bool true) := by rw [he]; simp
        obtain ⟨W4, hW4⟩ : ∃ W4, W4 = W3.drewN m := ⟨_, rfl⟩
        have HB4 : Hid (Below w.heap.size w W4) := by rw [hW4]; exact below_drewN HB3.out _
        have HP4 : Hid (Ps W4 W4.heap.size A2 ls) := by rw [hW4]; exact (HO3.out.ps).drewN m
        rw [← hW4]
        clear hW4 HP3 he
        have hen := enc_getL x.length x ls (Nat.le_refl _) HLS.out
        have hsz : sizeL ls ≤ 200000 := by
          have h1 := size_le_enc ls
          rw [hen.2, ← HN.out] at h1
          omega
        have HEN := Lib.hid hen
        clear hen
        go_wp2_with fail
        refine (put_c A2 ls nl c2 W4 HNL.out h2a h2b hsz HP4.out).mono ?_
        rintro e W5 ⟨hd, hb5⟩
        have HB5 := Lib.hid (HB4.out.trans (hb5.mono HB4.out.size))
        rcases hd with ⟨v5, rfl, ho5, _⟩ | ⟨A5, c5, _, p, hp, hl⟩
        · rw [HEN.out.2] at ho5
          obtain ⟨A5, c5, rfl, _, _, HY5⟩ := own_as (n := n) ho5 HN.out
          have hst1 := run_str (P := Try.prog) HY5.out 26 9 5 Try.underlying26 Try.underlying5 Try.underlying9 n c5 HN.out
          have hst2 := run_str (P := Try.prog) (HX.out.below HB5.out) 26 9 5 Try.underlying26 Try.underlying5 Try.underlying9 n cap0 HN.out
          clear ho5 hb5
          go_wp2_with fail
          go_ret
          exact ⟨rfl, HB5.out⟩
        · have := (HEN.out.1 p hp).2
          omega
      · rw [HLS.out] at hk; cases hk
    · have HK := Lib.hid hk
      have hk0 : (k : Int) ≠ 0 := by have := getL_errs hk; omega
      have hk1 : ((k : Int) != 0) = true := by simpa using hk0
      have hk2 : ((k : Int) != (k : Int)) = false := by simp
      clear hb2 hk
      go_wp2_with fail
      refine (rget_any a0 x n cap0 W2 HN.out (by omega) hcap hc63 ((HX.out.below HB2.out).more HB2.out.size)).mono ?_
      rintro e W3 ⟨hd, hb3⟩
      have HB3 := Lib.hid (HB2.out.trans (hb3.mono HB2.out.size))
      rcases hd with ⟨v3, ls3, hls3, _⟩ | ⟨k', hk', rfl⟩
      · rw [HK.out] at hls3; cases hls3
      · rw [HK.out] at hk'
        injection hk' with hk'
        subst hk'
        clear hb3
        go_wp2_with fail
        refine (same_any A2 none [] [] 0 0 c2 0 0 0 W3 rfl rfl (by omega) (by omega) hc2 (by omega) (Ps.nil _ _ _) (Ps.nil _ _ _)).mono ?_
        rintro e W4 ⟨he, m, rfl⟩
        obtain rfl : e = .returned (.bool true) := by rw [he]; rfl
        go_wp2_with fail
        go_ret
        exact ⟨rfl, below_drewN HB3.out _⟩

/-! ### The row's step -/
set_option maxRecDepth 100000 in
theorem lifted (os : Os) (started : os.Started) (H : Type) (enc : TypeId × Value → H) :
    ReturnsInHanded {} Try.checked os 4 .any (Rows.paramGetsSpec.pre6 enc Try.prog Try.f4 Rows.paramGetsRow.domain false) (Rows.paramGetsSpec.post enc Try.prog Try.f4 false true false false) := by
  refine returnsInHanded_of_change (C := Try.checked) own started (by kernel_rfl) Try.func4
    (ChangeSpec.witness6 (enc := enc) (C := Try.checked) false ⟨#[], #[.slice none 0 0], []⟩ 8 (by kernel_rfl) (by kernel_rfl) (by kernel_rfl) (by kernel_rfl)) ?_
  intro W base args ds gs before hval0 hW hcnd _
  have hval : ∀ (j : Nat) t v, Try.f4.params[j]? = some t → args[j]? = some v → Value.okWide Try.prog W .any base t v := hval0
  have hW' := hW
  obtain ⟨p, q, hA0, hV, rfl, hfz, hnd⟩ := hW
  have hA : DataW.TrodAll enc Try.prog W 0 (fun _ => true) true Try.f4.params.toList args.toList ds p := hA0
  rw [Try.params4] at hA hval
  obtain ⟨v0, vs0, d0, ds0, p0, q0, hargs, rfl, rfl, h0, r0⟩ := trodAll_cons hA
  obtain ⟨rfl, rfl, rfl⟩ := trodAll_nil r0
  obtain rfl : args = #[v0] := by cases args; simp_all
  obtain ⟨rfl, rfl⟩ := trodVars_none hV
  obtain ⟨a0, len0, cap0, rfl⟩ := okWide_slice Try.underlying26 (hval 0 26 v0 rfl rfl)
  have k0 := h0
  have lt0 : ∀ x ∈ p0, x.block < W.heap.size := by obtain ⟨m, hm⟩ := k0; exact DataW.trod_lt m _ _ _ hm
  obtain ⟨z0, w0⟩ : ∃ zs, IsRow .u8 W a0 len0 cap0 zs := by
    obtain ⟨fuel, hf⟩ := h0
    rcases open_ints Try.underlying26 Try.underlying5 (by kernel_rfl) hf with ⟨hcs, _⟩ | ⟨x, l, c, zs, hcs, _, hl, hm, hz, _, hcell, hwz⟩
    · simp [Value.cells] at hcs
      obtain ⟨rfl, rfl, rfl⟩ := hcs
      exact ⟨[], .inl ⟨rfl, rfl, rfl, rfl⟩⟩
    · simp [Value.cells] at hcs
      obtain ⟨rfl, rfl, rfl⟩ := hcs
      exact ⟨zs, .inr ⟨_, rfl, hl, hm, by simpa using hz, hcell, hwz⟩⟩
  clear hA0 hval0
  refine (walk a0 len0 cap0 z0 W w0).mono fun e W' ⟨he, bel⟩ => ?_
  subst he
  exact ⟨_, rfl, _, _, _, [], _, [], hW', trodAll_mk1 (shut_bool Try.underlying4 _), (trodAll_cons_mk (Below.trod laidOut (by kernel_rfl) (of_decide_eq_true (by kernel_rfl)) k0 bel lt0) trodAll_mk0), rfl, bel.frame _, fun h => by cases h⟩

theorem over : Rows.paramGetsRow.holds Try.pinned (OpenSpec.ofChange Rows.paramGetsSpec) :=
  OpenClaim.holds_of_wide 4 Try.f4 rfl rfl rfl rfl rfl rfl rfl ⟨rfl, rfl, rfl, rfl, rfl⟩ rfl rfl rfl rfl rfl (by kernel_rfl) Try.func4 (by kernel_rfl)
    (of_decide_eq_true (by kernel_rfl)) (by unfold Func.isWrapper; first | (rw [if_pos (by decide +kernel)]; kernel_rfl) | (rw [if_neg (by decide +kernel)]; exact ⟨rfl, rfl⟩))
    (fun os started H enc _ => lifted os started H enc)

theorem proved : Rows.ParamGetsSaid := over
#print axioms proved
end Go.Proofs.Ytanjlagaipkfmaa.paramGets
