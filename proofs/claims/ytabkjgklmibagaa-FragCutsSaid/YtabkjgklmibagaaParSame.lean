/-
  The laws' size of parameters; the document's Same.
-/
import Derived.Test.YtabkjgklmibagaaParRef
set_option linter.unusedVariables false
set_option linter.unusedSimpArgs false
namespace Go.Proofs.Ytabkjgklmibagaa.Par
open Go.ChangeShapes Go.WideShapes Go.ChangeAt Go.RowKit Go.Deep Go.Proofs.Ytabkjgklmibagaa.Words Go.Proofs.Ytabkjgklmibagaa.Oct

/-- What size answers. -/
def sizeF : List Prm → Nat → Nat
  | [], acc => acc
  | p :: r, acc => if 200000 < acc ∨ 200000 < p.2.length then 200001 else sizeF r (acc + (4 + p.2.length))
theorem sizeF_eq : ∀ (ls : List Prm) (acc : Nat), sizeF ls acc ≤ 200000 → sizeF ls acc = acc + sizeL ls
  | [], acc, _ => by simp [sizeF, sizeL]
  | p :: r, acc, h => by
    unfold sizeF at h ⊢
    split
    · rename_i hc; rw [if_pos hc] at h; omega
    · rename_i hc
      rw [if_neg hc] at h
      rw [sizeF_eq r _ h, sizeL_cons]
      omega
theorem sizeF_lt : ∀ (ls : List Prm) (acc : Nat), acc ≤ 400004 → sizeF ls acc ≤ 400004
  | [], acc, h => h
  | p :: r, acc, h => by
    unfold sizeF
    split
    · omega
    · rename_i hc
      exact sizeF_lt r _ (by omega)
set_option maxHeartbeats 4000000 in
theorem same_any (A1 A2 : Option Addr) (l1 l2 : List Prm) (n1 n2 c1 c2 B1 B2 : Nat) (w : World) (hn1 : n1 = l1.length) (hn2 : n2 = l2.length) (hm1 : n1 ≤ c1) (hm2 : n2 ≤ c2) (hx1 : c1 ≤ 9223372036854775807) (hx2 : c2 ≤ 9223372036854775807) (h1 : Ps w B1 A1 l1) (h2 : Ps w B2 A2 l2) :
    Calls Try.prog 16 #[.slice A1 n1 c1, .slice A2 n2 c2] w fun e w' => e = .returned (.bool (decide (l1 = l2))) ∧ ∃ m, w' = w.drewN m := by
  have H1 := Lib.hid h1
  have H2 := Lib.hid h2
  have HN1 := Lib.hid hn1
  have HN2 := Lib.hid hn2
  obtain ⟨r, hr⟩ : ∃ r, r = decide (l1 = l2) := ⟨_, rfl⟩
  have HR := Lib.hid hr
  rw [← hr]
  clear h1 h2 hn1 hn2 hr
  by_cases hne : (n1 : Int) = (n2 : Int)
  · obtain rfl : n1 = n2 := by omega
    clear hne
    go_enter Try.func16, Try.ntmps16
    go_wp2_with fail
    go_loopw [4, 5, 13] (fun _ _ i wr => ∃ (k m : Nat), k ≤ n1 ∧ i = .int .i64 k ∧ Hid (l1.take k = l2.take k) ∧ wr = w.drewN m) (fun _ _ i _ => n1 - (intOf i).toNat)
    case atStart => exact ⟨0, 0, by omega, rfl, rfl, rfl⟩
    case round =>
      obtain ⟨k, m, hk, rfl, HT, rfl⟩ := hrel
      by_cases hlt : k < n1
      · have hk1 : k < l1.length := by rw [← HN1.out]; exact hlt
        have hk2 : k < l2.length := by rw [← HN2.out]; exact hlt
        obtain ⟨ad, a, cv, rfl, _, hp16, hc0, hc1, hvc, hvm, hvb⟩ := (H1.out.drewN m) k _ (List.getElem?_eq_getElem hk1)
        obtain ⟨ad', a', cv', rfl, _, hp16', hc0', hc1', hvc', hvm', hvb'⟩ := (H2.out.drewN m) k _ (List.getElem?_eq_getElem hk2)
        obtain ⟨p, hp⟩ : ∃ p, p = l1[k] := ⟨_, rfl⟩
        obtain ⟨p', hp'⟩ : ∃ p, p = l2[k] := ⟨_, rfl⟩
        have HS1 : Hid (l1.take (k + 1) = l1.take k ++ [p]) := by rw [List.take_succ_eq_append_getElem hk1, hp]; rfl
        have HS2 : Hid (l2.take (k + 1) = l2.take k ++ [p']) := by rw [List.take_succ_eq_append_getElem hk2, hp']; rfl
        have HE : Hid (l1 = l2 → p = p') := fun e => by subst e; rw [hp, hp']
        rw [← hp] at hp16 hc0 hc1 hvc hvb
        rw [← hp'] at hp16' hc0' hc1' hvc' hvb'
        clear hp hp'
        obtain ⟨nv, hnv⟩ : ∃ nv, nv = p.2.length := ⟨_, rfl⟩
        obtain ⟨nv', hnv'⟩ : ∃ nv, nv = p'.2.length := ⟨_, rfl⟩
        rw [← hnv] at hc1 hvc
        rw [← hnv'] at hc1' hvc'
        obtain ⟨kd, hkd⟩ : ∃ kd, kd = p.1 := ⟨_, rfl⟩
        obtain ⟨kd', hkd'⟩ : ∃ kd, kd = p'.1 := ⟨_, rfl⟩
        rw [← hkd] at hp16 hc0
        rw [← hkd'] at hp16' hc0'
        obtain ⟨Wm, hWm⟩ : ∃ Wm, Wm = w.drewN m := ⟨_, rfl⟩
        rw [← hWm] at hc0 hc1 hvb hc0' hc1' hvb' ⊢
        have HWm := Lib.hid hWm
        have HVB := Lib.hid hvb
        have HVB' := Lib.hid hvb'
        have HNV := Lib.hid hnv
        have HNV' := Lib.hid hnv'
        have HKD := Lib.hid hkd
        have HKD' := Lib.hid hkd'
        have hst1 : ∀ q, (convert 24 9 (.slice a nv cv)).run Try.prog (Wm.drewN q) = .ok (.string ⟨p.2.toArray⟩) (Wm.drewN q) := fun q => run_str (HVB.out.drewN q) _ _ _ Try.underlying24 Try.underlying5 Try.underlying9 nv cv HNV.out
        have hst2 : ∀ q, (convert 24 9 (.slice a' nv' cv')).run Try.prog (Wm.drewN q) = .ok (.string ⟨p'.2.toArray⟩) (Wm.drewN q) := fun q => run_str (HVB'.out.drewN q) _ _ _ Try.underlying24 Try.underlying5 Try.underlying9 nv' cv' HNV'.out
        obtain ⟨pv, hpv⟩ : ∃ pv, pv = p.2 := ⟨_, rfl⟩
        obtain ⟨pv', hpv'⟩ : ∃ pv, pv = p'.2 := ⟨_, rfl⟩
        rw [← hpv] at hst1
        rw [← hpv'] at hst2
        have HPV := Lib.hid hpv
        have HPV' := Lib.hid hpv'
        have e1 : (k : Int) < (n1 : Int) := by omega
        have e2 : (0 : Int) ≤ (k : Int) := by omega
        clear hvb hvb' hnv hnv' hkd hkd' hWm hpv hpv'
        by_cases hkk : kd = kd'
        · subst hkk
          have d1 : ((kd : Int) != (kd : Int)) = false := by simp
          by_cases hvv : pv = pv'
          · subst hvv
            go_wp2_with fail
            go_quiet (fail)
            go_wp2_with fail
            go_roundw
            case rel =>
              refine ⟨k + 1, m + nq, by omega, by go_num, ?_, by rw [HWm.out, World.drewN_drewN]⟩
              show l1.take (k + 1) = l2.take (k + 1)
              rw [HS1.out, HS2.out, HT.out, show p = p' from Prod.ext (by rw [← HKD.out, ← HKD'.out]) (by rw [← HPV.out, ← HPV'.out])]
            case measure => simp [intOf]; omega
          · have d2 : (pv == pv') = false := by simpa using hvv
            go_wp2_with fail
            go_quiet (fail)
            go_wp2_with fail
            go_ret
            refine ⟨ret_bool ?_, m + nq, by rw [HWm.out, World.drewN_drewN]⟩
            rw [HR.out]
            exact (decide_eq_false (fun e => hvv (by rw [HPV.out, HPV'.out, HE.out e]))).symm
        · have d1 : ((kd : Int) != (kd' : Int)) = true := by simp; omega
          go_wp2_with fail
          go_quiet (fail)
          go_wp2_with fail
          go_ret
          refine ⟨ret_bool ?_, m + nq, by rw [HWm.out, World.drewN_drewN]⟩
          rw [HR.out]
          exact (decide_eq_false (fun e => hkk (by rw [HKD.out, HKD'.out, HE.out e]))).symm
      · obtain rfl : k = n1 := by omega
        go_wp2_with fail
        go_ret
        refine ⟨ret_bool ?_, m, rfl⟩
        rw [HR.out]
        have := HT.out
        rw [List.take_of_length_le (by rw [HN1.out]; exact Nat.le_refl _), List.take_of_length_le (by rw [HN2.out]; exact Nat.le_refl _)] at this
        exact (decide_eq_true this).symm
  · go_enter Try.func16, Try.ntmps16
    go_wp2_with fail
    go_ret
    refine ⟨ret_bool ?_, 0, rfl⟩
    rw [HR.out]
    exact (decide_eq_false (fun e => hne (by rw [HN1.out, HN2.out, e]))).symm
end Go.Proofs.Ytabkjgklmibagaa.Par
