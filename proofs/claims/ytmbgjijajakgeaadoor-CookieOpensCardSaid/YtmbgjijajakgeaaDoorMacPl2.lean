/-
  More plain facts on the bytes of SHA-256.
-/
import Derived.Test.YtmbgjijajakgeaaDoorMacPlain
set_option linter.unusedVariables false
set_option linter.unusedSimpArgs false
namespace Go.Proofs.YtmbgjijajakgeaaDoor.Sha
/-- The ending while its last eight bytes are laid, from behind. -/
def endP (n j : Nat) : List UInt8 := 128 :: (List.replicate (zerosN n + (8 - j)) 0 ++ (be8 (8 * n)).drop (8 - j))
theorem endP_length (n j : Nat) (hj : j ≤ 8) : (endP n j).length = 9 + zerosN n := by simp [endP, be8]; omega
theorem endP_all (n : Nat) : endP n 8 = endL n := rfl
theorem endP_step (n j : Nat) (hj : j < 8) (b : UInt8) (hb : (be8 (8 * n))[7 - j]? = some b) : endP n (j + 1) = (endP n j).set (8 + zerosN n - j) b := by
  obtain ⟨z, hz⟩ : ∃ z, z = zerosN n := ⟨_, rfl⟩
  obtain ⟨m, hm⟩ : ∃ m, 8 - j = m + 1 := ⟨7 - j, by omega⟩
  have hd : (be8 (8 * n)).drop m = b :: (be8 (8 * n)).drop (m + 1) := by
    rw [show 7 - j = m by omega] at hb
    obtain ⟨h1, rfl⟩ := List.getElem?_eq_some_iff.1 hb
    exact List.drop_eq_getElem_cons h1
  unfold endP
  rw [← hz, hm, show 8 - (j + 1) = m by omega, show 8 + z - j = (z + m) + 1 by omega, List.set_cons_succ, List.set_append_left _ _ (by simp <;> omega), hd, show z + (m + 1) = z + m + 1 by omega, List.replicate_succ']
  rw [List.set_append_right _ _ (by simp)]
  simp
end Go.Proofs.YtmbgjijajakgeaaDoor.Sha
