/-
  Contracts of package chunk: flags that are read; read; Get.
-/
import Derived.Test.YtabkjgklmibagaaChC
import Derived.Laws.ResultCell
set_option linter.unusedVariables false
set_option linter.unusedSimpArgs false
namespace Go.Proofs.Ytabkjgklmibagaa.Chk
open Go.ChangeShapes Go.WideShapes Go.ChangeAt Go.RowKit Go.Deep Go.Proofs.Ytabkjgklmibagaa.Words Go.Proofs.Ytabkjgklmibagaa.Oct Go.Proofs.Ytabkjgklmibagaa.Par

theorem bit_all : ((List.range 256).all fun b => ((bits .and .u8 (b : Int) 1 != 0) == (b % 2 == 1)) && (((bits .and .u8 (b : Int) 2 != 0) == (b / 2 % 2 == 1)) && ((bits .and .u8 (b : Int) 4 != 0) == (b / 4 % 2 == 1)))) = true := by kernel_rfl
theorem bit_of {b : Nat} (h : b < 256) : (bits .and .u8 (b : Int) 1 != 0) = (b % 2 == 1) ∧ (bits .and .u8 (b : Int) 2 != 0) = (b / 2 % 2 == 1) ∧ (bits .and .u8 (b : Int) 4 != 0) = (b / 4 % 2 == 1) := by
  have := List.all_eq_true.1 bit_all b (by simpa using h)
  simpa [Bool.and_eq_true, beq_iff_eq] using this
theorem zero_ok {k : Nat} (h : k < 256) : (zeroC k).ok := ⟨h, by show 0 < _; omega, by show 0 < _; omega, by show 0 < _; omega, by show 0 < _; omega, by show 0 < _; omega, by show 0 < _; omega, by show 0 < _; omega, by show 0 < _; omega, by show 0 < _; omega, fun _ h => by simp [zeroC] at h, fun _ h => by simp [zeroC] at h, fun _ h => by simp [zeroC] at h, fun _ h => by simp [zeroC] at h⟩
theorem flagged_ok {k f : Nat} (h : k < 256) : (flagged k f).ok := by
  have z := zero_ok h
  unfold flagged
  split
  · exact ⟨z.kind, z.tsn, z.st, z.mid, z.pp, z.fr, z.tag, z.win, z.out, z.inn, z.gaps, z.dups, z.skips, z.ps⟩
  · split
    · exact ⟨z.kind, z.tsn, z.st, z.mid, z.pp, z.fr, z.tag, z.win, z.out, z.inn, z.gaps, z.dups, z.skips, z.ps⟩
    · exact z
theorem flagged_kind (k f : Nat) : (flagged k f).kind = k := by
  unfold flagged
  split
  · rfl
  · split <;> rfl
theorem flagged_bare (k f : Nat) : Bare (flagged k f) := by
  unfold flagged
  split
  · exact ⟨rfl, rfl, rfl, rfl, rfl⟩
  · split <;> exact ⟨rfl, rfl, rfl, rfl, rfl⟩
theorem ck_nil {w : World} {B : Nat} {c : Ck} (ok : c.ok) (b : Bare c) : CkAt w B (ckArr c nilV nilV nilV nilV nilV) c := by
  obtain ⟨b1, b2, b3, b4, b5⟩ := b
  refine ⟨ok, ⟨none, 0⟩, ⟨none, 0⟩, ⟨none, 0⟩, ⟨none, 0⟩, ⟨none, 0⟩, ?_⟩
  rw [b1, b2, b3, b4, b5]
  exact ⟨rfl, ⟨Nat.le_refl _, by simp⟩, ⟨Nat.le_refl _, by simp⟩, ⟨Nat.le_refl _, by simp⟩, ⟨Nat.le_refl _, by simp⟩, ⟨Nat.le_refl _, by simp⟩, Reads.none_, Reads.none_, Reads.none_, Ps.nil _ _ _, by unfold Byt; exact Reads.none_⟩
theorem flagsN_lt (c : Ck) : flagsN c < 256 := by
  unfold flagsN loN
  (repeat' split) <;> omega

end Go.Proofs.Ytabkjgklmibagaa.Chk
