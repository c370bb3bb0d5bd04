/-
  Contracts of package octet: readers and writers.
-/
import Derived.Test.YtabkjgklmibagaaOctPlain
import Derived.Test.YtabkjgklmibagaaBytes
set_option linter.unusedVariables false
set_option linter.unusedSimpArgs false
namespace Go.Proofs.Ytabkjgklmibagaa.Oct
open Go.ChangeShapes Go.WideShapes Go.ChangeAt Go.RowKit Go.Proofs.Ytabkjgklmibagaa.Words

abbrev rptr (p : Nat) : Value := .pointer (some ⟨p, 0, none⟩)
/-! ### readers -/
section
variable {w w' : World} {p G : Nat} {l : List UInt8} {bad : Bool}
end
/-- The frame of a reader's step. -/
abbrev At (p : Nat) : Nat → Prop := fun k => k = p

/-- One byte more of a number. -/
theorem or_byte (a : Nat) (x : Int) (b : UInt8) (hx : x = ((a * 256 : Nat) : Int)) (ha : a < 16777216) : bits .or .u32 x (b.toNat : Int) = ((256 * a + b.toNat : Nat) : Int) := by
  subst hx
  have := u8_bd b
  rw [u32_or_nat _ _ (by omega) (by omega), nat_join 8 _ _ (Nat.mul_mod_left _ _) (by omega), Nat.mul_comm]

theorem num_small {l : List UInt8} {n k : Nat} (h : n ≤ k) : num (l.take n) < 256 ^ k := Nat.lt_of_lt_of_le (num_lt _) (Nat.pow_le_pow_right (by decide) (by rw [List.length_take]; omega))

/-- What End answers. -/
def endOf (l : List UInt8) (bad : Bool) : Int := if bad then 40 else if l.length = 0 then 0 else 41

end Go.Proofs.Ytabkjgklmibagaa.Oct
