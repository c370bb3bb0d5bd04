/-
  Plain facts on numbers as bytes, the most significant first.
-/
import Derived.Test.YtabkjgklmibagaaWords
set_option linter.unusedVariables false
set_option linter.unusedSimpArgs false
namespace Go.Proofs.Ytabkjgklmibagaa.Oct
open Go.RowKit Go.Proofs.Ytabkjgklmibagaa.Words

def byteAt (v m : Nat) : UInt8 := UInt8.ofNat (v / 2 ^ (8 * m))
theorem byteAt_nat (v m : Nat) : (byteAt v m).toNat = v / 2 ^ (8 * m) % 256 := by simp [byteAt]
theorem byteAt_walk (v m : Nat) : (v : Int) / 2 ^ (8 * m) % 256 = ((byteAt v m).toNat : Int) := by
  rw [byteAt_nat, Int.natCast_emod, Int.natCast_ediv, Int.natCast_pow]; rfl
/-- The last n bytes of v, the most significant first. -/
def be (v n : Nat) : List UInt8 := (List.range n).map fun d => byteAt v (n - 1 - d)
theorem be_length (v n : Nat) : (be v n).length = n := by simp [be]
theorem be_take (v n k : Nat) (h : k < n) : (be v n).take (k + 1) = (be v n).take k ++ [byteAt v (n - 1 - k)] := by
  rw [List.take_succ_eq_append_getElem (by rw [be_length]; exact h)]
  simp [be]
/-- The number of bytes, the most significant first. -/
def num (l : List UInt8) : Nat := l.foldl (fun v x => 256 * v + x.toNat) 0
theorem num_snoc (l : List UInt8) (x : UInt8) : num (l ++ [x]) = 256 * num l + x.toNat := by simp [num, List.foldl_append]
theorem num_lt (l : List UInt8) : num l < 256 ^ l.length := by
  have key : ∀ k, k ≤ l.length → num (l.take k) < 256 ^ k := by
    intro k
    induction k with
    | zero => intro _; simp [num]
    | succ k ih =>
      intro hk
      have ih := ih (by omega)
      rw [List.take_succ_eq_append_getElem (by omega), num_snoc, Nat.pow_succ]
      have := (l[k]).toNat_lt
      omega
  have := key l.length (Nat.le_refl _)
  rwa [List.take_length] at this
theorem num_be (v n : Nat) : num (be v n) = v % 256 ^ n := by
  have key : ∀ k, k ≤ n → num ((be v n).take k) = v / 256 ^ (n - k) % 256 ^ k := by
    intro k
    induction k with
    | zero => intro _; simp [num]; omega
    | succ k ih =>
      intro hk
      rw [be_take v n k (by omega), num_snoc, ih (by omega), byteAt_nat, show n - 1 - k = n - (k + 1) by omega, Nat.pow_mul, show (2 : Nat) ^ 8 = 256 by rfl]
      have e1 : v / 256 ^ (n - k) = v / 256 ^ (n - (k + 1)) / 256 := by
        have e2 : n - k = (n - (k + 1)) + 1 := by omega
        rw [Nat.div_div_eq_div_mul, ← Nat.pow_succ, e2]
      rw [e1]
      generalize v / 256 ^ (n - (k + 1)) = q
      have := Nat.mod_mul (x := q) (a := 256) (b := 256 ^ k)
      rw [Nat.pow_succ, Nat.mul_comm (256 ^ k) 256, this]
      omega
  have := key n (Nat.le_refl _)
  rw [List.take_of_length_le (by rw [be_length]; exact Nat.le_refl _), Nat.sub_self, Nat.pow_zero, Nat.div_one] at this
  exact this
/-- How many noughts a pad adds. -/
def padN (len : Nat) (n : Int) : Nat := if 0 < n then (n.toNat - len % n.toNat) % n.toNat else 0
end Go.Proofs.Ytabkjgklmibagaa.Oct
