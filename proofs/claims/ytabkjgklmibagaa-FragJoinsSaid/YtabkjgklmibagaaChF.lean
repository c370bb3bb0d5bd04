/-
  Contracts of package chunk's reader: what is skipped.
-/
import Derived.Test.YtabkjgklmibagaaChS
set_option linter.unusedVariables false
set_option linter.unusedSimpArgs false
namespace Go.Proofs.Ytabkjgklmibagaa.Chk
open Go.ChangeShapes Go.WideShapes Go.ChangeAt Go.RowKit Go.Deep Go.Proofs.Ytabkjgklmibagaa.Words Go.Proofs.Ytabkjgklmibagaa.Oct Go.Proofs.Ytabkjgklmibagaa.Par

theorem sksN_snoc : ∀ (k : Nat) (l : List UInt8), sksN (k + 1) l = sksN k l ++ [(num ((l.drop (4 * k)).take 2), false, num (((l.drop (4 * k)).drop 2).take 2))]
  | 0, l => by simp [sksN]
  | k + 1, l => by
    have e : sksN (k + 1 + 1) l = (num (l.take 2), false, num ((l.drop 2).take 2)) :: sksN (k + 1) (l.drop 4) := rfl
    rw [e, sksN_snoc k (l.drop 4), List.drop_drop, show 4 + 4 * k = 4 * (k + 1) by omega]
    rfl
theorem sksV_snoc : ∀ (k : Nat) (l : List UInt8), sksV (k + 1) l = sksV k l ++ [(num ((l.drop (8 * k)).take 2), num (((l.drop (8 * k)).drop 2).take 2) == 1, num (((l.drop (8 * k)).drop 4).take 4))]
  | 0, l => by simp [sksV]
  | k + 1, l => by
    have e : sksV (k + 1 + 1) l = (num (l.take 2), num ((l.drop 2).take 2) == 1, num ((l.drop 4).take 4)) :: sksV (k + 1) (l.drop 8) := rfl
    rw [e, sksV_snoc k (l.drop 8), List.drop_drop, show 8 + 8 * k = 8 * (k + 1) by omega]
    rfl
theorem sksOk_snoc : ∀ (k : Nat) (l : List UInt8), sksOk (k + 1) l = (sksOk k l && decide (num (((l.drop (8 * k)).drop 2).take 2) ≤ 1))
  | 0, l => by simp [sksOk]
  | k + 1, l => by
    have e : sksOk (k + 1 + 1) l = (decide (num ((l.drop 2).take 2) ≤ 1) && sksOk (k + 1) (l.drop 8)) := rfl
    have e2 : (l.drop 8).drop (8 * k) = l.drop (8 * (k + 1)) := by rw [List.drop_drop, show 8 + 8 * k = 8 * (k + 1) by omega]
    rw [e, sksOk_snoc k (l.drop 8), e2, ← Bool.and_assoc]
    rfl
/-- How many bytes the reader behind the pointer to block p has left. -/
def lenAt (w : World) (p : Nat) : Nat := match w.cell? ⟨p, 0, none⟩ with | some (.slice _ n _) => n | _ => 0
/-- How far the rows of what is skipped are read. -/
def FwdAt (x : List UInt8) (bx : Bool) (y : List UInt8) (b : Bool) (n : Nat) (xs : List Value) : Prop :=
  (b = bx ∧ 4 * n ≤ x.length ∧ y = x.drop (4 * n) ∧ xs = skC (sksN n x)) ∨ (b = true ∧ y = [] ∧ x.length % 4 ≠ 0)
theorem FwdAt.step {x : List UInt8} {bx : Bool} {y : List UInt8} {b : Bool} {n : Nat} {xs : List Value} (h : FwdAt x bx y b n xs) (hy : y ≠ []) :
    FwdAt x bx (cutL 4 y) (cutB 4 y b) (n + 1) (xs ++ [.int .u16 ((val 2 y : Nat) : Int), .bool false, .int .u32 ((val 2 (cutL 2 y) : Nat) : Int)]) := by
  rcases h with ⟨rfl, hn, rfl, rfl⟩ | ⟨_, e, _⟩
  · have hl : (x.drop (4 * n)).length = x.length - 4 * n := List.length_drop
    have h0 : 0 < (x.drop (4 * n)).length := List.length_pos_iff.2 hy
    by_cases h4 : 4 ≤ (x.drop (4 * n)).length
    · refine .inl ⟨cutB_yes h4 _, by omega, ?_, ?_⟩
      · rw [cutL_yes h4, List.drop_drop, show 4 * n + 4 = 4 * (n + 1) by omega]
      · rw [sksN_snoc, skC_snoc, val_yes (by omega), val_cut (by omega)]
    · exact .inr ⟨cutB_no h4 _, by unfold cutL; rw [if_neg h4], by omega⟩
  · exact absurd e hy
/-- How far the rows of the wide kind are read. -/
def WideAt (x : List UInt8) (bx : Bool) (y : List UInt8) (b : Bool) (w0 w1 : Bool) (n : Nat) (xs : List Value) : Prop :=
  (b = bx ∧ 8 * n ≤ x.length ∧ y = x.drop (8 * n) ∧ xs = skC (sksV n x) ∧ w1 = (w0 || !sksOk n x)) ∨ (b = true ∧ y = [] ∧ x.length % 8 ≠ 0)
theorem WideAt.step {x : List UInt8} {bx : Bool} {y : List UInt8} {b w0 w1 : Bool} {n : Nat} {xs : List Value} (h : WideAt x bx y b w0 w1 n xs) (hy : y ≠ []) :
    WideAt x bx (cutL 8 y) (cutB 8 y b) w0 (w1 || decide (1 < val 2 (cutL 2 y))) (n + 1) (xs ++ [.int .u16 ((val 2 y : Nat) : Int), .bool (val 2 (cutL 2 y) == 1), .int .u32 ((val 4 (cutL 4 y) : Nat) : Int)]) := by
  rcases h with ⟨rfl, hn, rfl, rfl, rfl⟩ | ⟨_, e, _⟩
  · have hl : (x.drop (8 * n)).length = x.length - 8 * n := List.length_drop
    have h0 : 0 < (x.drop (8 * n)).length := List.length_pos_iff.2 hy
    by_cases h8 : 8 ≤ (x.drop (8 * n)).length
    · refine .inl ⟨cutB_yes h8 _, by omega, ?_, ?_, ?_⟩
      · rw [cutL_yes h8, List.drop_drop, show 8 * n + 8 = 8 * (n + 1) by omega]
      · rw [sksV_snoc, skC_snoc, val_yes (n := 2) (l := x.drop (8 * n)) (by omega), val_cut (a := 2) (b := 2) (l := x.drop (8 * n)) (by omega), val_cut (a := 4) (b := 4) (l := x.drop (8 * n)) (by omega)]
      · rw [sksOk_snoc, val_cut (a := 2) (b := 2) (l := x.drop (8 * n)) (by omega), Bool.or_assoc]
        congr 1
        cases sksOk n x
        · rfl
        · generalize num (((x.drop (8 * n)).drop 2).take 2) = z
          by_cases hz : z ≤ 1
          · have h1 : decide (1 < z) = false := by simp; omega
            have h2 : decide (z ≤ 1) = true := by simpa using hz
            rw [h1, h2]; rfl
          · have h1 : decide (1 < z) = true := by simp; omega
            have h2 : decide (z ≤ 1) = false := by simpa using hz
            rw [h1, h2]; rfl
    · exact .inr ⟨cutB_no h8 _, by unfold cutL; rw [if_neg h8], by omega⟩
  · exact absurd e hy
section
variable {w V V' : World} {p G r g gs n : Nat} {l l' : List UInt8} {b b' bw bw' : Bool} {cs : Array Value} {v : Value} {xs : List Value} {ss : Array Value}
end

end Go.Proofs.Ytabkjgklmibagaa.Chk
