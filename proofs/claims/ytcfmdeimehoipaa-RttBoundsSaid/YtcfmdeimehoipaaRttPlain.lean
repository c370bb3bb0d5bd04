/-
  Estimates, plain: what a sample leaves, how long to wait.
-/
import Derived.Test.YtcfmdeimehoipaaBytes
import Derived.OpenShut
set_option linter.unusedVariables false
set_option linter.unusedSimpArgs false
namespace Go.Proofs.Ytcfmdeimehoipaa.Rtt
open Go.ChangeShapes Go.WideShapes Go.ChangeAt Go.RowKit Go.Proofs.Ytcfmdeimehoipaa.Words

/-- An estimate: taken or not, eight times a time, four times a deviation, doublings. -/
structure Es where
  t : Bool
  s : Nat
  d : Nat
  k : Nat
/-- |a - b| -/
def dist (a b : Nat) : Nat := (a - b) + (b - a)
theorem dist_eq (a b : Nat) : (dist a b : Int) = if (a : Int) - b < -((a : Int) - b) then -((a : Int) - b) else (a : Int) - b := by unfold dist; split <;> omega
/-- What a sample that is taken leaves. -/
def samp (x : Es) (n : Nat) : Es := if x.t = true then ⟨true, x.s - x.s / 8 + n, x.d - x.d / 4 + dist n (x.s / 8), 0⟩ else ⟨true, 8 * n, 2 * n, 0⟩
structure Es.Ok (x : Es) : Prop where
  s : x.s ≤ 480000
  d : x.d ≤ 240000
  z : x.t = false → x.s = 0 ∧ x.d = 0
theorem samp_ok {x : Es} {n : Nat} (h : x.Ok) (hn : n ≤ 60000) : (samp x n).Ok := by
  have := h.s; have := h.d
  unfold samp
  split
  · exact ⟨by simp only; omega, by simp only [dist]; omega, fun h => by cases h⟩
  · exact ⟨by simp only; omega, by simp only; omega, fun h => by cases h⟩
theorem samp_t (x : Es) (n : Nat) : (samp x n).t = true := by unfold samp; split <;> rfl
theorem samp_k (x : Es) (n : Nat) : (samp x n).k = 0 := by unfold samp; split <;> rfl
/-- The wait without doublings. -/
def bs (x : Es) : Nat := if x.t = true then min (max (x.s / 8 + x.d) 10) 600 else 30
theorem bs_le (x : Es) : 10 ≤ bs x ∧ bs x ≤ 600 := by unfold bs; split <;> omega
/-- k doublings of w. -/
def wt (w k : Nat) : Nat := min (w * 2 ^ k) 600
theorem wt_zero {w : Nat} (h : w ≤ 600) : wt w 0 = w := by unfold wt; rw [Nat.pow_zero, Nat.mul_one]; omega
theorem wt_succ (w k : Nat) : wt w (k + 1) = min (2 * wt w k) 600 := by
  unfold wt
  rw [Nat.pow_succ, ← Nat.mul_assoc]
  omega
theorem wt_le (w k : Nat) : wt w k ≤ 600 := by unfold wt; omega
theorem wt_ge (w k : Nat) (h : w ≤ 600) : w ≤ wt w k := by
  unfold wt
  have : w * 1 ≤ w * 2 ^ k := Nat.mul_le_mul_left _ (Nat.pow_pos (by decide))
  omega
theorem wt_full {w k : Nat} (h : wt w k = 600) : ∀ j, wt w (k + j) = 600
  | 0 => h
  | j + 1 => by rw [show k + (j + 1) = (k + j) + 1 by omega, wt_succ, wt_full h j]; rfl
theorem wt_six {w k : Nat} (h : 10 ≤ w) : wt w (min k 6) = wt w k := by
  rcases Nat.le_total k 6 with h6 | h6
  · rw [Nat.min_eq_left h6]
  · rw [Nat.min_eq_right h6]
    have e : wt w 6 = 600 := by unfold wt; rw [show (2 : Nat) ^ 6 = 64 from rfl]; omega
    have := wt_full e (k - 6)
    rw [show 6 + (k - 6) = k by omega] at this
    rw [this, e]
/-- How long to wait. -/
def wait (x : Es) : Nat := wt (bs x) x.k
theorem wait_le (x : Es) : 10 ≤ wait x ∧ wait x ≤ 600 := by
  have := bs_le x
  have := wt_ge (bs x) x.k (by omega)
  have := wt_le (bs x) x.k
  unfold wait
  omega
/-- Doubled, as the program keeps it. -/
def dbl (x : Es) : Es := { x with k := min (x.k + 1) 6 }
def clr (x : Es) : Es := { x with k := 0 }
theorem wait_dbl {x : Es} (h : x.k ≤ 6) : wait (dbl x) = min 600 (2 * wait x) := by
  unfold wait dbl
  have := bs_le x
  rw [wt_six (show 10 ≤ bs _ from (bs_le _).1)]
  show wt (bs x) (x.k + 1) = _
  rw [wt_succ, Nat.min_comm]
/-- With so many doublings. -/
def kk (x : Es) (k : Nat) : Es := { x with k := k }
theorem wait_six (x : Es) (k : Nat) : wait (kk x (min k 6)) = wait (kk x k) := by
  unfold wait
  show wt (bs x) (min k 6) = wt (bs x) k
  exact wt_six (bs_le x).1

theorem row_of {k : IntKind} {w : World} {a : Option Addr} {len cap : Nat} {z : List Int}
    (h : (a = none ∧ len = 0 ∧ cap = 0 ∧ z = []) ∨ ∃ x, a = some x ∧ len ≤ cap ∧ cap ≤ maxLen ∧ z.length = cap ∧ (∀ i, i < z.length → w.cell? (x.add i) = some (.int k (z.getD i 0))) ∧ ∀ n ∈ z, (Lit.int k n).wf = true) :
    len ≤ cap ∧ cap ≤ 9223372036854775807 ∧ ∀ i, i < len → ∃ x, a = some x ∧ x.block < w.heap.size ∧ w.cell? (x.add i) = some (.int k (z.getD i 0)) ∧ (Lit.int k (z.getD i 0)).wf = true := by
  rcases h with ⟨rfl, rfl, rfl, rfl⟩ | ⟨x, rfl, h1, h2, h3, h4, h5⟩
  · exact ⟨Nat.le_refl _, by omega, fun i hi => by omega⟩
  · refine ⟨h1, by unfold maxLen at h2; omega, fun i hi => ⟨x, rfl, ?_, h4 i (by omega), h5 _ ?_⟩⟩
    · have := World.block_lt_of_cell? w _ (h4 i (by omega))
      unfold Addr.add at this
      split at this <;> exact this
    · rw [List.getD_eq_getElem?_getD, List.getElem?_eq_getElem (by omega)]
      exact List.getElem_mem _
/-- The same of a cell, in a later world. -/
theorem row_later {w w' : World} {B : Nat} {x : Addr} {i : Nat} {u : Value} (hb : Below B w w') (hx : x.block < B) (h : w.cell? (x.add i) = some u) : w'.cell? (x.add i) = some u := by
  refine (hb.cell (p := x.add i) ?_).trans h
  unfold Addr.add
  split <;> exact hx
theorem elem {w w' : World} {a : Option Addr} {len : Nat} {z : List Int} (hr : ∀ i, i < len → ∃ x, a = some x ∧ x.block < w.heap.size ∧ w.cell? (x.add i) = some (.int .i64 (z.getD i 0)) ∧ (Lit.int .i64 (z.getD i 0)).wf = true) (hb : Below w.heap.size w w') {i : Nat} (hi : i < len) :
    ∃ x q, a = some x ∧ w'.cell? (x.add i) = some (.int .i64 q) ∧ -9223372036854775808 ≤ q ∧ q ≤ 9223372036854775807 := by
  obtain ⟨x, ha, hx, hc, hw⟩ := hr i hi
  have hz := bounds_i64 hw
  exact ⟨x, z.getD i 0, ha, row_later hb hx hc, hz.1, hz.2⟩
end Go.Proofs.Ytcfmdeimehoipaa.Rtt
