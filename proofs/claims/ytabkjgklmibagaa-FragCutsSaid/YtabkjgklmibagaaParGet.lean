/-
  The document's Get of parameters.
-/
import Derived.Test.YtabkjgklmibagaaParRef
set_option linter.unusedVariables false
set_option linter.unusedSimpArgs false
namespace Go.Proofs.Ytabkjgklmibagaa.Par
open Go.ChangeShapes Go.WideShapes Go.ChangeAt Go.RowKit Go.Deep Go.Proofs.Ytabkjgklmibagaa.Words Go.Proofs.Ytabkjgklmibagaa.Oct

/-- The row behind what was copied, ahead of the append. -/
theorem row_ready2 {w wr w2 : World} {v : Value} {ls : List Prm} {n : Nat} {o : Obj} (h : OwnPs wr w.heap.size v ls) (hn : n = ls.length) (hb : Below wr.heap.size wr w2) :
    ∃ xs, Hid (OwnPs (w2.alloc o) w.heap.size v ls) ∧ Hid ((w2.alloc o).ownsRow w.heap.size 74 2 v n xs) ∧ Hid (∀ i q, ls[i]? = some q → q.1 < 65536 ∧ ∃ a c, xs[i * 2]? = some (.int .u16 (q.1 : Int)) ∧ xs[i * 2 + 1]? = some (.slice a q.2.length c) ∧ q.2.length ≤ c ∧ c ≤ 9223372036854775807 ∧ Own (w2.alloc o) w.heap.size (.slice a q.2.length c) q.2) := by
  have h4 : OwnPs (w2.alloc o) w.heap.size v ls := h.grows (hb.alloc hb.size o)
  obtain ⟨xs, h1, h2⟩ := id h4
  rw [← hn] at h1
  exact ⟨xs, h4, h1, h2⟩
/-- What the document's Get answers. -/
def GetTold (w : World) (x : List UInt8) (e : Ending) (w' : World) : Prop :=
  (∃ v ls, getL x = .ok ls ∧ e = .returned (.tuple #[v, .int .i64 0]) ∧ OwnPs w' w.heap.size v ls) ∨
  (∃ c, getL x = .error c ∧ e = .returned (.tuple #[.slice none 0 0, .int .i64 (c : Int)]))
theorem num_two (l : List UInt8) (h : 2 ≤ l.length) : num (l.take 2) = 256 * (l[0]).toNat + (l[1]).toNat := by
  match l, h with
  | a :: b :: r, _ => simp [num]
theorem one_short {b : List UInt8} (h : b.length < 4) : one b = .error 40 := by unfold one; rw [if_pos h]
theorem one_small {b : List UInt8} (h : ¬ b.length < 4) (h2 : num ((b.drop 2).take 2) < 4) : one b = .error 42 := by unfold one; rw [if_neg h, if_pos h2]
theorem one_cut {b : List UInt8} {m : Nat} (h : ¬ b.length < 4) (hm : m = num ((b.drop 2).take 2)) (h2 : ¬ m < 4) (h3 : b.length < (m + 3) / 4 * 4) : one b = .error 40 := by
  subst hm
  unfold one; rw [if_neg h, if_neg h2, if_pos h3]
theorem one_pad {b : List UInt8} {m : Nat} (h : ¬ b.length < 4) (hm : m = num ((b.drop 2).take 2)) (h2 : ¬ m < 4) (h3 : ¬ b.length < (m + 3) / 4 * 4) (h4 : ((b.drop m).take ((m + 3) / 4 * 4 - m)).any (· != 0) = true) : one b = .error 42 := by
  subst hm
  unfold one; rw [if_neg h, if_neg h2, if_neg h3, if_pos h4]
theorem one_good {b : List UInt8} {m : Nat} (h : ¬ b.length < 4) (hm : m = num ((b.drop 2).take 2)) (h2 : ¬ m < 4) (h3 : ¬ b.length < (m + 3) / 4 * 4) (h4 : ((b.drop m).take ((m + 3) / 4 * 4 - m)).any (· != 0) = false) :
    one b = .ok ((num (b.take 2), (b.drop 4).take (m - 4)), (m + 3) / 4 * 4) := by
  subst hm
  unfold one; rw [if_neg h, if_neg h2, if_neg h3, if_neg (by rw [h4]; decide)]
theorem any_at {l : List UInt8} {k : Nat} (hk : k < l.length) (h : l[k] ≠ 0) : l.any (· != 0) = true := by
  rw [List.any_eq_true]
  exact ⟨l[k], List.getElem_mem _, by simpa using h⟩
theorem any_take {l : List UInt8} {k : Nat} (hk : k < l.length) (h : (l.take k).any (· != 0) = false) (hz : l[k] = 0) : (l.take (k + 1)).any (· != 0) = false := by
  rw [List.take_succ_eq_append_getElem hk, List.any_append, h, hz]; rfl
theorem err_told {w w' : World} {x : List UInt8} {acc : List Prm} {j c : Nat} (hj : j < x.length) (h : getL x = behind acc (getL (x.drop j))) (ho : one (x.drop j) = .error c) : GetTold w x (.returned (.tuple #[.slice none 0 0, .int .i64 (c : Int)])) w' := by
  refine .inr ⟨c, ?_, rfl⟩
  rw [h, getL_err (fun e => by have := congrArg List.length e; rw [List.length_drop] at this; simp at this; omega) ho]
  rfl
end Go.Proofs.Ytabkjgklmibagaa.Par
