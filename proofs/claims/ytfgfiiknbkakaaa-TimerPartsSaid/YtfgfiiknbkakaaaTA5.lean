/-
  Of the texts TmOr: what the laws reach.
-/
import Derived.Test.YtfgfiiknbkakaaaTA3

set_option linter.unusedVariables false
set_option linter.unusedSimpArgs false
namespace Go.Proofs.Ytfgfiiknbkakaaa.Tm
open Go.Proofs.Ytfgfiiknbkakaaa.Words
section
variable {el : Nat → Nat} {L M t : List K} {z x : K} {i n j now N : Nat}
/-- All timers of the kinds from lo on, below hi. -/
def OrM (el : Nat → Nat) (lo hi : Nat) (L : List K) : Prop := ∀ z, z ∈ L ↔ ∃ j, lo ≤ j ∧ j < hi ∧ z = (el j, (j : Int))
theorem or_nil {a : Nat} : OrM el a a [] := fun z => ⟨fun h => (by cases h), fun ⟨j, h1, h2, _⟩ => by omega⟩
theorem or_up (h : OrM el 0 i L) : OrM el 0 (i + 1) (put (i : Int) (el i) L) := fun z => by
  rw [put_mem]
  constructor
  · rintro (rfl | ⟨h1, _⟩)
    · exact ⟨i, Nat.zero_le _, Nat.lt_succ_self i, rfl⟩
    · obtain ⟨j, a, b, e⟩ := (h z).1 h1
      exact ⟨j, a, by omega, e⟩
  · rintro ⟨j, _, hj, rfl⟩
    rcases Nat.lt_or_ge j i with h1 | h1
    · exact .inr ⟨(h _).2 ⟨j, Nat.zero_le _, h1, rfl⟩, fun e => by have e' : (j : Int) = (i : Int) := e; omega⟩
    · exact .inl (by rw [show j = i by omega])
theorem or_down {m : Nat} (h : OrM el (m + 1) N L) (hm : m < N) : OrM el m N (put (m : Int) (el m) L) := fun z => by
  rw [put_mem]
  constructor
  · rintro (rfl | ⟨h1, _⟩)
    · exact ⟨m, Nat.le_refl _, hm, rfl⟩
    · obtain ⟨j, a, b, e⟩ := (h z).1 h1
      exact ⟨j, by omega, b, e⟩
  · rintro ⟨j, a, b, rfl⟩
    rcases Nat.lt_or_ge m j with h1 | h1
    · exact .inr ⟨(h _).2 ⟨j, h1, b, rfl⟩, fun e => by have e' : (j : Int) = (m : Int) := e; omega⟩
    · exact .inl (by rw [show j = m by omega])
theorem or_no_up (h : OrM el 0 i L) : has (i : Int) L = false := has_no.2 (fun z hz e => by
  obtain ⟨j, _, hj, rfl⟩ := (h z).1 hz
  have e' : (j : Int) = (i : Int) := e
  omega)
theorem or_no_down {m : Nat} (h : OrM el (m + 1) N L) : has (m : Int) L = false := has_no.2 (fun z hz e => by
  obtain ⟨j, hj, _, rfl⟩ := (h z).1 hz
  have e' : (j : Int) = (m : Int) := e
  omega)
theorem or_same (h : OrM el 0 N L) (k : OrM el 0 N M) (hl : Ok L) (hm : Ok M) : L = M := srt_ext hl.srt hm.srt (fun z => (h z).trans (k z).symm)
theorem due_max (h : Ok L) : dueL 18446744073709551615 L = L ∧ dueR 18446744073709551615 L = [] := by
  have h1 : ∀ {M : List K}, (∀ x ∈ M, x.1 ≤ 18446744073709551615) → dueL 18446744073709551615 M = M ∧ dueR 18446744073709551615 M = [] := by
    intro M
    induction M with
    | nil => exact fun _ => ⟨rfl, rfl⟩
    | cons y M ih =>
      intro hM
      obtain ⟨a, b⟩ := ih (fun x hx => hM x (List.mem_cons_of_mem _ hx))
      have hy := hM y List.mem_cons_self
      unfold dueL dueR at *
      rw [List.takeWhile_cons_of_pos (by simpa using hy), List.dropWhile_cons_of_pos (by simpa using hy), a, b]
      exact ⟨rfl, rfl⟩
  exact h1 (fun x hx => (h.bnd x hx).1)
/-- What stands at a place of the row of kinds, and what stood ahead of it. -/
theorem or_at (h : OrM el 0 N L) {q : Nat} (hq : q < L.length) : ∃ j, j < N ∧ L[q]? = some (el j, (j : Int)) := by
  have hx := List.getElem?_eq_getElem hq
  obtain ⟨j, _, hj, e⟩ := (h _).1 (List.mem_of_getElem? hx)
  exact ⟨j, hj, by rw [hx, e]⟩
theorem or_lt (h : Ok L) {q a b c d : Nat} (h1 : L[q]? = some (a, (b : Int))) (h2 : L[q + 1]? = some (c, (d : Int))) : a < c ∨ (a = c ∧ b < d) := by
  have hs := List.pairwise_iff_getElem.1 h.srt
  obtain ⟨p1, e1⟩ := List.getElem?_eq_some_iff.1 h1
  obtain ⟨p2, e2⟩ := List.getElem?_eq_some_iff.1 h2
  have := hs q (q + 1) p1 p2 (Nat.lt_succ_self q)
  rw [e1, e2] at this
  unfold lt at this
  dsimp only at this
  omega
end
end Go.Proofs.Ytfgfiiknbkakaaa.Tm
