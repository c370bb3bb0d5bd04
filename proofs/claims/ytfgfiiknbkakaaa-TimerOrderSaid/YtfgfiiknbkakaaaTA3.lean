/-
  Of the texts TmNx: what the laws reach.
-/
import Derived.Test.YtfgfiiknbkakaaaTA1

set_option linter.unusedVariables false
set_option linter.unusedSimpArgs false
namespace Go.Proofs.Ytfgfiiknbkakaaa.Tm
open Go.Proofs.Ytfgfiiknbkakaaa.Words
section
variable {el : Nat → Nat} {L t : List K} {z x : K} {i n j now : Nat}
/-- Timers at these ticks, of these kinds. -/
def NxM (el : Nat → Nat) (c : Int) (n : Nat) (L : List K) : Prop := ∀ z ∈ L, ∃ j, j < n ∧ z = (el j, (j : Int) + c)
theorem nx_nil {c : Int} : NxM el c n [] := fun z hz => by cases hz
theorem nx_no {c : Int} (h : NxM el c i L) : has ((i : Int) + c) L = false := has_no.2 (fun z hz e => by
  obtain ⟨j, hj, rfl⟩ := h z hz
  have e' : (j : Int) + c = (i : Int) + c := e
  omega)
theorem nx_put {c : Int} (h : NxM el c i L) : NxM el c (i + 1) (put ((i : Int) + c) (el i) L) := fun z hz => by
  rcases put_mem.1 hz with rfl | ⟨hz, _⟩
  · exact ⟨i, Nat.lt_succ_self i, rfl⟩
  · obtain ⟨j, hj, e⟩ := h z hz
    exact ⟨j, by omega, e⟩
theorem nx_sub {c : Int} (h : NxM el c n L) (hs : ∀ z ∈ t, z ∈ L) : NxM el c n t := fun z hz => h z (hs z hz)
theorem due_before (h : ¬ z.1 ≤ now) : dueL now (z :: t) = [] ∧ dueR now (z :: t) = z :: t := by
  unfold dueL dueR
  rw [List.takeWhile_cons_of_neg (by simpa using h), List.dropWhile_cons_of_neg (by simpa using h)]
  exact ⟨rfl, rfl⟩
theorem due_le : ∀ {L : List K}, x ∈ dueL now L → x.1 ≤ now
  | [], h => by cases h
  | y :: L, h => by
    unfold dueL at h
    rw [List.takeWhile_cons] at h
    split at h
    · rename_i hy
      rcases List.mem_cons.1 h with rfl | h
      · simpa using hy
      · exact due_le h
    · cases h
theorem due_head (h : Ok (z :: t)) (hx : x ∈ dueL z.1 (z :: t)) : x.1 = z.1 := by
  have h1 : x.1 ≤ z.1 := due_le hx
  rcases List.mem_cons.1 (dueL_sub x hx) with rfl | h2
  · rfl
  · have := (List.pairwise_cons.1 h.srt).1 x h2
    unfold lt at this
    omega
theorem due_pos : 0 < (dueL z.1 (z :: t)).length := by
  unfold dueL
  rw [List.takeWhile_cons_of_pos (by simp)]
  exact Nat.succ_pos _
theorem due_len : (dueL now L).length + (dueR now L).length = L.length := by
  have := congrArg List.length (due_app (now := now) (L := L))
  rw [List.length_append] at this
  exact this
end
end Go.Proofs.Ytfgfiiknbkakaaa.Tm
