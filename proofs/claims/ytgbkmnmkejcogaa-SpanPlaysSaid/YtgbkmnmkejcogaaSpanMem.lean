/-
  How a set lies in memory, and the contracts of package span's functions that only read it.
-/
import Derived.Test.YtgbkmnmkejcogaaRows
import Derived.Test.YtgbkmnmkejcogaaSpanPlain
import Derived.Test.YtgbkmnmkejcogaaSer
import Derived.WalkKit
import Derived.ProofKit
import Derived.Below
import Derived.Lib.Hide
import Derived.Laws.OwnMore
import Derived.Laws.CopyOwn
import Derived.Deep.Draws
import Derived.Deep.QuietTactic
import Derived.BigQuiet
import Derived.Deep.AppendLies
set_option linter.unusedVariables false
set_option linter.unusedSimpArgs false
namespace Go.Proofs.Ytgbkmnmkejcogaa.Span
open Go.ChangeShapes Go.WideShapes Go.ChangeAt Go.RowKit Go.Proofs.Ytgbkmnmkejcogaa.Ser

/-- The cells of the rows of a set with this mark. -/
def flat (M : Int) : List (Nat × Nat) → List Value
  | [] => []
  | r :: rs => .int .u32 (adr M r.1) :: .int .u32 (adr M r.2) :: flat M rs
theorem flat_append (M : Int) : ∀ (a b : List (Nat × Nat)), flat M (a ++ b) = flat M a ++ flat M b
  | [], _ => rfl
  | r :: a, b => by simp [flat, flat_append M a b]
theorem flat_length (M : Int) : ∀ (a : List (Nat × Nat)), (flat M a).length = 2 * a.length
  | [] => rfl
  | r :: a => by simp [flat, flat_length M a]; omega
theorem flat_shl (M : Int) (k : Nat) : ∀ (a : List (Nat × Nat)), (∀ r ∈ a, k ≤ r.1 ∧ k ≤ r.2) → flat (adr M k) (shl k a) = flat M a
  | [], _ => rfl
  | r :: a, h => by
    have hr := h r (by simp)
    have := flat_shl M k a (fun s hs => h s (by simp [hs]))
    simp only [shl, List.map_cons, flat, adr_adr] at this ⊢
    rw [this, show k + (r.1 - k) = r.1 by omega, show k + (r.2 - k) = r.2 by omega]
theorem flat_get (M : Int) (rs : List (Nat × Nat)) (i : Nat) (h : i < rs.length) : (flat M rs)[2 * i]? = some (.int .u32 (adr M rs[i].1)) ∧ (flat M rs)[2 * i + 1]? = some (.int .u32 (adr M rs[i].2)) := by
  have e : rs = rs.take i ++ rs[i] :: rs.drop (i + 1) := by rw [List.getElem_cons_drop]; simp
  have hl : (flat M (rs.take i)).length = 2 * i := by rw [flat_length, List.length_take]; omega
  constructor
  · conv => lhs; rw [e, flat_append, List.getElem?_append_right (by omega), hl]
    simp [flat]
  · conv => lhs; rw [e, flat_append, List.getElem?_append_right (by omega), hl]
    simp [flat]

/-- The cells of a set's struct. -/
def Blk (w : World) (g : Nat) (t : TypeId) (cs : Array Value) : Prop := w.heap[g]? = some (.cells cs t (0, 0))
/-- A set behind the pointer to block p, from block B on: mark M, these rows, v its slice. -/
structure SetAt (w : World) (B p : Nat) (v : Value) (M : Int) (rs : List (Nat × Nat)) : Prop where
  hp : B ≤ p
  hM : 0 ≤ M ∧ M ≤ 4294967295
  blk : Blk w p 66 #[.int .u32 M, v]
  own : w.ownsRow B 71 2 v rs.length (flat M rs)

abbrev ptr (p : Nat) : Value := .pointer (some ⟨p, 0, none⟩)

theorem Blk.lt {w : World} {g : Nat} {t : TypeId} {cs : Array Value} (h : Blk w g t cs) : g < w.heap.size := by
  rcases Nat.lt_or_ge g w.heap.size with hlt | hge
  · exact hlt
  · unfold Blk at h; rw [Array.getElem?_eq_none hge] at h; cases h
theorem Blk.cell {w : World} {g : Nat} {t : TypeId} {cs : Array Value} (h : Blk w g t cs) (i : Nat) : w.cell? ⟨g, i, none⟩ = cs[i]? := cell_of_row w g i cs t (0, 0) h
theorem Blk.frozen {w : World} {g : Nat} {t : TypeId} {cs : Array Value} (h : Blk w g t cs) (i : Nat) : w.frozen? ⟨g, i, none⟩ = false := by
  unfold Blk at h
  simp [World.frozen?, h]
theorem Blk.below {B : Nat} {w w' : World} {g : Nat} {t : TypeId} {cs : Array Value} (h : Blk w g t cs) (hb : Below B w w') (hg : g < B) : Blk w' g t cs := (hb.block g hg).trans h

theorem SetAt.mark {w : World} {B p : Nat} {v : Value} {M : Int} {rs : List (Nat × Nat)} (h : SetAt w B p v M rs) : w.cell? ⟨p, 0, none⟩ = some (.int .u32 M) := h.blk.cell 0
theorem SetAt.rows {w : World} {B p : Nat} {v : Value} {M : Int} {rs : List (Nat × Nat)} (h : SetAt w B p v M rs) : w.cell? ⟨p, 1, none⟩ = some v := h.blk.cell 1

theorem mark_any {w : World} {B p : Nat} {v : Value} {M : Int} {rs : List (Nat × Nat)} (h : SetAt w B p v M rs) :
    Calls Try.prog 23 #[ptr p] w fun e w' => e = .returned (.int .u32 M) ∧ w = w' := by
  have h0 := h.mark
  clear h
  go_enter Try.func23, Try.ntmps23
  go_wp2
  go_ret
  exact ⟨rfl, rfl⟩

theorem new_any (M : Int) (hM : 0 ≤ M ∧ M ≤ 4294967295) (B : Nat) (w : World) (hB : B ≤ w.heap.size) :
    Calls Try.prog 16 #[.int .u32 M] w fun e w' => e = .returned (ptr w.heap.size) ∧ SetAt w' B w.heap.size (.slice none 0 0) M [] ∧ Below w.heap.size w w' := by
  go_enter Try.func16, Try.ntmps16
  go_wp2
  go_ret
  refine ⟨rfl, ⟨hB, hM, heap_alloc_new w _, World.ownsRow_nil _ _ _ _⟩, (Below.refl _ _).alloc (Nat.le_refl _) _⟩
end Go.Proofs.Ytgbkmnmkejcogaa.Span
