/-
  The document's Put of parameters.
-/
import Derived.Test.YtabkjgklmibagaaParRef
set_option linter.unusedVariables false
set_option linter.unusedSimpArgs false
namespace Go.Proofs.Ytabkjgklmibagaa.Par
open Go.ChangeShapes Go.WideShapes Go.ChangeAt Go.RowKit Go.Deep Go.Proofs.Ytabkjgklmibagaa.Words Go.Proofs.Ytabkjgklmibagaa.Oct

theorem sizeL_take (ls : List Prm) (k : Nat) : sizeL (ls.take k) ≤ sizeL ls := by
  induction ls generalizing k with
  | nil => simp
  | cons p ls ih =>
    cases k with
    | zero => simp [sizeL]
    | succ k => rw [List.take_succ_cons, sizeL_cons, sizeL_cons]; have := ih k; omega
/-- Where a list of bytes stands beside the loop's variable. -/
structure BSt (w V : World) (gv : Nat) (b : Value) (l : List UInt8) (cs : Array Value) : Prop where
  own : Own V w.heap.size b l
  blk : Blk V gv 74 cs
  below : Below w.heap.size w V
section
variable {w V V' : World} {gv : Nat} {b b' : Value} {l l' : List UInt8} {cs : Array Value}
theorem BSt.grows (h : BSt w V gv b l cs) (k : Below V.heap.size V V') : BSt w V' gv b l cs :=
  ⟨(Fr.of_below k).own h.own (fun g hg hi => by have := (h.own.lt g hg).2; omega), h.blk.below k h.blk.lt, h.below.trans (k.mono h.below.size)⟩
theorem BSt.app (h : BSt w V gv b l cs) (ho : Own V' w.heap.size b' l') (hg : V.grownBy V' b.ownBlock) : BSt w V' gv b' l' cs :=
  ⟨ho, (Fr.of_grown hg).blk h.blk (fun e => own_blk_ne h.own h.blk (by decide) e.symm), h.below.grown hg h.below.size (fun g hg => (h.own.lt g hg).1)⟩
theorem BSt.own_n {A : Option Addr} {n c : Nat} (h : BSt w V gv (.slice A n c) l cs) (hn : n = l.length) : V.ownsRow w.heap.size 5 1 (.slice A n c) n (u8s l) := by
  have := h.own
  unfold Own at this
  rw [← hn] at this
  exact this
end
theorem pad_four (l : List UInt8) (p : Prm) (h : l.length % 4 = 0) : padN (((l ++ be p.1 2) ++ be (p.2.length + 4) 2) ++ p.2).length 4 = padC p.2.length := by
  simp only [List.length_append, be_length, padN, padC]
  rw [if_pos (by decide)]
  simp only [show ((4 : Int).toNat) = 4 by rfl]
  omega
/-- What the document's Put answers. -/
def PutTold (w : World) (ls : List Prm) (e : Ending) (w' : World) : Prop :=
  (∃ v, e = .returned (.tuple #[v, .bool true]) ∧ Own w' w.heap.size v (encL ls) ∧ (∀ p ∈ ls, p.2.length ≤ 65531)) ∨
  (e = .returned (.tuple #[.slice none 0 0, .bool false]) ∧ ∃ p ∈ ls, 65531 < p.2.length)
end Go.Proofs.Ytabkjgklmibagaa.Par
