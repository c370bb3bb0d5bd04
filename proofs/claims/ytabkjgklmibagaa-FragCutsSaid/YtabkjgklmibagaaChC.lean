/-
  Contracts of package chunk's reader: all of it; flags; read.
-/
import Derived.Test.YtabkjgklmibagaaChF
set_option linter.unusedVariables false
set_option linter.unusedSimpArgs false
namespace Go.Proofs.Ytabkjgklmibagaa.Chk
open Go.ChangeShapes Go.WideShapes Go.ChangeAt Go.RowKit Go.Deep Go.Proofs.Ytabkjgklmibagaa.Words Go.Proofs.Ytabkjgklmibagaa.Oct Go.Proofs.Ytabkjgklmibagaa.Par

/-- Cells of a chunk, its lists rows of the call's own. -/
def CkOwn (w : World) (B : Nat) (cs : Array Value) (c : Ck) : Prop :=
  ∃ gv dv sv pv bv, cs = ckArr c gv dv sv pv bv ∧ w.ownsRow B 56 2 gv c.gaps.length (gapC c.gaps) ∧ w.ownsRow B 23 1 dv c.dups.length (dupC c.dups) ∧
    w.ownsRow B 58 3 sv c.skips.length (skC c.skips) ∧ OwnPs w B pv c.ps ∧ Own w B bv c.body
section
variable {w w' : World} {B B' : Nat} {cs : Array Value} {c : Ck}
theorem CkOwn.fr {S : Nat → Prop} (h : CkOwn w B cs c) (k : Fr S w w') (hS : ∀ i, S i → i < w.heap.size → i < B) : CkOwn w' B cs c := by
  obtain ⟨gv, dv, sv, pv, bv, e, h1, h2, h3, h4, h5⟩ := h
  have o : ∀ {t : TypeId} {size n : Nat} {v : Value} {xs : List Value}, w.ownsRow B t size v n xs → w'.ownsRow B t size v n xs := fun hx => k.own hx (fun g hg hi => by have := hx.lt g hg; have := hS g hi this.2; omega)
  exact ⟨gv, dv, sv, pv, bv, e, o h1, o h2, o h3, h4.fr k hS, o h5⟩
theorem CkOwn.grows (h : CkOwn w B cs c) (k : Below w.heap.size w w') : CkOwn w' B cs c := h.fr (Fr.of_below k) (fun i hi hlt => by omega)
theorem CkOwn.mono (h : CkOwn w B cs c) (hB : B' ≤ B) : CkOwn w B' cs c := by
  obtain ⟨gv, dv, sv, pv, bv, e, h1, h2, h3, h4, h5⟩ := h
  exact ⟨gv, dv, sv, pv, bv, e, own_mono h1 hB, own_mono h2 hB, own_mono h3 hB, h4.mono hB, own_mono h5 hB⟩
end
abbrev nilV : Value := .slice none 0 0
theorem own_g {w V : World} {B size n g i : Nat} {t : TypeId} {v u : Value} {xs : List Value} (h : V.ownsRow B t size v n xs) (hg : g < B) : (V.setCell ⟨g, i, none⟩ u).ownsRow B t size v n xs :=
  ((Fr.refl (fun k => k = g) V).setCell (p := ⟨g, i, none⟩) (.inl rfl) u).own h (fun b hb e => by have := (h.lt b hb).1; have e' : b = g := e; omega)
theorem ownps_g {V : World} {B g i : Nat} {v u : Value} {ls : List Prm} (h : OwnPs V B v ls) (hg : g < B) : OwnPs (V.setCell ⟨g, i, none⟩ u) B v ls :=
  h.fr ((Fr.refl (fun k => k = g) V).setCell (p := ⟨g, i, none⟩) (.inl rfl) u) (fun j hj _ => by have e : j = g := hj; omega)
theorem nilG {w : World} {B : Nat} : w.ownsRow B 56 2 nilV ([] : List Gp).length (gapC []) := World.ownsRow_nil _ _ _ _
theorem nilD {w : World} {B : Nat} : w.ownsRow B 23 1 nilV ([] : List Nat).length (dupC []) := World.ownsRow_nil _ _ _ _
theorem nilS {w : World} {B : Nat} : w.ownsRow B 58 3 nilV ([] : List Skp).length (skC []) := World.ownsRow_nil _ _ _ _
theorem nilB {w : World} {B : Nat} : Own w B nilV [] := World.ownsRow_nil _ _ _ _
/-- A chunk of which only the kind and the flags are known. -/
structure Bare (c : Ck) : Prop where
  gaps : c.gaps = []
  dups : c.dups = []
  skips : c.skips = []
  ps : c.ps = []
  body : c.body = []

end Go.Proofs.Ytabkjgklmibagaa.Chk
