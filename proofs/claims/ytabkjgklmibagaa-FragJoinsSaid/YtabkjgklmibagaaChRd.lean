/-
  The contract of package chunk's read.
-/
import Derived.Test.YtabkjgklmibagaaChG
import Derived.Test.YtabkjgklmibagaaChWays
set_option linter.unusedVariables false
set_option linter.unusedSimpArgs false
namespace Go.Proofs.Ytabkjgklmibagaa.Chk
open Go.ChangeShapes Go.WideShapes Go.ChangeAt Go.RowKit Go.Deep Go.Proofs.Ytabkjgklmibagaa.Words Go.Proofs.Ytabkjgklmibagaa.Oct Go.Proofs.Ytabkjgklmibagaa.Par

theorem head_of {w : World} {B size n : Nat} {t : TypeId} {v : Value} {xs : List Value} (h : w.ownsRow B t size v n xs) : ∃ hd : Hd, v = hd.v n ∧ hd.okN n ∧ Reads w w.heap.size size hd.A n xs := by
  obtain ⟨A, c, rfl, h1, h2⟩ := own_slice h
  exact ⟨⟨A, c⟩, rfl, ⟨h1, h2⟩, Reads.of_own h⟩
theorem CkOwn.at_ {w : World} {B : Nat} {cs : Array Value} {c : Ck} (h : CkOwn w B cs c) (ok : c.ok) : CkAt w w.heap.size cs c := by
  obtain ⟨gv, dv, sv, pv, bv, rfl, h1, h2, h3, h4, h5⟩ := h
  obtain ⟨g, rfl, g1, g2⟩ := head_of h1
  obtain ⟨d, rfl, d1, d2⟩ := head_of h2
  obtain ⟨s, rfl, s1, s2⟩ := head_of h3
  obtain ⟨b, rfl, b1, b2⟩ := head_of h5
  obtain ⟨A, cp, rfl, p1, p2⟩ := h4.slice
  exact ⟨ok, g, d, s, ⟨A, cp⟩, b, rfl, g1, d1, s1, ⟨p1, p2⟩, b1, g2, d2, s2, h4.ps, b2⟩
/-- A load of a whole variable behind a guard that says yes. -/
theorem wpList_load_want {P : Program} {ops : Array Oper} {rest : List Oper} {o : Oper} {a : Act} {w : World} {Q : Exit → Act → World → Prop} (hgd : Region.wanted o (yielded ops a.tmps) = true) (ty : TypeId) (x : Operand) (ho : o.op = .load ty x)
    (g : Nat) (hx : a.eval x = .pointer (some ⟨g, 0, none⟩)) (t : TypeId) (cs : Array Value) (fr : Nat × Nat) (d : TypeDesc) (hg : w.heap[g]? = some (.cells cs t fr))
    (hu : P.underlying ty = some d) (hd : (match d with | .struct _ | .array _ _ => true | _ => false) = true) (hi : (P.info? ty).map (·.size) = some cs.size)
    (h : wpList P ops Q rest (a.put o.dst (.agg cs)) w) : wpList P ops Q (o :: rest) a w :=
  BigFrame.wpList_want hgd fun _ hK => wp_load_row ty x ho g hx t cs fr d hg hu hd hi (hK _ _ h)
/-- What read answers. -/
def ReadDone (w : World) (g k f : Nat) (x : List UInt8) (e : Ending) (w' : World) : Prop :=
  Fr (fun i => i = g) w w' ∧ ((∃ c' cs, decC k f x = some c' ∧ e = .returned (.bool true) ∧ CkBlk w' g cs ∧ CkOwn w' w.heap.size cs c' ∧ c'.ok) ∨ (decC k f x = none ∧ e = .returned (.bool false)))

end Go.Proofs.Ytabkjgklmibagaa.Chk
