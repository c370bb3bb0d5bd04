/-
  Slices of chunks: those that came in, those that are read; a whole struct read out of a slice.
-/
import Derived.Test.YtabkjgklmibagaaChOpen
set_option linter.unusedVariables false
set_option linter.unusedSimpArgs false
namespace Go.Proofs.Ytabkjgklmibagaa.Chk
open Go.ChangeShapes Go.WideShapes Go.ChangeAt Go.RowKit Go.Deep Go.Proofs.Ytabkjgklmibagaa.Words Go.Proofs.Ytabkjgklmibagaa.Oct Go.Proofs.Ytabkjgklmibagaa.Par

/-! ### a struct read from anywhere -/
theorem run_loadVar_any {P : Program} (w : World) (a : Addr) (ty : TypeId) (cs : Array Value) (d : TypeDesc) (hc : ∀ j v, cs[j]? = some v → w.cell? (a.add j) = some v)
    (hu : P.underlying ty = some d) (hd : d.isRow = true) (hi : (P.info? ty).map (·.size) = some cs.size) : (loadVar ty a).run P w = .ok (.agg cs) w := by
  have hl : (loadCells a cs.size).run P w = .ok cs w := by
    have := run_loadCells_list (P := P) w a cs.toList (fun j v hv => hc j v (by simpa using hv))
    simpa using this
  cases hq : P.info? ty with
  | none => simp [hq] at hi
  | some i =>
    have hs : i.size = cs.size := by simpa [hq] using hi
    have hagg : (isAgg ty).run P w = .ok true w := by
      unfold isAgg
      rw [Sem.run_bind, run_underlying hu w]
      cases d <;> simp_all
    simp [loadVar, Sem.run_bind, hagg, sizeOf, typeInfo, hq, hs, hl]
theorem wpList_load_any {P : Program} {ops : Array Oper} {rest : List Oper} {o : Oper} {a : Act} {w : World} {Q : Exit → Act → World → Prop} (hgd : o.guard = none) (ty : TypeId) (x : Operand) (ho : o.op = .load ty x)
    (ad : Addr) (hx : a.eval x = .pointer (some ad)) (cs : Array Value) (d : TypeDesc) (hc : ∀ j v, cs[j]? = some v → w.cell? (ad.add j) = some v)
    (hu : P.underlying ty = some d) (hd : d.isRow = true) (hi : (P.info? ty).map (·.size) = some cs.size)
    (h : wpList P ops Q rest (a.put o.dst (.agg cs)) w) : wpList P ops Q (o :: rest) a w :=
  wpList_plain hgd fun _ hK => by
    unfold Oper.wp execOp
    simp only [ho, hx, Instr.loadAt, Instr.sureAddr, Sem.run_bind, Sem.run_pure, Result.andThen_ok, run_loadVar_any w ad ty cs d hc hu hd hi]
    exact hK _ _ h

/-! ### slices of chunks -/
/-- A slice of chunks that reads as the list ls, below block B. -/
def Cks (w : World) (B : Nat) (A : Option Addr) (ls : List Ck) : Prop :=
  ∀ k c, ls[k]? = some c → ∃ (ad : Addr) (cs : Array Value), A = some ad ∧ ad.block < B ∧ CkAt w B cs c ∧ ∀ j v, cs[j]? = some v → w.cell? ((ad.add (k * 19)).add j) = some v
section
variable {w w' : World} {B B' : Nat} {A : Option Addr} {ls : List Ck}
theorem Cks.keep (h : Cks w B A ls) (hk : ∀ p : Addr, p.block < B → w'.cell? p = w.cell? p) : Cks w' B A ls := fun k c hc => by
  obtain ⟨ad, cs, h1, h2, h3, h4⟩ := h k c hc
  exact ⟨ad, cs, h1, h2, h3.keep hk, fun j v hv => (hk _ (by rw [block_of_add, block_of_add]; exact h2)).trans (h4 j v hv)⟩
theorem Cks.more (h : Cks w B A ls) (hB : B ≤ B') : Cks w B' A ls := fun k c hc => by
  obtain ⟨ad, cs, h1, h2, h3, h4⟩ := h k c hc
  exact ⟨ad, cs, h1, by omega, h3.more hB, h4⟩
theorem Cks.below (h : Cks w B A ls) (hb : Below B w w') : Cks w' B A ls := h.keep fun _ hp => hb.cell hp
theorem Cks.drewN (h : Cks w B A ls) (n : Nat) : Cks (w.drewN n) B A ls := h.keep fun _ _ => rfl
theorem Cks.nil (w : World) (B : Nat) (A : Option Addr) : Cks w B A [] := fun k c hc => by simp at hc
theorem Cks.ok (h : Cks w B A ls) : ∀ c ∈ ls, c.ok := fun c hc => by
  obtain ⟨k, hk, rfl⟩ := List.mem_iff_getElem.1 hc
  obtain ⟨_, _, _, _, h3, _⟩ := h k _ (List.getElem?_eq_getElem hk)
  exact h3.ok
end
theorem cksSh_fits : fitsB Try.prog (.slice CkSh) 28 0 [] = true := by kernel_rfl
instance : Inhabited Ck := ⟨zeroC 0⟩
/-- What came in. -/
theorem cks_of {w : World} {v : Value} (h : Sees w (.slice CkSh) [v]) : ∃ (A : Option Addr) (c : Nat) (ls : List Ck), v = .slice A ls.length c ∧ ls.length ≤ c ∧ c ≤ 9223372036854775807 ∧ Cks w w.heap.size A ls := by
  obtain ⟨A, n, c, rfl, hc, hm, hel⟩ := h.elems
  obtain ⟨D, hD⟩ := choose_lt (α := Ck) (n := n) (p := fun k c => ∃ (ad : Addr) (cs : Array Value), A = some ad ∧ ad.block < w.heap.size ∧ CkAt w w.heap.size cs c ∧ ∀ j v, cs[j]? = some v → w.cell? ((ad.add (k * 19)).add j) = some v) (fun i hi => by
      obtain ⟨ad, cs, hA, hl, hcell, hs⟩ := hel i hi
      obtain ⟨x, hx⟩ := ck_of (cs := cs.toArray) (by simpa using hs)
      refine ⟨x, ad, cs.toArray, hA, ?_, hx, fun j v hv => ?_⟩
      · have hl' : cs.length = 19 := hl
        have := hcell 0 _ (List.getElem?_eq_getElem (by omega))
        have := World.block_lt_of_cell? w _ this
        rwa [block_of_add] at this
      · rw [add_of_add]
        exact hcell j v (by simpa using hv))
  refine ⟨A, c, (List.range n).map D, by simp, by simpa using hc, hm, fun k x hx => ?_⟩
  rw [List.getElem?_map] at hx
  by_cases hk : k < n
  · rw [List.getElem?_range hk] at hx
    simp only [Option.map_some, Option.some.injEq] at hx
    subst hx
    exact hD k hk
  · rw [List.getElem?_eq_none (by simpa using hk)] at hx
    cases hx
/-- What is left of such a slice below a block. -/
theorem Cks.nth {w : World} {B : Nat} {A : Option Addr} {ls : List Ck} (h : Cks w B A ls) {k : Nat} (hk : k < ls.length) : ∃ (ad : Addr) (cs : Array Value), A = some ad ∧ ad.block < B ∧ cs.size = 19 ∧ CkAt w B cs ls[k] ∧ ∀ j v, cs[j]? = some v → w.cell? ((ad.add (k * 19)).add j) = some v := by
  obtain ⟨ad, cs, h1, h2, h3, h4⟩ := h k _ (List.getElem?_eq_getElem hk)
  exact ⟨ad, cs, h1, h2, h3.size, h3, h4⟩
end Go.Proofs.Ytabkjgklmibagaa.Chk
