/-
  Opening what came in: arrays of integers.
-/
import Derived.Test.YtabkjgklmibagaaWords
import Derived.OpenShut
set_option linter.unusedVariables false
set_option linter.unusedSimpArgs false
namespace Go.Proofs.Ytabkjgklmibagaa.Words
open Go.ChangeShapes Go.WideShapes Go.ChangeAt Go.RowKit

theorem okWide_array {P : Program} {W : World} {r : Reach} {b0 : Nat} {t e : TypeId} {n : Nat} {v : Value} (ht : P.underlying t = some (.array n e)) (hc : P.cellsOf t = n) (h : Value.okWide P W r b0 t v) :
    ∃ xs : Array Value, v = .agg xs ∧ xs.size = n := by
  simp only [Value.okWide, ht] at h
  obtain ⟨cs, h1, h2, _⟩ := h
  exact ⟨cs, h1, by rw [h2, hc]⟩
/-- An array of integers that came in. -/
theorem open_array {H : Type} {enc : TypeId × Value → H} {P : Program} {W : World} {base : Nat} {sp : Nat → Bool} {held : Bool} {t e : TypeId} {n : Nat} {k : IntKind} {xs : Array Value} {d : DataW H} {p : List MemPlace}
    (ht : P.underlying t = some (.array n e)) (he : P.underlying e = some (.int k)) (hce : P.cellsOf e = 1) (hs : xs.size = n) (h : DataW.Trod enc P W base sp held t (.agg xs) d p) :
    ∃ ns : List Int, xs = (ns.map (Value.int k)).toArray ∧ ns.length = n ∧ ∀ m ∈ ns, (Lit.int k m).wf = true := by
  obtain ⟨fuel, hf⟩ := h
  obtain ⟨ys, m, rfl, _, _, hl, hall⟩ := DataW.trod_array ht hf
  have hone : ∀ i (hi : i < n), ∃ a : Int, xs[i]'(by omega) = .int k a ∧ (Lit.int k a).wf = true := by
    intro i hi
    have h1 := hall i hi
    rw [hce, List.getElem?_eq_getElem (by omega)] at h1
    have hcs : ((Value.agg xs).cells.toList.drop (i * 1)).take 1 = [xs[i]'(by omega)] := by
      simp only [Value.cells, Nat.mul_one]
      rw [List.drop_eq_getElem_cons (by simpa using (by omega : i < xs.size))]
      simp
    rw [hcs] at h1
    obtain ⟨a, ea, _, wa⟩ := DataW.trod_int he h1
    simp at ea
    exact ⟨a, ea, wa⟩
  refine ⟨xs.toList.map intOf, ?_, by simp [hs], ?_⟩
  · apply Array.ext
    · simp
    · intro i h1 h2
      obtain ⟨a, ea, _⟩ := hone i (by omega)
      simp [ea, intOf]
  · intro x hx
    simp only [List.mem_map, Array.mem_toList_iff] at hx
    obtain ⟨v, hv, rfl⟩ := hx
    obtain ⟨i, hi, rfl⟩ := Array.mem_iff_getElem.1 hv
    obtain ⟨a, ea, wa⟩ := hone i (by omega)
    rw [ea]
    exact wa
theorem open_array2 {H : Type} {enc : TypeId × Value → H} {P : Program} {W : World} {base b0 : Nat} {sp : Nat → Bool} {held : Bool} {r : Reach} {t e : TypeId} {k : IntKind} {v : Value} {d : DataW H} {p : List MemPlace}
    (ht : P.underlying t = some (.array 2 e)) (hc : P.cellsOf t = 2) (he : P.underlying e = some (.int k)) (hce : P.cellsOf e = 1) (ho : Value.okWide P W r b0 t v) (h : DataW.Trod enc P W base sp held t v d p) :
    ∃ x y : Int, v = .agg #[.int k x, .int k y] ∧ (Lit.int k x).wf = true ∧ (Lit.int k y).wf = true := by
  obtain ⟨xs, rfl, hs⟩ := okWide_array ht hc ho
  obtain ⟨ns, rfl, hl, hw⟩ := open_array ht he hce hs h
  match ns, hl, hw with
  | [x, y], _, hw => exact ⟨x, y, rfl, hw x (by simp), hw y (by simp)⟩
theorem open_array4 {H : Type} {enc : TypeId × Value → H} {P : Program} {W : World} {base b0 : Nat} {sp : Nat → Bool} {held : Bool} {r : Reach} {t e : TypeId} {k : IntKind} {v : Value} {d : DataW H} {p : List MemPlace}
    (ht : P.underlying t = some (.array 4 e)) (hc : P.cellsOf t = 4) (he : P.underlying e = some (.int k)) (hce : P.cellsOf e = 1) (ho : Value.okWide P W r b0 t v) (h : DataW.Trod enc P W base sp held t v d p) :
    ∃ x0 x1 x2 x3 : Int, v = .agg #[.int k x0, .int k x1, .int k x2, .int k x3] ∧ (Lit.int k x0).wf = true ∧ (Lit.int k x1).wf = true ∧ (Lit.int k x2).wf = true ∧ (Lit.int k x3).wf = true := by
  obtain ⟨xs, rfl, hs⟩ := okWide_array ht hc ho
  obtain ⟨ns, rfl, hl, hw⟩ := open_array ht he hce hs h
  match ns, hl, hw with
  | [x0, x1, x2, x3], _, hw => exact ⟨x0, x1, x2, x3, rfl, hw x0 (by simp), hw x1 (by simp), hw x2 (by simp), hw x3 (by simp)⟩
end Go.Proofs.Ytabkjgklmibagaa.Words
