/-
  Packets: rows of chunks of a call's own; packet.Get.
-/
import Derived.Test.YtabkjgklmibagaaPk3
import Derived.Great.BuildSlice
set_option linter.unusedVariables false
set_option linter.unusedSimpArgs false
namespace Go.Proofs.Ytabkjgklmibagaa.Chk
open Go.ChangeShapes Go.WideShapes Go.ChangeAt Go.RowKit Go.Deep Go.Proofs.Ytabkjgklmibagaa.Words Go.Proofs.Ytabkjgklmibagaa.Oct Go.Proofs.Ytabkjgklmibagaa.Par
open Go.Proofs.Ytabkjgklmibagaa.Crc (sealL)

/-! ### a row of chunks of the call's own -/
theorem chunk_info3 : (Try.prog.info? 42).map (fun i => (i.zero, i.size, i.bytes)) = some (some (.agg zeroA), 19, 160) := by kernel_rfl
def OwnCks (w : World) (B : Nat) (v : Value) (ls : List Ck) : Prop :=
  ∃ xs, w.ownsRow B 42 19 v ls.length xs ∧ ∀ k c, ls[k]? = some c → c.ok ∧ ∃ cs : Array Value, (∀ j u, cs[j]? = some u → xs[k * 19 + j]? = some u) ∧ CkOwn w B cs c
theorem CkOwn.size {w : World} {B : Nat} {cs : Array Value} {c : Ck} (h : CkOwn w B cs c) : cs.size = 19 := by obtain ⟨_, _, _, _, _, rfl, _⟩ := h; rfl
section
variable {w w' : World} {B B' : Nat} {v v' : Value} {ls : List Ck} {c : Ck} {cs : Array Value}
theorem ownPs_beside {e : TypeId} {size n : Nat} {vp : Value} {ps : List Prm} {xs : List Value} (h : OwnPs w B vp ps) (hx : w.ownsRow B' e size v n xs) (h1 : 74 ≠ e) (h2 : 5 ≠ e) (k : w.grownBy w' v.ownBlock) : OwnPs w' B vp ps := by
  obtain ⟨ys, h3, h4⟩ := h
  refine ⟨ys, own_beside h3 hx h1 k, fun i p hp => ?_⟩
  obtain ⟨q1, a, c, q2, q3, q4, q5, q6⟩ := h4 i p hp
  exact ⟨q1, a, c, q2, q3, q4, q5, own_beside q6 hx h2 k⟩
theorem CkOwn.beside {n : Nat} {xs : List Value} (h : CkOwn w B cs c) (hx : w.ownsRow B' 42 19 v n xs) (k : w.grownBy w' v.ownBlock) : CkOwn w' B cs c := by
  obtain ⟨gv, dv, sv, pv, bv, e, h1, h2, h3, h4, h5⟩ := h
  exact ⟨gv, dv, sv, pv, bv, e, own_beside h1 hx (by decide) k, own_beside h2 hx (by decide) k, own_beside h3 hx (by decide) k, ownPs_beside h4 hx (by decide) (by decide) k, own_beside h5 hx (by decide) k⟩
theorem OwnCks.nil (w : World) (B : Nat) : OwnCks w B (.slice none 0 0) [] := ⟨[], World.ownsRow_nil _ _ _ _, fun k p h => by simp at h⟩
theorem OwnCks.fr {S : Nat → Prop} (h : OwnCks w B v ls) (k : Fr S w w') (hS : ∀ i, S i → i < w.heap.size → i < B) : OwnCks w' B v ls := by
  obtain ⟨xs, h1, h2⟩ := h
  refine ⟨xs, k.own h1 (fun g hg hi => by have := h1.lt g hg; have := hS g hi this.2; omega), fun i p hp => ?_⟩
  obtain ⟨h3, cs, h4, h5⟩ := h2 i p hp
  exact ⟨h3, cs, h4, h5.fr k hS⟩
theorem OwnCks.grows (h : OwnCks w B v ls) (k : Below w.heap.size w w') : OwnCks w' B v ls := h.fr (Fr.of_below k) (fun i hi hlt => by omega)
theorem OwnCks.mono (h : OwnCks w B v ls) (hB : B' ≤ B) : OwnCks w B' v ls := by
  obtain ⟨xs, h1, h2⟩ := h
  refine ⟨xs, own_mono h1 hB, fun i p hp => ?_⟩
  obtain ⟨h3, cs, h4, h5⟩ := h2 i p hp
  exact ⟨h3, cs, h4, h5.mono hB⟩
theorem OwnCks.slice (h : OwnCks w B v ls) : ∃ A c, v = .slice A ls.length c ∧ ls.length ≤ c ∧ c ≤ 9223372036854775807 := by
  obtain ⟨xs, h1, _⟩ := h
  exact own_slice h1
theorem OwnCks.cks {A : Option Addr} {n c : Nat} (h : OwnCks w B (.slice A n c) ls) : Cks w w.heap.size A ls := fun k p hp => by
  obtain ⟨xs, h1, h2⟩ := h
  obtain ⟨h3, cs, h4, h5⟩ := h2 k p hp
  have hk : k < ls.length := (List.getElem?_eq_some_iff.1 hp).1
  obtain ⟨g, cap, hv, hg1, hg2⟩ := h1.form (by omega)
  injection hv with hv _ _
  subst hv
  refine ⟨⟨g, 0, none⟩, cs, rfl, hg2, h5.at_ h3, fun j u hu => ?_⟩
  rw [add_of_add]
  exact h1.cells (g := g) rfl _ _ (h4 j u hu)
theorem OwnCks.snoc {n : Nat} {xs : List Value} (hx : w.ownsRow B 42 19 v ls.length xs) (hxs : ∀ k c, ls[k]? = some c → c.ok ∧ ∃ cs : Array Value, (∀ j u, cs[j]? = some u → xs[k * 19 + j]? = some u) ∧ CkOwn w B cs c)
    (hg : w.grownBy w' v.ownBlock) (ho : w'.ownsRow B 42 19 v' n (xs ++ cs.toList)) (hn : n = ls.length + 1) (hc : CkOwn w B cs c) (ok : c.ok) : OwnCks w' B v' (ls ++ [c]) := by
  have hl := hx.1
  refine ⟨_, by rw [List.length_append, List.length_singleton, ← hn]; exact ho, fun k q hq => ?_⟩
  by_cases hk : k < ls.length
  · rw [List.getElem?_append_left hk] at hq
    obtain ⟨h3, cs', h4, h5⟩ := hxs k q hq
    refine ⟨h3, cs', fun j u hu => ?_, h5.beside hx hg⟩
    have hj : j < 19 := by have := (Array.getElem?_eq_some_iff.1 hu).1; rw [h5.size] at this; exact this
    rw [List.getElem?_append_left (by omega)]
    exact h4 j u hu
  · rw [List.getElem?_append_right (by omega)] at hq
    have hk0 : k - ls.length = 0 := by
      have := (List.getElem?_eq_some_iff.1 hq).1
      simp at this
      omega
    rw [hk0] at hq
    simp only [List.getElem?_cons_zero, Option.some.injEq] at hq
    subst hq
    have hkl : k = ls.length := by omega
    subst hkl
    refine ⟨ok, cs, fun j u hu => ?_, hc.beside hx hg⟩
    rw [List.getElem?_append_right (by omega), show ls.length * 19 + j - xs.length = j by omega]
    simpa using hu
end
/-! ### a slice literal of one chunk -/
theorem fill_ck (c : Ck) (gv dv sv pv bv : Value) : Instr.fill (fun i => some (i * 19, 19)) ((Array.range (1 * 19)).map ((Value.agg zeroA).cells[· % (Value.agg zeroA).cells.size]!)) [(0, .agg (ckArr c gv dv sv pv bv))] = some (ckArr c gv dv sv pv bv) := by kernel_rfl
theorem wpList_slice_ck {ops : Array Oper} {rest : List Oper} {o : Oper} {a : Act} {w : World} {Q : Exit → Act → World → Prop} (hg : o.guard = none) (x : Operand) (ho : o.op = .buildSlice 28 1 #[(0, x)]) (cs : Array Value) (hx : a.eval x = .agg cs)
    (hcs : ∃ c gv dv sv pv bv, cs = ckArr c gv dv sv pv bv) (h : wpList Try.prog ops Q rest (a.put o.dst (.slice (some ⟨w.heap.size, 0, none⟩) 1 1)) (w.alloc (.cells cs 42))) : wpList Try.prog ops Q (o :: rest) a w := by
  obtain ⟨c, gv, dv, sv, pv, bv, rfl⟩ := hcs
  obtain ⟨i, hi, hz, hs, _⟩ := info_parts3 chunk_info3
  refine wpList_buildSlice hg 28 42 1 #[(0, x)] ho (ckArr c gv dv sv pv bv) i (.agg zeroA) Try.underlying28 hi hz (by rw [hs]; decide) (by rw [hs]; decide) ?_ h
  rw [hs]
  have e : ((#[(0, x)] : Array (Nat × Operand)).map fun (i, x) => (i, a.eval x)).toList = [(0, .agg (ckArr c gv dv sv pv bv))] := by simp [hx]
  rw [e]
  exact fill_ck c gv dv sv pv bv
theorem CkAt.arr {w : World} {B : Nat} {cs : Array Value} {c : Ck} (h : CkAt w B cs c) : ∃ c gv dv sv pv bv, cs = ckArr c gv dv sv pv bv := by
  obtain ⟨_, g, d, s, p, b, e, _⟩ := h
  exact ⟨_, _, _, _, _, _, e⟩
theorem CkOwn.arr {w : World} {B : Nat} {cs : Array Value} {c : Ck} (h : CkOwn w B cs c) : ∃ c gv dv sv pv bv, cs = ckArr c gv dv sv pv bv := by
  obtain ⟨gv, dv, sv, pv, bv, e, _⟩ := h
  exact ⟨_, _, _, _, _, _, e⟩
theorem ck_cells1 {cs : Array Value} (h : ∃ c gv dv sv pv bv, cs = ckArr c gv dv sv pv bv) (h1 : cs.all (·.oneCell') = true) : ∀ u ∈ cs.toList, u.oneCell' = true := by
  intro u hu
  have := Array.all_eq_true'.1 h1 u (by simpa using hu)
  exact this

/-! ### skipped -/
end Go.Proofs.Ytabkjgklmibagaa.Chk
