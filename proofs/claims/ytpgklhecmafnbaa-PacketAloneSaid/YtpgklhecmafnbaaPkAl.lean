/-
  Packets of two chunks: put, bundled.
-/
import Derived.Test.YtpgklhecmafnbaaBundle
set_option linter.unusedVariables false
set_option linter.unusedSimpArgs false
namespace Go.Proofs.Ytpgklhecmafnbaa.Chk
open Go.Proofs.Ytpgklhecmafnbaa
open Go.ChangeShapes Go.WideShapes Go.ChangeAt Go.RowKit Go.Deep Go.Proofs.Ytpgklhecmafnbaa.Words Go.Proofs.Ytpgklhecmafnbaa.Oct Go.Proofs.Ytpgklhecmafnbaa.Par
open Go.Proofs.Ytpgklhecmafnbaa.Crc (sealL)

theorem badB_all {ls : List Ck} {k : Nat} (h : BadB ls k) (p : AllFit ls) : False := by
  obtain ⟨a, c, b, rfl, _, h⟩ := h
  have hc := p c (by simp)
  rcases h with h | ⟨_, h, _⟩
  · exact err_puts' h hc.1
  · have := hc.2; omega
theorem fit_one {hd : List UInt8} {c : Ck} {l : List UInt8} (h : PutP hd [c] 0 l) : FitC c := by
  obtain ⟨_, h1, h2, _⟩ := putP_ok h
  rw [bodyB_cons, bodyB_nil, List.append_nil] at h2
  exact ⟨h1 c (by simp), h2⟩
theorem fits_two (c o : Ck) : fitsL [c, o] = !(aloneK c.kind || aloneK o.kind) := by
  unfold fitsL anyAlone
  cases h1 : aloneK c.kind <;> cases h2 : aloneK o.kind <;> simp [h1, h2]
theorem bundle_two {c o : Ck} (h : FitC c) : (bundleB [c, o]).length = if fullB [c] o then 2 else 1 := by
  have h1 : stepB ([], []) c = ([], [c]) := by
    unfold stepB
    rw [if_neg]
    · rfl
    · rintro (h2 | h2)
      · have := h.2
        simp only [List.nil_append, bodyB_cons, bodyB_nil, List.append_nil] at h2
        omega
      · rw [List.nil_append, fits_one] at h2
        cases h2
  have h2 : bundleS [c, o] = stepB ([], [c]) o := by
    show stepB (stepB ([], []) c) o = _
    rw [h1]
  unfold bundleB
  rw [h2]
  unfold stepB
  by_cases hf : fullB [c] o
  · rw [if_pos hf, if_pos hf]
    simp
  · rw [if_neg hf, if_neg hf]
    simp
/-- What the law asks of Put and Bundle of two. -/
theorem two_told {hd : List UInt8} {c o : Ck} {kk : Nat} {l : List UInt8} (hc : FitC c) (ho : FitC o) (h : PutP hd [c, o] kk l) :
    ((aloneK c.kind || aloneK o.kind) = true → kk = 42 ∧ (bundleB [c, o]).length = 2) ∧ ((aloneK c.kind || aloneK o.kind) = false → (kk = 0 ∧ (bundleB [c, o]).length = 1) ∨ (kk = 43 ∧ (bundleB [c, o]).length = 2)) := by
  have hf := fits_two c o
  have ha : AllPuts [c, o] := fun x hx => by
    simp only [List.mem_cons, List.not_mem_nil, or_false] at hx
    rcases hx with rfl | rfl
    · exact hc.1
    · exact ho.1
  refine ⟨fun ht => ?_, fun ht => ?_⟩
  · rw [ht] at hf
    have hfu : fullB [c] o := .inr hf
    rw [bundle_two hc, if_pos hfu]
    rcases h with ⟨_, h, _⟩ | ⟨h, _⟩ | ⟨h, _⟩ | ⟨h, _⟩
    · exact ⟨h, rfl⟩
    all_goals (rw [hf] at h; cases h)
  · rw [ht] at hf
    rw [bundle_two hc]
    rcases h with ⟨h, _⟩ | ⟨_, h, _⟩ | ⟨_, _, h, h1, _⟩ | ⟨_, _, h, h1, _⟩
    · rw [hf] at h; cases h
    · exact (bad_all h ha).elim
    · rw [if_pos (show fullB [c] o from .inl h)]
      exact .inr ⟨h1, rfl⟩
    · rw [if_neg]
      · exact .inl ⟨h1, rfl⟩
      · rintro (h2 | h2)
        · have h3 : 1188 < (bodyB [c, o]).length := h2
          omega
        · have h3 : fitsL [c, o] = false := h2
          rw [hf] at h3
          cases h3
/-! ### a slice literal of two chunks -/
theorem fill_two (c o : Ck) (gv dv sv pv bv gv' dv' sv' pv' bv' : Value) : Instr.fill (fun i => some (i * 19, 19)) ((Array.range (2 * 19)).map ((Value.agg zeroA).cells[· % (Value.agg zeroA).cells.size]!)) [(0, .agg (ckArr c gv dv sv pv bv)), (1, .agg (ckArr o gv' dv' sv' pv' bv'))] = some (ckArr c gv dv sv pv bv ++ ckArr o gv' dv' sv' pv' bv') := by kernel_rfl
theorem wpList_slice_two {ops : Array Oper} {rest : List Oper} {o : Oper} {a : Act} {w : World} {Q : Exit → Act → World → Prop} (hg : o.guard = none) (x y : Operand) (ho : o.op = .buildSlice 42 2 #[(0, x), (1, y)]) (cs os : Array Value) (hx : a.eval x = .agg cs) (hy : a.eval y = .agg os)
    (hcs : ∃ c gv dv sv pv bv, cs = ckArr c gv dv sv pv bv) (hos : ∃ c gv dv sv pv bv, os = ckArr c gv dv sv pv bv) (h : wpList Try.prog ops Q rest (a.put o.dst (.slice (some ⟨w.heap.size, 0, none⟩) 2 2)) (w.alloc (.cells (cs ++ os) 32))) : wpList Try.prog ops Q (o :: rest) a w := by
  obtain ⟨c, gv, dv, sv, pv, bv, rfl⟩ := hcs
  obtain ⟨c', gv', dv', sv', pv', bv', rfl⟩ := hos
  obtain ⟨i, hi, hz, hs, _⟩ := info_parts3 chunk_info3
  refine wpList_buildSlice hg 42 32 2 #[(0, x), (1, y)] ho (ckArr c gv dv sv pv bv ++ ckArr c' gv' dv' sv' pv' bv') i (.agg zeroA) Try.underlying42 hi hz (by rw [hs]; decide) (by rw [hs]; decide) ?_ h
  rw [hs]
  have e : ((#[(0, x), (1, y)] : Array (Nat × Operand)).map fun (i, x) => (i, a.eval x)).toList = [(0, .agg (ckArr c gv dv sv pv bv)), (1, .agg (ckArr c' gv' dv' sv' pv' bv'))] := by simp [hx, hy]
  rw [e]
  exact fill_two c c' gv dv sv pv bv gv' dv' sv' pv' bv'
theorem cks_two {w : World} {g B : Nat} {cs os : Array Value} {c o : Ck} (hb : CkBlk w g (cs ++ os)) (h : CkAt w B cs c) (h' : CkAt w B os o) (hg : g < B) : Cks w B (some ⟨g, 0, none⟩) [c, o] := fun k c' hc' => by
  match k with
  | 0 =>
    simp only [List.getElem?_cons_zero, Option.some.injEq] at hc'
    subst hc'
    refine ⟨⟨g, 0, none⟩, cs, rfl, hg, h, fun j v hv => ?_⟩
    have hj := (Array.getElem?_eq_some_iff.1 hv).1
    rw [add_of_add, Nat.zero_mul, Nat.zero_add, hb.cellAdd, Array.getElem?_append, if_pos hj]
    exact hv
  | 1 =>
    simp only [List.getElem?_cons_succ, List.getElem?_cons_zero, Option.some.injEq] at hc'
    subst hc'
    refine ⟨⟨g, 0, none⟩, os, rfl, hg, h', fun j v hv => ?_⟩
    rw [add_of_add, hb.cellAdd, Array.getElem?_append, if_neg (by rw [h.size]; omega), h.size, show 1 * 19 + j - 19 = j by omega]
    exact hv
  | k + 2 => simp at hc'
theorem pk_built_ck (v : Value) (hv : ∃ A n c, v = .slice A n c) : Try.prog.built 44 [(3, v)] = some (pkV 0 0 0 v) := by
  obtain ⟨A, n, c, rfl⟩ := hv
  kernel_rfl
theorem kind_at {w : World} {B : Nat} {cs : Array Value} {c : Ck} (h : CkAt w B cs c) : cs[0]? = some (.int .u8 (c.kind : Int)) := by
  obtain ⟨_, g, d, s, p, b, rfl, _⟩ := h
  rfl
end Go.Proofs.Ytpgklhecmafnbaa.Chk
