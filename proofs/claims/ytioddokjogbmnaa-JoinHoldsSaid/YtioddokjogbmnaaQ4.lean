/-
  Of the texts ChRf2, Pk2, Crc, CrcSeal, Pk5: what the laws reach.
-/
import Derived.Test.YtioddokjogbmnaaQ3
import Derived.Test.YtioddokjogbmnaaQ1
import Derived.Test.YtioddokjogbmnaaQ2
import Derived.BigQuiet
import Derived.Great.BuildSlice

set_option linter.unusedVariables false
set_option linter.unusedSimpArgs false
namespace Go.Proofs.Ytioddokjogbmnaa.Chk
open Go.ChangeShapes Go.WideShapes Go.ChangeAt Go.RowKit Go.Deep Go.Proofs.Ytioddokjogbmnaa.Words Go.Proofs.Ytioddokjogbmnaa.Oct Go.Proofs.Ytioddokjogbmnaa.Par
/-- Where Strip stands: the chunk's variable, the result's; the result's lists lie elsewhere. -/
structure StS (ea : Bool) (w V : World) (g0 g1 g2 : Nat) (cs : Array Value) (d : Ck) : Prop where
  b0 : CkBlk V g0 cs
  ex : ∃ g dd s p b : Hd, CkBlk V g1 (ckArr d (g.v d.gaps.length) (dd.v d.dups.length) (s.v d.skips.length) (p.v d.ps.length) (b.v d.body.length)) ∧ d.ok ∧ (∀ V' : World, (∀ q : Addr, q.block ≠ g1 → q.block ≠ g2 → V'.cell? q = V.cell? q) → Lists V' V.heap.size d g dd s p b) ∧ (ea = true → s = ⟨none, 0⟩)
  below : Below w.heap.size w V
  ne : g0 ≠ g1
  lo : w.heap.size ≤ g1
  lo0 : w.heap.size ≤ g0
  b2 : CkBlk V g2 zeroA
  ne2 : g2 ≠ g1
  ne3 : g2 ≠ g0
  lo2 : w.heap.size ≤ g2
/-- Where Strip stands in the loop over what is skipped. -/
structure SkS (w V : World) (g0 g1 g2 : Nat) (cs : Array Value) (kd tsn : Nat) (vg vd vp vb : Value) (A : Option Addr) (n cp : Nat) (l : List Skp) : Prop where
  b0 : CkBlk V g0 cs
  b1 : CkBlk V g1 (ckArr { zeroC kd with tsn := tsn } vg vd (.slice A n cp) vp vb)
  own : V.ownsRow w.heap.size 53 3 (.slice A n cp) n (skC l)
  len : n = l.length
  below : Below w.heap.size w V
  b2 : CkBlk V g2 zeroA
section
variable {w V V' : World} {g0 g1 g2 : Nat} {cs : Array Value} {kd tsn : Nat} {vg vd vp vb : Value} {A A' : Option Addr} {n cp cp' : Nat} {l : List Skp} {v' : Value}
theorem SkS.grows (h : SkS w V g0 g1 g2 cs kd tsn vg vd vp vb A n cp l) (k : Below V.heap.size V V') : SkS w V' g0 g1 g2 cs kd tsn vg vd vp vb A n cp l :=
  ⟨h.b0.below k h.b0.lt, h.b1.below k h.b1.lt, (Fr.of_below k).own h.own (fun g hg hi => by have := (h.own.lt g hg).2; omega), h.len, h.below.trans (k.mono h.below.size), h.b2.below k h.b2.lt⟩
/-- Behind the append and its store. -/
theorem SkS.more {s : Skp} {n' : Nat} (h : SkS w V g0 g1 g2 cs kd tsn vg vd vp vb A n cp l) (ho : V'.ownsRow w.heap.size 53 3 (.slice A' n' cp') n' (skC l ++ [.int .u16 (s.1 : Int), .bool s.2.1, .int .u32 (s.2.2 : Int)])) (hn : n' = n + 1) (hg : V.grownBy V' (Value.slice A n cp).ownBlock) (ne : g0 ≠ g1) (ne2 : g2 ≠ g1) (lo : w.heap.size ≤ g1) :
    SkS w (V'.setCell ⟨g1, 16, none⟩ (.slice A' n' cp')) g0 g1 g2 cs kd tsn vg vd vp vb A' n' cp' (l ++ [s]) := by
  have f0 := Blk.grown h.b0 hg (own_blk_ne h.own h.b0 (by decide)).symm
  have f1 := Blk.grown h.b1 hg (own_blk_ne h.own h.b1 (by decide)).symm
  have f2 := Blk.grown h.b2 hg (own_blk_ne h.own h.b2 (by decide)).symm
  have hb := h.below.grown hg h.below.size (fun g hg => (h.own.lt g hg).1)
  refine ⟨Blk.far f0 (p := ⟨g1, 16, none⟩) ne _, Blk.set_ f1 16 _, ?_, by rw [List.length_append, ← h.len]; exact hn, hb.setCell (p := ⟨g1, 16, none⟩) lo _, Blk.far f2 (p := ⟨g1, 16, none⟩) ne2 _⟩
  rw [skC_snoc]
  exact ((Fr.refl (fun k => k = g1) V').setCell (p := ⟨g1, 16, none⟩) (.inl rfl) _).own ho (fun g hg e => own_blk_ne ho f1 (by decide) (by rw [hg, e]))
end
end Go.Proofs.Ytioddokjogbmnaa.Chk

set_option linter.unusedVariables false
set_option linter.unusedSimpArgs false
namespace Go.Proofs.Ytioddokjogbmnaa.Chk
open Go.ChangeShapes Go.WideShapes Go.ChangeAt Go.RowKit Go.Deep Go.Proofs.Ytioddokjogbmnaa.Words Go.Proofs.Ytioddokjogbmnaa.Oct Go.Proofs.Ytioddokjogbmnaa.Par
/-- A chunk copied to a variable of a loop. -/
theorem kept_var (W : World) (cs : Array Value) : ∃ W', W' = (W.alloc (.cells #[.int .u8 0, .bool false, .bool false, .bool false, .bool false, .int .u32 0, .int .u16 0, .int .u32 0, .int .u32 0, .int .u32 0, .int .u32 0, .int .u32 0, .int .u16 0, .int .u16 0, .slice none 0 0, .slice none 0 0, .slice none 0 0, .slice none 0 0, .slice none 0 0] 41)).setRow W.heap.size cs ∧ CkBlk W' W.heap.size cs ∧ Below W.heap.size W W' :=
  ⟨_, rfl, kept_ck W zeroA cs⟩
/-- Two lists that are the same but for fields that their kinds have not. -/
structure Alikes (l1 l2 : List Ck) : Prop where
  len : l1.length = l2.length
  strips : ∀ k (h1 : k < l1.length) (h2 : k < l2.length), strip l1[k] = strip l2[k]
  known1 : ∀ c ∈ l1, known c.kind = true ∧ c.skips.length ≤ 500000
  known2 : ∀ c ∈ l2, known c.kind = true ∧ c.skips.length ≤ 500000
end Go.Proofs.Ytioddokjogbmnaa.Chk

set_option linter.unusedVariables false
set_option linter.unusedSimpArgs false
namespace Go.Proofs.Ytioddokjogbmnaa.Crc
open Go.ChangeShapes Go.WideShapes Go.ChangeAt Go.RowKit Go.Proofs.Ytioddokjogbmnaa.Words
/-- A slice of slices of bytes. -/
def Parts (w : World) (B : Nat) (A : Option Addr) (n : Nat) (ls : List (List UInt8)) : Prop :=
  ls.length = n ∧ ∀ j l, ls[j]? = some l → ∃ ad a c, A = some ad ∧ w.cell? (ad.add j) = some (.slice a l.length c) ∧ l.length ≤ 9223372036854775807 ∧ Byt w B a l
theorem Parts.nil (w : World) (B : Nat) : Parts w B none 0 [] := ⟨rfl, fun j l h => by simp at h⟩
theorem u8_info : (Try.prog.info? 5).map (fun i => (i.zero, i.size, i.bytes)) = some (some (.int .u8 0), 1, 1) := by kernel_rfl
/-- A row of bytes of the call's own. -/
abbrev Own (w : World) (B : Nat) (v : Value) (l : List UInt8) : Prop := w.ownsRow B 5 1 v l.length (u8s l)
end Go.Proofs.Ytioddokjogbmnaa.Crc

set_option linter.unusedVariables false
set_option linter.unusedSimpArgs false
namespace Go.Proofs.Ytioddokjogbmnaa.Crc
open Go.ChangeShapes Go.WideShapes Go.ChangeAt Go.RowKit Go.Proofs.Ytioddokjogbmnaa.Words
theorem Own.byt {w : World} {B : Nat} {A : Option Addr} {c : Nat} {l : List UInt8} (h : Own w B (.slice A l.length c) l) : Byt w w.heap.size A l := Reads.of_own h
theorem own_mono {w : World} {B B' : Nat} {e : TypeId} {size n : Nat} {v : Value} {xs : List Value} (h : w.ownsRow B e size v n xs) (hB : B' ≤ B) : w.ownsRow B' e size v n xs := by
  refine ⟨h.1, ?_⟩
  rcases h.2 with h | ⟨g, cap, cur, h1, h2, h3⟩
  · exact .inl h
  · exact .inr ⟨g, cap, cur, h1, Nat.le_trans hB h2, h3⟩
end Go.Proofs.Ytioddokjogbmnaa.Crc

set_option linter.unusedVariables false
set_option linter.unusedSimpArgs false
namespace Go.Proofs.Ytioddokjogbmnaa.Chk
open Go.ChangeShapes Go.WideShapes Go.ChangeAt Go.RowKit Go.Deep Go.Proofs.Ytioddokjogbmnaa.Words Go.Proofs.Ytioddokjogbmnaa.Oct Go.Proofs.Ytioddokjogbmnaa.Par
open Go.Proofs.Ytioddokjogbmnaa.Crc (sealL)
theorem chunk_info3 : (Try.prog.info? 41).map (fun i => (i.zero, i.size, i.bytes)) = some (some (.agg zeroA), 19, 160) := by kernel_rfl
def OwnCks (w : World) (B : Nat) (v : Value) (ls : List Ck) : Prop :=
  ∃ xs, w.ownsRow B 41 19 v ls.length xs ∧ ∀ k c, ls[k]? = some c → c.ok ∧ ∃ cs : Array Value, (∀ j u, cs[j]? = some u → xs[k * 19 + j]? = some u) ∧ CkOwn w B cs c
theorem CkOwn.size {w : World} {B : Nat} {cs : Array Value} {c : Ck} (h : CkOwn w B cs c) : cs.size = 19 := by obtain ⟨_, _, _, _, _, rfl, _⟩ := h; rfl
section
variable {w w' : World} {B B' : Nat} {v v' : Value} {ls : List Ck} {c : Ck} {cs : Array Value}
theorem ownPs_beside {e : TypeId} {size n : Nat} {vp : Value} {ps : List Prm} {xs : List Value} (h : OwnPs w B vp ps) (hx : w.ownsRow B' e size v n xs) (h1 : 186 ≠ e) (h2 : 5 ≠ e) (k : w.grownBy w' v.ownBlock) : OwnPs w' B vp ps := by
  obtain ⟨ys, h3, h4⟩ := h
  refine ⟨ys, own_beside h3 hx h1 k, fun i p hp => ?_⟩
  obtain ⟨q1, a, c, q2, q3, q4, q5, q6⟩ := h4 i p hp
  exact ⟨q1, a, c, q2, q3, q4, q5, own_beside q6 hx h2 k⟩
theorem CkOwn.beside {n : Nat} {xs : List Value} (h : CkOwn w B cs c) (hx : w.ownsRow B' 41 19 v n xs) (k : w.grownBy w' v.ownBlock) : CkOwn w' B cs c := by
  obtain ⟨gv, dv, sv, pv, bv, e, h1, h2, h3, h4, h5⟩ := h
  exact ⟨gv, dv, sv, pv, bv, e, own_beside h1 hx (by decide) k, own_beside h2 hx (by decide) k, own_beside h3 hx (by decide) k, ownPs_beside h4 hx (by decide) (by decide) k, own_beside h5 hx (by decide) k⟩
theorem OwnCks.nil (w : World) (B : Nat) : OwnCks w B (.slice none 0 0) [] := ⟨[], World.ownsRow_nil _ _ _ _, fun k p h => by simp at h⟩
theorem OwnCks.fr {S : Nat → Prop} (h : OwnCks w B v ls) (k : Fr S w w') (hS : ∀ i, S i → i < w.heap.size → i < B) : OwnCks w' B v ls := by
  obtain ⟨xs, h1, h2⟩ := h
  refine ⟨xs, k.own h1 (fun g hg hi => by have := h1.lt g hg; have := hS g hi this.2; omega), fun i p hp => ?_⟩
  obtain ⟨h3, cs, h4, h5⟩ := h2 i p hp
  exact ⟨h3, cs, h4, h5.fr k hS⟩
theorem OwnCks.grows (h : OwnCks w B v ls) (k : Below w.heap.size w w') : OwnCks w' B v ls := h.fr (Fr.of_below k) (fun i hi hlt => by omega)
theorem OwnCks.mono (h : OwnCks w B v ls) (hB : B' ≤ B) : OwnCks w B' v ls := by
  obtain ⟨xs, h1, h2⟩ := h
  refine ⟨xs, own_mono h1 hB, fun i p hp => ?_⟩
  obtain ⟨h3, cs, h4, h5⟩ := h2 i p hp
  exact ⟨h3, cs, h4, h5.mono hB⟩
theorem OwnCks.slice (h : OwnCks w B v ls) : ∃ A c, v = .slice A ls.length c ∧ ls.length ≤ c ∧ c ≤ 9223372036854775807 := by
  obtain ⟨xs, h1, _⟩ := h
  exact own_slice h1
theorem OwnCks.cks {A : Option Addr} {n c : Nat} (h : OwnCks w B (.slice A n c) ls) : Cks w w.heap.size A ls := fun k p hp => by
  obtain ⟨xs, h1, h2⟩ := h
  obtain ⟨h3, cs, h4, h5⟩ := h2 k p hp
  have hk : k < ls.length := (List.getElem?_eq_some_iff.1 hp).1
  obtain ⟨g, cap, hv, hg1, hg2⟩ := h1.form (by omega)
  injection hv with hv _ _
  subst hv
  refine ⟨⟨g, 0, none⟩, cs, rfl, hg2, h5.at_ h3, fun j u hu => ?_⟩
  rw [add_of_add]
  exact h1.cells (g := g) rfl _ _ (h4 j u hu)
theorem OwnCks.snoc {n : Nat} {xs : List Value} (hx : w.ownsRow B 41 19 v ls.length xs) (hxs : ∀ k c, ls[k]? = some c → c.ok ∧ ∃ cs : Array Value, (∀ j u, cs[j]? = some u → xs[k * 19 + j]? = some u) ∧ CkOwn w B cs c)
    (hg : w.grownBy w' v.ownBlock) (ho : w'.ownsRow B 41 19 v' n (xs ++ cs.toList)) (hn : n = ls.length + 1) (hc : CkOwn w B cs c) (ok : c.ok) : OwnCks w' B v' (ls ++ [c]) := by
  have hl := hx.1
  refine ⟨_, by rw [List.length_append, List.length_singleton, ← hn]; exact ho, fun k q hq => ?_⟩
  by_cases hk : k < ls.length
  · rw [List.getElem?_append_left hk] at hq
    obtain ⟨h3, cs', h4, h5⟩ := hxs k q hq
    refine ⟨h3, cs', fun j u hu => ?_, h5.beside hx hg⟩
    have hj : j < 19 := by have := (Array.getElem?_eq_some_iff.1 hu).1; rw [h5.size] at this; exact this
    rw [List.getElem?_append_left (by omega)]
    exact h4 j u hu
  · rw [List.getElem?_append_right (by omega)] at hq
    have hk0 : k - ls.length = 0 := by
      have := (List.getElem?_eq_some_iff.1 hq).1
      simp at this
      omega
    rw [hk0] at hq
    simp only [List.getElem?_cons_zero, Option.some.injEq] at hq
    subst hq
    have hkl : k = ls.length := by omega
    subst hkl
    refine ⟨ok, cs, fun j u hu => ?_, hc.beside hx hg⟩
    rw [List.getElem?_append_right (by omega), show ls.length * 19 + j - xs.length = j by omega]
    simpa using hu
end
theorem fill_ck (c : Ck) (gv dv sv pv bv : Value) : Instr.fill (fun i => some (i * 19, 19)) ((Array.range (1 * 19)).map ((Value.agg zeroA).cells[· % (Value.agg zeroA).cells.size]!)) [(0, .agg (ckArr c gv dv sv pv bv))] = some (ckArr c gv dv sv pv bv) := by kernel_rfl
theorem wpList_slice_ck {ops : Array Oper} {rest : List Oper} {o : Oper} {a : Act} {w : World} {Q : Exit → Act → World → Prop} (hg : o.guard = none) (x : Operand) (ho : o.op = .buildSlice 26 1 #[(0, x)]) (cs : Array Value) (hx : a.eval x = .agg cs)
    (hcs : ∃ c gv dv sv pv bv, cs = ckArr c gv dv sv pv bv) (h : wpList Try.prog ops Q rest (a.put o.dst (.slice (some ⟨w.heap.size, 0, none⟩) 1 1)) (w.alloc (.cells cs 41))) : wpList Try.prog ops Q (o :: rest) a w := by
  obtain ⟨c, gv, dv, sv, pv, bv, rfl⟩ := hcs
  obtain ⟨i, hi, hz, hs, _⟩ := info_parts3 chunk_info3
  refine wpList_buildSlice hg 26 41 1 #[(0, x)] ho (ckArr c gv dv sv pv bv) i (.agg zeroA) Try.underlying26 hi hz (by rw [hs]; decide) (by rw [hs]; decide) ?_ h
  rw [hs]
  have e : ((#[(0, x)] : Array (Nat × Operand)).map fun (i, x) => (i, a.eval x)).toList = [(0, .agg (ckArr c gv dv sv pv bv))] := by simp [hx]
  rw [e]
  exact fill_ck c gv dv sv pv bv
theorem CkAt.arr {w : World} {B : Nat} {cs : Array Value} {c : Ck} (h : CkAt w B cs c) : ∃ c gv dv sv pv bv, cs = ckArr c gv dv sv pv bv := by
  obtain ⟨_, g, d, s, p, b, e, _⟩ := h
  exact ⟨_, _, _, _, _, _, e⟩
theorem CkOwn.arr {w : World} {B : Nat} {cs : Array Value} {c : Ck} (h : CkOwn w B cs c) : ∃ c gv dv sv pv bv, cs = ckArr c gv dv sv pv bv := by
  obtain ⟨gv, dv, sv, pv, bv, e, _⟩ := h
  exact ⟨_, _, _, _, _, _, e⟩
theorem ck_cells1 {cs : Array Value} (h : ∃ c gv dv sv pv bv, cs = ckArr c gv dv sv pv bv) (h1 : cs.all (·.oneCell') = true) : ∀ u ∈ cs.toList, u.oneCell' = true := by
  intro u hu
  have := Array.all_eq_true'.1 h1 u (by simpa using hu)
  exact this
end Go.Proofs.Ytioddokjogbmnaa.Chk
