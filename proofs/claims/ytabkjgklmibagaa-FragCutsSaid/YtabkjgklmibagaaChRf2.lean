/-
  The document's answers of layer 6 (flumeref06): Strip.
-/
import Derived.Test.YtabkjgklmibagaaChRf1
import Derived.Test.YtabkjgklmibagaaStage
set_option linter.unusedVariables false
set_option linter.unusedSimpArgs false
namespace Go.Proofs.Ytabkjgklmibagaa.Chk
open Go.ChangeShapes Go.WideShapes Go.ChangeAt Go.RowKit Go.Deep Go.Proofs.Ytabkjgklmibagaa.Words Go.Proofs.Ytabkjgklmibagaa.Oct Go.Proofs.Ytabkjgklmibagaa.Par

theorem ckAt_of {w : World} {B : Nat} {cs : Array Value} {c : Ck} {g d s p b : Hd} (ok : c.ok) (e : cs = ckArr c (g.v c.gaps.length) (d.v c.dups.length) (s.v c.skips.length) (p.v c.ps.length) (b.v c.body.length)) (l : Lists w B c g d s p b) : CkAt w B cs c :=
  ⟨ok, g, d, s, p, b, e, l.okg, l.okd, l.oks, l.okp, l.okb, l.gaps, l.dups, l.skips, l.ps, l.body⟩
theorem lists_keep {w w' : World} {B B' : Nat} {c : Ck} {g d s p b : Hd} (h : Lists w B c g d s p b) (hk : ∀ q : Addr, q.block < B → w'.cell? q = w.cell? q) (hB : B ≤ B') : Lists w' B' c g d s p b :=
  ⟨h.okg, h.okd, h.oks, h.okp, h.okb, (h.gaps.keep hk).more hB, (h.dups.keep hk).more hB, (h.skips.keep hk).more hB, (h.ps.keep hk).more hB, (h.body.keep hk).more hB⟩
theorem ck_cells (c : Ck) (g d s p b : Hd) : Cells (ckArr c (g.v c.gaps.length) (d.v c.dups.length) (s.v c.skips.length) (p.v c.ps.length) (b.v c.body.length)) c g d s p b :=
  ⟨rfl, rfl, rfl, rfl, rfl, rfl, rfl, rfl, rfl, rfl, rfl, rfl, rfl, rfl, rfl, rfl, rfl, rfl, rfl, rfl⟩
theorem setCell_size (w : World) (p : Addr) (u : Value) : (w.setCell p u).heap.size = w.heap.size := by simp [World.setCell]
theorem lists_zero (w : World) (B k : Nat) : Lists w B (zeroC k) ⟨none, 0⟩ ⟨none, 0⟩ ⟨none, 0⟩ ⟨none, 0⟩ ⟨none, 0⟩ :=
  ⟨⟨Nat.le_refl _, by simp⟩, ⟨Nat.le_refl _, by simp⟩, ⟨Nat.le_refl _, by simp⟩, ⟨Nat.le_refl _, by simp⟩, ⟨Nat.le_refl _, by simp⟩, Reads.none_, Reads.none_, Reads.none_, Ps.nil _ _ _, by unfold Byt; exact Reads.none_⟩
/-! ### what is left, 'if' by 'if' -/
def D1 (c : Ck) : Ck := if c.kind = 0 ∨ c.kind = 64 then { zeroC c.kind with bg := c.bg, en := c.en, lo := c.lo, tsn := c.tsn, st := c.st, mid := (if c.kind = 0 then c.mid % 65536 else c.mid), pp := (if c.kind = 64 ∧ c.bg = false then 0 else c.pp), fr := (if c.kind = 64 ∧ c.bg = false then c.fr else 0) } else zeroC c.kind
def D2 (c : Ck) : Ck := if c.kind = 1 ∨ c.kind = 2 then { D1 c with tag := c.tag, win := c.win, out := c.out, inn := c.inn, tsn := c.tsn } else D1 c
def D3 (c : Ck) : Ck := if c.kind = 3 then { D2 c with tsn := c.tsn, win := c.win, gaps := c.gaps, dups := c.dups } else D2 c
def D4 (c : Ck) : Ck := if c.kind = 6 ∨ c.kind = 14 then { D3 c with ba := c.ba } else D3 c
def D5 (c : Ck) : Ck := if c.kind = 7 ∨ c.kind = 192 ∨ c.kind = 194 then { D4 c with tsn := c.tsn } else D4 c
def skD (k : Nat) (l : List Skp) : List Skp := if k = 192 then l.map fun s => (s.1, false, s.2.2 % 65536) else l
def D6 (c : Ck) : Ck := if c.kind = 192 ∨ c.kind = 194 then { D5 c with skips := skD c.kind c.skips } else D5 c
def D7 (c : Ck) : Ck := if c.kind = 1 ∨ c.kind = 2 ∨ c.kind = 6 ∨ c.kind = 9 ∨ c.kind = 130 then { D6 c with ps := c.ps } else D6 c
def D8 (c : Ck) : Ck := if c.kind = 0 ∨ c.kind = 64 ∨ c.kind = 4 ∨ c.kind = 5 ∨ c.kind = 10 then { D7 c with body := c.body } else D7 c
theorem skD_snoc (k : Nat) (l : List Skp) (s : Skp) : skD k (l ++ [s]) = skD k l ++ skD k [s] := by unfold skD; split <;> simp
theorem skD_len (k : Nat) (l : List Skp) : (skD k l).length = l.length := by unfold skD; split <;> simp
theorem skD_ok {k : Nat} {l : List Skp} (h : ∀ s ∈ l, s.1 < 65536 ∧ s.2.2 < 4294967296) : ∀ s ∈ skD k l, s.1 < 65536 ∧ s.2.2 < 4294967296 := by
  unfold skD
  split
  · intro s hs
    simp only [List.mem_map] at hs
    obtain ⟨x, hx, rfl⟩ := hs
    have := h x hx
    exact ⟨this.1, by show x.2.2 % 65536 < _; omega⟩
  · exact h
theorem D8_strip {c : Ck} (h : known c.kind = true) : D8 c = strip c := by
  obtain ⟨k, bg, en, lo, ba, tsn, st, mid, pp, fr, tag, win, out, inn, gaps, dups, skips, ps, body⟩ := c
  simp only at h
  rcases kinds h with rfl | rfl | rfl | rfl | rfl | rfl | rfl | rfl | rfl | rfl | rfl | rfl | rfl | rfl | rfl | rfl | rfl <;> first | rfl | (cases bg <;> rfl)
/-- D5 where messages are skipped. -/
theorem D5_skip {c : Ck} (h : c.kind = 192 ∨ c.kind = 194) : D5 c = { zeroC c.kind with tsn := c.tsn } := by
  unfold D5 D4 D3 D2 D1
  rw [if_pos (by omega), if_neg (by omega), if_neg (by omega), if_neg (by omega), if_neg (by omega)]
/-- Where Strip stands: the chunk's variable, the result's; the result's lists lie elsewhere. -/
structure StS (ea : Bool) (w V : World) (g0 g1 g2 : Nat) (cs : Array Value) (d : Ck) : Prop where
  b0 : CkBlk V g0 cs
  ex : ∃ g dd s p b : Hd, CkBlk V g1 (ckArr d (g.v d.gaps.length) (dd.v d.dups.length) (s.v d.skips.length) (p.v d.ps.length) (b.v d.body.length)) ∧ d.ok ∧ (∀ V' : World, (∀ q : Addr, q.block ≠ g1 → q.block ≠ g2 → V'.cell? q = V.cell? q) → Lists V' V.heap.size d g dd s p b) ∧ (ea = true → s = ⟨none, 0⟩)
  below : Below w.heap.size w V
  ne : g0 ≠ g1
  lo : w.heap.size ≤ g1
  lo0 : w.heap.size ≤ g0
  b2 : CkBlk V g2 zeroA
  ne2 : g2 ≠ g1
  ne3 : g2 ≠ g0
  lo2 : w.heap.size ≤ g2
/-- Where Strip stands in the loop over what is skipped. -/
structure SkS (w V : World) (g0 g1 g2 : Nat) (cs : Array Value) (kd tsn : Nat) (vg vd vp vb : Value) (A : Option Addr) (n cp : Nat) (l : List Skp) : Prop where
  b0 : CkBlk V g0 cs
  b1 : CkBlk V g1 (ckArr { zeroC kd with tsn := tsn } vg vd (.slice A n cp) vp vb)
  own : V.ownsRow w.heap.size 58 3 (.slice A n cp) n (skC l)
  len : n = l.length
  below : Below w.heap.size w V
  b2 : CkBlk V g2 zeroA
section
variable {w V V' : World} {g0 g1 g2 : Nat} {cs : Array Value} {kd tsn : Nat} {vg vd vp vb : Value} {A A' : Option Addr} {n cp cp' : Nat} {l : List Skp} {v' : Value}
theorem SkS.grows (h : SkS w V g0 g1 g2 cs kd tsn vg vd vp vb A n cp l) (k : Below V.heap.size V V') : SkS w V' g0 g1 g2 cs kd tsn vg vd vp vb A n cp l :=
  ⟨h.b0.below k h.b0.lt, h.b1.below k h.b1.lt, (Fr.of_below k).own h.own (fun g hg hi => by have := (h.own.lt g hg).2; omega), h.len, h.below.trans (k.mono h.below.size), h.b2.below k h.b2.lt⟩
/-- Behind the append and its store. -/
theorem SkS.more {s : Skp} {n' : Nat} (h : SkS w V g0 g1 g2 cs kd tsn vg vd vp vb A n cp l) (ho : V'.ownsRow w.heap.size 58 3 (.slice A' n' cp') n' (skC l ++ [.int .u16 (s.1 : Int), .bool s.2.1, .int .u32 (s.2.2 : Int)])) (hn : n' = n + 1) (hg : V.grownBy V' (Value.slice A n cp).ownBlock) (ne : g0 ≠ g1) (ne2 : g2 ≠ g1) (lo : w.heap.size ≤ g1) :
    SkS w (V'.setCell ⟨g1, 16, none⟩ (.slice A' n' cp')) g0 g1 g2 cs kd tsn vg vd vp vb A' n' cp' (l ++ [s]) := by
  have f0 := Blk.grown h.b0 hg (own_blk_ne h.own h.b0 (by decide)).symm
  have f1 := Blk.grown h.b1 hg (own_blk_ne h.own h.b1 (by decide)).symm
  have f2 := Blk.grown h.b2 hg (own_blk_ne h.own h.b2 (by decide)).symm
  have hb := h.below.grown hg h.below.size (fun g hg => (h.own.lt g hg).1)
  refine ⟨Blk.far f0 (p := ⟨g1, 16, none⟩) ne _, Blk.set_ f1 16 _, ?_, by rw [List.length_append, ← h.len]; exact hn, hb.setCell (p := ⟨g1, 16, none⟩) lo _, Blk.far f2 (p := ⟨g1, 16, none⟩) ne2 _⟩
  rw [skC_snoc]
  exact ((Fr.refl (fun k => k = g1) V').setCell (p := ⟨g1, 16, none⟩) (.inl rfl) _).own ho (fun g hg e => own_blk_ne ho f1 (by decide) (by rw [hg, e]))
end
theorem three_reads (w : World) (u0 u1 u2 : Value) (t : TypeId) : Reads (w.alloc (.cells #[u0, u1, u2] t)) (w.heap.size + 1) 3 (some ⟨w.heap.size, 0, none⟩) 1 [u0, u1, u2] := by
  have hb := Blk.new w t #[u0, u1, u2]
  refine ⟨rfl, fun _ => ⟨_, rfl, by simp, fun j u hu => ?_⟩⟩
  rw [hb.cellAdd, ← hu]
  match j with
  | 0 => rfl
  | 1 => rfl
  | 2 => rfl
  | j + 3 => rfl
theorem reads_apart {w : World} {B g1 g2 n c size : Nat} {e T : TypeId} {A : Option Addr} {xs : List Value} {cs cs2 : Array Value} (h : w.ownsRow B e size (.slice A n c) n xs) (hb : Blk w g1 T cs) (hb2 : Blk w g2 T cs2) (hne : e ≠ T) (V : World) (hV : ∀ q : Addr, q.block ≠ g1 → q.block ≠ g2 → V.cell? q = w.cell? q) : Reads V w.heap.size size A n xs := by
  refine ⟨h.1, fun hn => ?_⟩
  obtain ⟨g, cap, hv, _, hlt⟩ := h.form hn
  have hA : A = some ⟨g, 0, none⟩ := by injection hv
  subst hA
  refine ⟨_, rfl, hlt, fun j u hu => ?_⟩
  have hg : g ≠ g1 := fun e => own_blk_ne h hb hne (by rw [← e]; rfl)
  have hg2 : g ≠ g2 := fun e => own_blk_ne h hb2 hne (by rw [← e]; rfl)
  rw [hV _ (by rw [block_of_add]; exact hg) (by rw [block_of_add]; exact hg2)]
  exact h.cells (g := g) rfl j u hu
end Go.Proofs.Ytabkjgklmibagaa.Chk
