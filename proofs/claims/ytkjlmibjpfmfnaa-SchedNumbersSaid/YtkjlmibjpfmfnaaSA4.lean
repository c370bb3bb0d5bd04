/-
  Of the texts Pk2, Crc, CrcSeal, Pk5, FrPlain, ScPlain, ScIf, FrRef, FrLaw, FlZk, ScFst: what the laws reach.
-/
import Derived.Test.YtkjlmibjpfmfnaaSA1
import Derived.Test.YtkjlmibjpfmfnaaSA3
import Derived.BigQuiet
import Derived.Test.YtkjlmibjpfmfnaaSA2
import Derived.Great.BuildSlice
import Derived.Laws.CopyOwn

set_option linter.unusedVariables false
set_option linter.unusedSimpArgs false
namespace Go.Proofs.Ytkjlmibjpfmfnaa.Chk
open Go.ChangeShapes Go.WideShapes Go.ChangeAt Go.RowKit Go.Deep Go.Proofs.Ytkjlmibjpfmfnaa.Words Go.Proofs.Ytkjlmibjpfmfnaa.Oct Go.Proofs.Ytkjlmibjpfmfnaa.Par
/-- Two lists that are the same but for fields that their kinds have not. -/
structure Alikes (l1 l2 : List Ck) : Prop where
  len : l1.length = l2.length
  strips : ∀ k (h1 : k < l1.length) (h2 : k < l2.length), strip l1[k] = strip l2[k]
  known1 : ∀ c ∈ l1, known c.kind = true ∧ c.skips.length ≤ 500000
  known2 : ∀ c ∈ l2, known c.kind = true ∧ c.skips.length ≤ 500000
end Go.Proofs.Ytkjlmibjpfmfnaa.Chk

set_option linter.unusedVariables false
set_option linter.unusedSimpArgs false
namespace Go.Proofs.Ytkjlmibjpfmfnaa.Crc
open Go.ChangeShapes Go.WideShapes Go.ChangeAt Go.RowKit Go.Proofs.Ytkjlmibjpfmfnaa.Words
/-- A slice of slices of bytes. -/
def Parts (w : World) (B : Nat) (A : Option Addr) (n : Nat) (ls : List (List UInt8)) : Prop :=
  ls.length = n ∧ ∀ j l, ls[j]? = some l → ∃ ad a c, A = some ad ∧ w.cell? (ad.add j) = some (.slice a l.length c) ∧ l.length ≤ 9223372036854775807 ∧ Byt w B a l
theorem Parts.nil (w : World) (B : Nat) : Parts w B none 0 [] := ⟨rfl, fun j l h => by simp at h⟩
theorem u8_info : (Try.prog.info? 5).map (fun i => (i.zero, i.size, i.bytes)) = some (some (.int .u8 0), 1, 1) := by kernel_rfl
/-- A row of bytes of the call's own. -/
abbrev Own (w : World) (B : Nat) (v : Value) (l : List UInt8) : Prop := w.ownsRow B 5 1 v l.length (u8s l)
end Go.Proofs.Ytkjlmibjpfmfnaa.Crc

set_option linter.unusedVariables false
set_option linter.unusedSimpArgs false
namespace Go.Proofs.Ytkjlmibjpfmfnaa.Crc
open Go.ChangeShapes Go.WideShapes Go.ChangeAt Go.RowKit Go.Proofs.Ytkjlmibjpfmfnaa.Words
theorem Own.byt {w : World} {B : Nat} {A : Option Addr} {c : Nat} {l : List UInt8} (h : Own w B (.slice A l.length c) l) : Byt w w.heap.size A l := Reads.of_own h
theorem own_mono {w : World} {B B' : Nat} {e : TypeId} {size n : Nat} {v : Value} {xs : List Value} (h : w.ownsRow B e size v n xs) (hB : B' ≤ B) : w.ownsRow B' e size v n xs := by
  refine ⟨h.1, ?_⟩
  rcases h.2 with h | ⟨g, cap, cur, h1, h2, h3⟩
  · exact .inl h
  · exact .inr ⟨g, cap, cur, h1, Nat.le_trans hB h2, h3⟩
end Go.Proofs.Ytkjlmibjpfmfnaa.Crc

set_option linter.unusedVariables false
set_option linter.unusedSimpArgs false
namespace Go.Proofs.Ytkjlmibjpfmfnaa.Chk
open Go.ChangeShapes Go.WideShapes Go.ChangeAt Go.RowKit Go.Deep Go.Proofs.Ytkjlmibjpfmfnaa.Words Go.Proofs.Ytkjlmibjpfmfnaa.Oct Go.Proofs.Ytkjlmibjpfmfnaa.Par
open Go.Proofs.Ytkjlmibjpfmfnaa.Crc (sealL)
theorem chunk_info3 : (Try.prog.info? 51).map (fun i => (i.zero, i.size, i.bytes)) = some (some (.agg zeroA), 19, 160) := by kernel_rfl
def OwnCks (w : World) (B : Nat) (v : Value) (ls : List Ck) : Prop :=
  ∃ xs, w.ownsRow B 51 19 v ls.length xs ∧ ∀ k c, ls[k]? = some c → c.ok ∧ ∃ cs : Array Value, (∀ j u, cs[j]? = some u → xs[k * 19 + j]? = some u) ∧ CkOwn w B cs c
theorem CkOwn.size {w : World} {B : Nat} {cs : Array Value} {c : Ck} (h : CkOwn w B cs c) : cs.size = 19 := by obtain ⟨_, _, _, _, _, rfl, _⟩ := h; rfl
section
variable {w w' : World} {B B' : Nat} {v v' : Value} {ls : List Ck} {c : Ck} {cs : Array Value}
theorem ownPs_beside {e : TypeId} {size n : Nat} {vp : Value} {ps : List Prm} {xs : List Value} (h : OwnPs w B vp ps) (hx : w.ownsRow B' e size v n xs) (h1 : 160 ≠ e) (h2 : 5 ≠ e) (k : w.grownBy w' v.ownBlock) : OwnPs w' B vp ps := by
  obtain ⟨ys, h3, h4⟩ := h
  refine ⟨ys, own_beside h3 hx h1 k, fun i p hp => ?_⟩
  obtain ⟨q1, a, c, q2, q3, q4, q5, q6⟩ := h4 i p hp
  exact ⟨q1, a, c, q2, q3, q4, q5, own_beside q6 hx h2 k⟩
theorem CkOwn.beside {n : Nat} {xs : List Value} (h : CkOwn w B cs c) (hx : w.ownsRow B' 51 19 v n xs) (k : w.grownBy w' v.ownBlock) : CkOwn w' B cs c := by
  obtain ⟨gv, dv, sv, pv, bv, e, h1, h2, h3, h4, h5⟩ := h
  exact ⟨gv, dv, sv, pv, bv, e, own_beside h1 hx (by decide) k, own_beside h2 hx (by decide) k, own_beside h3 hx (by decide) k, ownPs_beside h4 hx (by decide) (by decide) k, own_beside h5 hx (by decide) k⟩
theorem OwnCks.nil (w : World) (B : Nat) : OwnCks w B (.slice none 0 0) [] := ⟨[], World.ownsRow_nil _ _ _ _, fun k p h => by simp at h⟩
theorem OwnCks.fr {S : Nat → Prop} (h : OwnCks w B v ls) (k : Fr S w w') (hS : ∀ i, S i → i < w.heap.size → i < B) : OwnCks w' B v ls := by
  obtain ⟨xs, h1, h2⟩ := h
  refine ⟨xs, k.own h1 (fun g hg hi => by have := h1.lt g hg; have := hS g hi this.2; omega), fun i p hp => ?_⟩
  obtain ⟨h3, cs, h4, h5⟩ := h2 i p hp
  exact ⟨h3, cs, h4, h5.fr k hS⟩
theorem OwnCks.grows (h : OwnCks w B v ls) (k : Below w.heap.size w w') : OwnCks w' B v ls := h.fr (Fr.of_below k) (fun i hi hlt => by omega)
theorem OwnCks.mono (h : OwnCks w B v ls) (hB : B' ≤ B) : OwnCks w B' v ls := by
  obtain ⟨xs, h1, h2⟩ := h
  refine ⟨xs, own_mono h1 hB, fun i p hp => ?_⟩
  obtain ⟨h3, cs, h4, h5⟩ := h2 i p hp
  exact ⟨h3, cs, h4, h5.mono hB⟩
theorem OwnCks.slice (h : OwnCks w B v ls) : ∃ A c, v = .slice A ls.length c ∧ ls.length ≤ c ∧ c ≤ 9223372036854775807 := by
  obtain ⟨xs, h1, _⟩ := h
  exact own_slice h1
theorem OwnCks.snoc {n : Nat} {xs : List Value} (hx : w.ownsRow B 51 19 v ls.length xs) (hxs : ∀ k c, ls[k]? = some c → c.ok ∧ ∃ cs : Array Value, (∀ j u, cs[j]? = some u → xs[k * 19 + j]? = some u) ∧ CkOwn w B cs c)
    (hg : w.grownBy w' v.ownBlock) (ho : w'.ownsRow B 51 19 v' n (xs ++ cs.toList)) (hn : n = ls.length + 1) (hc : CkOwn w B cs c) (ok : c.ok) : OwnCks w' B v' (ls ++ [c]) := by
  have hl := hx.1
  refine ⟨_, by rw [List.length_append, List.length_singleton, ← hn]; exact ho, fun k q hq => ?_⟩
  by_cases hk : k < ls.length
  · rw [List.getElem?_append_left hk] at hq
    obtain ⟨h3, cs', h4, h5⟩ := hxs k q hq
    refine ⟨h3, cs', fun j u hu => ?_, h5.beside hx hg⟩
    have hj : j < 19 := by have := (Array.getElem?_eq_some_iff.1 hu).1; rw [h5.size] at this; exact this
    rw [List.getElem?_append_left (by omega)]
    exact h4 j u hu
  · rw [List.getElem?_append_right (by omega)] at hq
    have hk0 : k - ls.length = 0 := by
      have := (List.getElem?_eq_some_iff.1 hq).1
      simp at this
      omega
    rw [hk0] at hq
    simp only [List.getElem?_cons_zero, Option.some.injEq] at hq
    subst hq
    have hkl : k = ls.length := by omega
    subst hkl
    refine ⟨ok, cs, fun j u hu => ?_, hc.beside hx hg⟩
    rw [List.getElem?_append_right (by omega), show ls.length * 19 + j - xs.length = j by omega]
    simpa using hu
end
theorem fill_ck (c : Ck) (gv dv sv pv bv : Value) : Instr.fill (fun i => some (i * 19, 19)) ((Array.range (1 * 19)).map ((Value.agg zeroA).cells[· % (Value.agg zeroA).cells.size]!)) [(0, .agg (ckArr c gv dv sv pv bv))] = some (ckArr c gv dv sv pv bv) := by kernel_rfl
theorem CkAt.arr {w : World} {B : Nat} {cs : Array Value} {c : Ck} (h : CkAt w B cs c) : ∃ c gv dv sv pv bv, cs = ckArr c gv dv sv pv bv := by
  obtain ⟨_, g, d, s, p, b, e, _⟩ := h
  exact ⟨_, _, _, _, _, _, e⟩
theorem CkOwn.arr {w : World} {B : Nat} {cs : Array Value} {c : Ck} (h : CkOwn w B cs c) : ∃ c gv dv sv pv bv, cs = ckArr c gv dv sv pv bv := by
  obtain ⟨gv, dv, sv, pv, bv, e, _⟩ := h
  exact ⟨_, _, _, _, _, _, e⟩
theorem ck_cells1 {cs : Array Value} (h : ∃ c gv dv sv pv bv, cs = ckArr c gv dv sv pv bv) (h1 : cs.all (·.oneCell') = true) : ∀ u ∈ cs.toList, u.oneCell' = true := by
  intro u hu
  have := Array.all_eq_true'.1 h1 u (by simpa using hu)
  exact this
end Go.Proofs.Ytkjlmibjpfmfnaa.Chk

set_option linter.unusedVariables false
set_option linter.unusedSimpArgs false
namespace Go.Proofs.Ytkjlmibjpfmfnaa.Chk
open Go.ChangeShapes Go.WideShapes Go.ChangeAt Go.RowKit Go.Deep Go.Proofs.Ytkjlmibjpfmfnaa.Words Go.Proofs.Ytkjlmibjpfmfnaa.Oct Go.Proofs.Ytkjlmibjpfmfnaa.Par
structure Msg where
  st : Nat
  lo : Bool
  mid : Nat
  pp : Nat
  body : List UInt8
structure Msg.ok (m : Msg) : Prop where
  st : m.st < 65536
  mid : m.mid < 4294967296
  pp : m.pp < 4294967296
/-- A message's cells. -/
abbrev mCells (m : Msg) (v : Value) : Array Value := #[.int .u16 (m.st : Int), .bool m.lo, .int .u32 (m.mid : Int), .int .u32 (m.pp : Int), v]
def roomF (inter : Bool) : Nat := if inter = true then 1168 else 1172
theorem roomF_le (b : Bool) : 1 ≤ roomF b ∧ roomF b ≤ 1172 := by cases b <;> decide
def midF (m : Msg) (inter : Bool) : Nat := if inter = true then m.mid else m.mid % 65536
/-- The i-th pieceF of most bytes. -/
def pieceF (m : Msg) (most : Nat) (inter : Bool) (i : Nat) : Ck :=
  { zeroC (if inter = true then 64 else 0) with bg := decide (i = 0), en := decide (m.body.length ≤ (i + 1) * most), lo := m.lo, st := m.st, mid := midF m inter, pp := m.pp, fr := if inter = true then i else 0, body := (m.body.drop (i * most)).take most }
def cutN (m : Msg) (most : Nat) (inter : Bool) (k : Nat) : List Ck := (List.range k).map (pieceF m most inter)
/-- How many pieces. -/
def np (n most : Nat) : Nat := (n + most - 1) / most
def cutF (m : Msg) (most : Nat) (inter : Bool) : List Ck := cutN m most inter (np m.body.length most)
def cutE (m : Msg) (most : Int) (inter : Bool) : Nat := if most < 1 ∨ (roomF inter : Int) < most then 2 else if m.body.length = 0 then 42 else if 65536 < m.body.length then 43 else 0
theorem cutN_length (m : Msg) (most : Nat) (inter : Bool) (k : Nat) : (cutN m most inter k).length = k := by unfold cutN; simp
theorem cutN_at (m : Msg) (most : Nat) (inter : Bool) {k i : Nat} (h : i < k) : (cutN m most inter k)[i]? = some (pieceF m most inter i) := by
  unfold cutN
  rw [List.getElem?_map, List.getElem?_range h]
  rfl
theorem np_lt {n most i : Nat} (h : 1 ≤ most) : i < np n most ↔ i * most < n := by
  unfold np
  rw [Nat.lt_iff_add_one_le, Nat.le_div_iff_mul_le (by omega), Nat.add_mul]
  omega
theorem np_end {n most i : Nat} (h : 1 ≤ most) (h1 : i ≤ np n most) (h2 : n ≤ i * most) : i = np n most := by
  have := not_congr (np_lt (n := n) (i := i) h)
  omega
theorem np_le {n most : Nat} (h : 1 ≤ most) : np n most ≤ n := by
  have h1 := not_congr (np_lt (n := n) (i := n) h)
  have h2 : n ≤ n * most := Nat.le_mul_of_pos_right n (by omega)
  omega
theorem pieceF_ok {m : Msg} (ok : m.ok) (most : Nat) (inter : Bool) {i : Nat} (hi : i < 4294967296) : (pieceF m most inter i).ok := by
  have h1 := ok.st
  have h2 := ok.mid
  have h3 := ok.pp
  refine ⟨?_, by show 0 < _; omega, h1, ?_, h3, ?_, by show 0 < _; omega, by show 0 < _; omega, by show 0 < _; omega, by show 0 < _; omega, fun _ h => by simp [pieceF, zeroC] at h, fun _ h => by simp [pieceF, zeroC] at h, fun _ h => by simp [pieceF, zeroC] at h, fun _ h => by simp [pieceF, zeroC] at h⟩
  · show (if inter = true then 64 else 0) < 256
    split <;> omega
  · show midF m inter < _
    unfold midF
    split <;> omega
  · show (if inter = true then i else 0) < _
    split <;> omega
/-- What Cut leaves. -/
def CutDone (w : World) (m : Msg) (most : Int) (inter : Bool) (e : Ending) (w' : World) : Prop :=
  ∃ (A : Option Addr) (n c : Nat), e = .returned (.tuple #[.slice A n c, .int .i64 (cutE m most inter : Int)]) ∧ n ≤ c ∧ c ≤ 9223372036854775807 ∧
    Hid (n = if cutE m most inter = 0 then np m.body.length most.toNat else 0) ∧ Hid (OwnCks w' w.heap.size (.slice A n c) (if cutE m most inter = 0 then cutF m most.toNat inter else [])) ∧ Hid (Below w.heap.size w w')
theorem cut_fails {w w' : World} {m : Msg} {most : Int} {inter : Bool} {k : Nat} (h : cutE m most inter = k) (hk : k ≠ 0) (hb : Below w.heap.size w w') : CutDone w m most inter (.returned (.tuple #[.slice none 0 0, .int .i64 (k : Int)])) w' :=
  ⟨none, 0, 0, by rw [h], Nat.le_refl _, by omega, by rw [h, if_neg hk]; exact rfl, by rw [h, if_neg hk]; exact OwnCks.nil _ _, hb⟩
theorem cut_does {w w' : World} {m : Msg} {most : Int} {inter : Bool} {A : Option Addr} {n c : Nat} (h : cutE m most inter = 0) (hn : n = np m.body.length most.toNat) (hnc : n ≤ c) (hc : c ≤ 9223372036854775807) (ho : OwnCks w' w.heap.size (.slice A n c) (cutF m most.toNat inter)) (hb : Below w.heap.size w w') : CutDone w m most inter (.returned (.tuple #[.slice A n c, .int .i64 0])) w' :=
  ⟨A, n, c, by rw [h]; rfl, hnc, hc, by rw [h, if_pos rfl]; exact hn, by rw [h, if_pos rfl]; exact ho, hb⟩
theorem blk_below {w w' : World} {B g : Nat} {t : TypeId} {cs : Array Value} (h : Blk w g t cs) (hb : Below B w w') (hg : g < B) : Blk w' g t cs := (hb.block g hg).trans h
section
variable {w : World} {g : Nat} {c : Ck} {gv dv sv pv bv : Value}
theorem set_kind (h : CkBlk w g (ckArr c gv dv sv pv bv)) (x : Nat) : CkBlk (w.setCell ⟨g, 0, none⟩ (.int .u8 (x : Int))) g (ckArr { c with kind := x } gv dv sv pv bv) := h.set_ 0 _
theorem set_bg (h : CkBlk w g (ckArr c gv dv sv pv bv)) (x : Bool) : CkBlk (w.setCell ⟨g, 1, none⟩ (.bool x)) g (ckArr { c with bg := x } gv dv sv pv bv) := h.set_ 1 _
theorem set_en (h : CkBlk w g (ckArr c gv dv sv pv bv)) (x : Bool) : CkBlk (w.setCell ⟨g, 2, none⟩ (.bool x)) g (ckArr { c with en := x } gv dv sv pv bv) := h.set_ 2 _
theorem set_mid (h : CkBlk w g (ckArr c gv dv sv pv bv)) (x : Nat) : CkBlk (w.setCell ⟨g, 7, none⟩ (.int .u32 (x : Int))) g (ckArr { c with mid := x } gv dv sv pv bv) := h.set_ 7 _
theorem set_fr (h : CkBlk w g (ckArr c gv dv sv pv bv)) (x : Nat) : CkBlk (w.setCell ⟨g, 9, none⟩ (.int .u32 (x : Int))) g (ckArr { c with fr := x } gv dv sv pv bv) := h.set_ 9 _
end
end Go.Proofs.Ytkjlmibjpfmfnaa.Chk

set_option linter.unusedVariables false
set_option linter.unusedSimpArgs false
namespace Go.Proofs.Ytkjlmibjpfmfnaa.Sc
open Go.Proofs.Ytkjlmibjpfmfnaa.Words Go.Proofs.Ytkjlmibjpfmfnaa.Chk
/-- A message that waits: what is left of it, whether it was begun, how many pieces were cut. -/
structure It where
  id : Int
  lk : Int
  ln : Nat
  m : Msg
  bg : Bool
  fr : Nat
abbrev Lin := Nat × List It
structure QS where
  inter : Bool
  lines : List Lin
  nums : Nat → Bool → Nat
  t : Nat
def q0 (inter : Bool) : QS := ⟨inter, [], fun _ _ => 0, 0⟩
def bytesI (l : List It) : Nat := (l.map fun i => i.m.body.length).sum
def bytesL (l : List Lin) : Nat := (l.map fun x => bytesI x.2).sum
def QS.all (s : QS) : Nat := bytesL s.lines
def QS.bytes (s : QS) (st : Nat) : Nat := match s.lines.find? fun l => decide (l.1 = st) with
  | some l => bytesI l.2
  | none => 0
def addL (it : It) : List Lin → List Lin
  | [] => [(it.m.st, [it])]
  | l :: r => if l.1 = it.m.st then (l.1, l.2 ++ [it]) :: r else l :: addL it r
def QS.pushE (s : QS) (m : Msg) : Nat := if m.body.length = 0 then 42 else if 65536 < m.body.length then 43 else if 262144 < s.all + m.body.length then 170 else 0
def newI (id lk : Int) (ln : Nat) (m : Msg) : It := ⟨id, lk, ln, { m with mid := 0 }, false, 0⟩
def QS.push (s : QS) (id lk : Int) (ln : Nat) (m : Msg) : QS := if s.pushE m = 0 then { s with lines := addL (newI id lk ln m) s.lines, t := s.t + 1 } else s
/-- Is it numbered with this piece? -/
def QS.fresh (s : QS) (it : It) : Bool := !it.bg && !(it.m.lo && !s.inter)
def QS.numI (s : QS) (it : It) : It := if s.fresh it then { it with m := { it.m with mid := s.nums it.m.st it.m.lo } } else it
def bump (f : Nat → Bool → Nat) (st : Nat) (lo : Bool) : Nat → Bool → Nat := fun a b => if a = st ∧ b = lo then (f a b + 1) % 4294967296 else f a b
def QS.numS (s : QS) (it : It) : QS := if s.fresh it then { s with nums := bump s.nums it.m.st it.m.lo } else s
def pieceI (inter : Bool) (most : Nat) (it : It) : Ck :=
  { zeroC (if inter = true then 64 else 0) with bg := !it.bg, en := decide (it.m.body.length ≤ most), lo := it.m.lo, st := it.m.st, mid := midF it.m inter, pp := it.m.pp, fr := if inter = true then it.fr else 0, body := it.m.body.take most }
def cutI (most : Nat) (it : It) : It := { it with m := { it.m with body := it.m.body.drop most }, bg := true, fr := (it.fr + 1) % 4294967296 }
def behind (st : Nat) (l : List It) : List Lin := if l.isEmpty then [] else [(st, l)]
/-- What a turn leaves of the lines. -/
def turned (inter : Bool) (most st : Nat) (it : It) (its : List It) (rest : List Lin) : List Lin :=
  if decide (it.m.body.length ≤ most) then rest ++ behind st its else if inter then rest ++ [(st, cutI most it :: its)] else (st, cutI most it :: its) :: rest
/-- The next piece, whose message it is, what is left. -/
def QS.next (s : QS) (most : Nat) : Option (Ck × It × QS) := match s.lines with
  | (st, it :: its) :: rest => some (pieceI s.inter most (s.numI it), s.numI it, { s.numS it with lines := turned s.inter most st (s.numI it) its rest, t := s.t + 1 })
  | _ => none
def QS.may (s : QS) (most : Int) : Bool := !s.lines.isEmpty && decide (1 ≤ most) && decide (most ≤ (roomF s.inter : Int))
def endI (inter : Bool) (it : It) : Ck := { zeroC (if inter = true then 64 else 0) with bg := false, en := true, lo := it.m.lo, st := it.m.st, mid := midF it.m inter, pp := it.m.pp, fr := if inter = true then it.fr else 0, body := [] }
def hit (id : Int) (it : It) : Bool := decide (it.id = id)
def keepL (id : Int) (l : Lin) : List Lin := behind l.1 (l.2.filter fun i => !hit id i)
def QS.over (s : QS) (id : Int) : Bool := !s.inter && match s.lines with
  | (_, it :: _) :: _ => it.bg && hit id it
  | _ => false
def QS.left (s : QS) (id : Int) : Nat := bytesI ((s.lines.flatMap (·.2)).filter (hit id))
def QS.ends (s : QS) (id : Int) : List Ck := ((s.lines.flatMap (·.2)).filter fun i => hit id i && i.bg).map (endI s.inter)
def QS.drop (s : QS) (id : Int) : QS := { s with t := s.t + 1, lines := match s.lines with
  | [] => []
  | l :: r => if s.over id then r.flatMap (keepL id) ++ keepL id l else (l :: r).flatMap (keepL id) }
/-- How often may be asked. -/
abbrev QS.Hot (s : QS) : Prop := s.t < 4611686018427387000
theorem push_t (s : QS) (id lk : Int) (ln : Nat) (m : Msg) : (s.push id lk ln m).t ≤ s.t + 1 := by
  unfold QS.push
  split
  · exact Nat.le_refl _
  · exact Nat.le_succ _
def QS.reset (s : QS) (l : List Nat) : QS := { s with nums := fun a b => if l.isEmpty || l.contains a then 0 else s.nums a b }
structure ItOk (it : It) : Prop where
  id : -9223372036854775808 ≤ it.id ∧ it.id ≤ 9223372036854775807
  lk : -9223372036854775808 ≤ it.lk ∧ it.lk ≤ 9223372036854775807
  ln : it.ln < 4294967296
  m : it.m.ok
  ne : it.m.body ≠ []
  len : it.m.body.length ≤ 65536
  fr : it.fr < 4294967296
  cut : it.fr + it.m.body.length ≤ 65536
  bgf : it.bg = decide (it.fr ≠ 0)
/-- Lines of different streams, none empty, of each its own messages; but the first of a line none is begun. -/
structure Inv (s : QS) : Prop where
  its : ∀ l ∈ s.lines, ∀ it ∈ l.2, ItOk it ∧ it.m.st = l.1
  ne : ∀ l ∈ s.lines, l.2 ≠ []
  dis : (s.lines.map (·.1)).Nodup
  few : s.all ≤ 262144
  bg : ∀ l ∈ s.lines, ∀ it ∈ l.2.tail, it.bg = false
  one : s.inter = false → ∀ l ∈ s.lines.tail, ∀ it ∈ l.2, it.bg = false
  num : ∀ a b, s.nums a b < 4294967296
section
variable {s : QS} {it : It} {l : List Lin} {most st : Nat} {its : List It} {rest : List Lin}
theorem Inv.q0 (inter : Bool) : Inv (q0 inter) := ⟨fun l hl => (by cases hl), fun l hl => (by cases hl), List.nodup_nil, Nat.zero_le _, fun l hl => (by cases hl), fun _ l hl => (by cases hl), fun _ _ => Nat.zero_lt_succ _⟩
theorem bytesI_app (a b : List It) : bytesI (a ++ b) = bytesI a + bytesI b := by simp [bytesI]
theorem bytesL_app (a b : List Lin) : bytesL (a ++ b) = bytesL a + bytesL b := by simp [bytesL]
theorem bytesL_cons (x : Lin) (l : List Lin) : bytesL (x :: l) = bytesI x.2 + bytesL l := by simp [bytesL]
theorem bytesI_cons (i : It) (l : List It) : bytesI (i :: l) = i.m.body.length + bytesI l := by simp [bytesI]
theorem bytesL_behind (st : Nat) (l : List It) : bytesL (behind st l) = bytesI l := by
  unfold behind
  cases l with
  | nil => rfl
  | cons i l => simp [bytesL]
theorem addL_bytes : ∀ l : List Lin, bytesL (addL it l) = bytesL l + it.m.body.length
  | [] => by simp [addL, bytesL, bytesI]
  | x :: l => by
    unfold addL
    split
    · rw [bytesL_cons, bytesL_cons, bytesI_app]
      simp [bytesI]
      omega
    · rw [bytesL_cons, bytesL_cons, addL_bytes l]
      omega
theorem addL_mem : ∀ {l : List Lin} {x : Lin}, x ∈ addL it l → x ∈ l ∨ x = (it.m.st, [it]) ∨ ∃ y ∈ l, y.1 = it.m.st ∧ x = (y.1, y.2 ++ [it])
  | [], x, h => .inr (.inl (List.mem_singleton.1 h))
  | y :: l, x, h => by
    unfold addL at h
    split at h
    · rename_i e
      rcases List.mem_cons.1 h with rfl | h
      · exact .inr (.inr ⟨y, List.mem_cons_self, e, rfl⟩)
      · exact .inl (List.mem_cons_of_mem _ h)
    · rcases List.mem_cons.1 h with rfl | h
      · exact .inl List.mem_cons_self
      · rcases addL_mem h with h | h | ⟨z, hz, e, e2⟩
        · exact .inl (List.mem_cons_of_mem _ h)
        · exact .inr (.inl h)
        · exact .inr (.inr ⟨z, List.mem_cons_of_mem _ hz, e, e2⟩)
theorem addL_keys : ∀ l : List Lin, (addL it l).map (·.1) = if it.m.st ∈ l.map (·.1) then l.map (·.1) else l.map (·.1) ++ [it.m.st]
  | [] => by simp [addL]
  | y :: l => by
    unfold addL
    by_cases e : y.1 = it.m.st
    · rw [if_pos e, if_pos (by simp [e])]
      rfl
    · rw [if_neg e, List.map_cons, addL_keys l, List.map_cons]
      by_cases h : it.m.st ∈ l.map (·.1)
      · rw [if_pos h, if_pos (List.mem_cons_of_mem _ h)]
      · rw [if_neg h, if_neg (fun h' => by
          rcases List.mem_cons.1 h' with h' | h'
          · exact e h'.symm
          · exact h h')]
        rfl
/-- How much is left behind a turn. -/
theorem turned_bytes (inter : Bool) : bytesL (turned inter most st it its rest) + min most it.m.body.length = it.m.body.length + bytesI its + bytesL rest := by
  have hd : (cutI most it).m.body.length = it.m.body.length - most := by simp [cutI]
  unfold turned
  split
  · rename_i h
    have h' := of_decide_eq_true h
    rw [bytesL_app, bytesL_behind]
    omega
  · rename_i h
    have h' : ¬ it.m.body.length ≤ most := fun e => h (decide_eq_true e)
    split
    · rw [bytesL_app, bytesL_cons, bytesI_cons, hd]
      show bytesL rest + (_ + 0) + _ = _
      omega
    · rw [bytesL_cons, bytesI_cons, hd]
      omega
end
end Go.Proofs.Ytkjlmibjpfmfnaa.Sc

set_option linter.unusedVariables false
set_option linter.unusedSimpArgs false
namespace Go.Proofs.Ytkjlmibjpfmfnaa.Sc
open Go.ChangeShapes Go.WideShapes Go.ChangeAt Go.RowKit Go.Deep Go.Proofs.Ytkjlmibjpfmfnaa.Words Go.Proofs.Ytkjlmibjpfmfnaa.Oct Go.Proofs.Ytkjlmibjpfmfnaa.Par Go.Proofs.Ytkjlmibjpfmfnaa.Chk
abbrev qptr (p : Nat) : Value := .pointer (some ⟨p, 0, none⟩)
abbrev limV (lk : Int) (ln : Nat) : Value := .agg #[.int .i64 lk, .int .u32 (ln : Int)]
abbrev zArr : Array Value := ckArr (zeroC 0) nilV nilV nilV nilV nilV
abbrev i64B (x : Int) : Prop := -9223372036854775808 ≤ x ∧ x ≤ 9223372036854775807
abbrev Mem := World → (Nat → Prop) → Nat → QS → Prop
/-- A row of streams' numbers that is read. -/
def U16s (w : World) (A : Option Addr) (l : List Nat) : Prop := ∀ (k x : Nat), l[k]? = some x → ∃ a, A = some a ∧ w.cell? (a.add k) = some (.int .u16 (x : Int))
structure ScI (R : Mem) : Prop where
  fr : ∀ {w w' : World} {G S : Nat → Prop} {p : Nat} {s : QS}, R w G p s → Fr S w w' → (∀ i, S i → i < w.heap.size → ¬ G i) → R w' G p s
  lt : ∀ {w : World} {G : Nat → Prop} {p : Nat} {s : QS}, R w G p s → ∀ i, G i → i < w.heap.size
  ok : ∀ {w : World} {G : Nat → Prop} {p : Nat} {s : QS}, R w G p s → Inv s
  new : ∀ (w : World) (inter : Bool), Calls Try.prog 9 #[.bool inter] w fun e w' => ∃ G p, e = .returned (qptr p) ∧ R w' G p (q0 inter) ∧ (∀ i, G i → w.heap.size ≤ i) ∧ Hid (Below w.heap.size w w')
  push : ∀ {w : World} {G : Nat → Prop} {p : Nat} {s : QS} {id lk : Int} {ln : Nat} {m : Msg} {A : Option Addr} {n cp : Nat}, R w G p s → s.Hot → i64B id → i64B lk → ln < 4294967296 → m.ok → n = m.body.length → n ≤ cp → cp ≤ 9223372036854775807 → Byt w w.heap.size A m.body →
    Calls Try.prog 10 #[qptr p, .int .i64 id, limV lk ln, .agg (mCells m (.slice A n cp))] w fun e w' => ∃ G', e = .returned (.int .i64 (s.pushE m : Int)) ∧ R w' G' p (s.push id lk ln m) ∧ (∀ i, G' i → G i ∨ w.heap.size ≤ i) ∧ Fr G w w'
  idle : ∀ {w : World} {G : Nat → Prop} {p : Nat} {s : QS} {most : Int}, R w G p s → i64B most → s.may most = false →
    Calls Try.prog 12 #[qptr p, .int .i64 most] w fun e w' => e = .returned (.tuple #[.agg zArr, .int .i64 0, limV 0 0, .bool false]) ∧ Below w.heap.size w w'
  next : ∀ {w : World} {G : Nat → Prop} {p : Nat} {s s' : QS} {most : Int} {c : Ck} {it : It}, R w G p s → s.Hot → i64B most → s.may most = true → s.next most.toNat = some (c, it, s') →
    Calls Try.prog 12 #[qptr p, .int .i64 most] w fun e w' => ∃ (cs : Array Value) (G' : Nat → Prop), e = .returned (.tuple #[.agg cs, .int .i64 it.id, limV it.lk it.ln, .bool true]) ∧ CkOwn w' w.heap.size cs c ∧ R w' G' p s' ∧ (∀ (ad : Addr) (n cp : Nat), cs[18]? = some (.slice (some ad) n cp) → ¬ G' ad.block) ∧ (∀ i, G' i → G i ∨ w.heap.size ≤ i) ∧ Fr G w w'
  reset : ∀ {w : World} {G : Nat → Prop} {p : Nat} {s : QS} {l : List Nat} {A : Option Addr} {n cp : Nat}, R w G p s → (∀ x ∈ l, x < 65536) → n = l.length → n ≤ cp → cp ≤ 9223372036854775807 → U16s w A l → (∀ a, A = some a → ¬ G a.block) →
    Calls Try.prog 17 #[qptr p, .slice A n cp] w fun e w' => ∃ G', e = .returned (.tuple #[]) ∧ R w' G' p (s.reset l) ∧ (∀ i, G' i → G i ∨ w.heap.size ≤ i) ∧ Fr G w w'
  bytes : ∀ {w : World} {G : Nat → Prop} {p : Nat} {s : QS} {st : Nat}, R w G p s → st < 65536 → Calls Try.prog 20 #[qptr p, .int .u16 (st : Int)] w fun e w' => e = .returned (.int .i64 (s.bytes st : Int)) ∧ w = w'
  all : ∀ {w : World} {G : Nat → Prop} {p : Nat} {s : QS}, R w G p s → Calls Try.prog 21 #[qptr p] w fun e w' => e = .returned (.int .i64 (s.all : Int)) ∧ w = w'
/-- What a queue's Drop does. -/
structure ScD (R : Mem) : Prop where
  drop : ∀ {w : World} {G : Nat → Prop} {p : Nat} {s : QS} {id : Int}, R w G p s → s.Hot → i64B id →
    Calls Try.prog 15 #[qptr p, .int .i64 id] w fun e w' => ∃ (v : Value) (G' : Nat → Prop), e = .returned (.tuple #[.int .i64 (s.left id : Int), v]) ∧ OwnCks w' w.heap.size v (s.ends id) ∧ R w' G' p (s.drop id) ∧ (∀ i, G' i → G i ∨ w.heap.size ≤ i) ∧ Fr G w w'
/-- A queue of the call's own beside what was there. -/
structure Q1 (R : Mem) (w V : World) (G : Nat → Prop) (p : Nat) (s : QS) : Prop where
  rep : R V G p s
  own : ∀ i, G i → w.heap.size ≤ i
  bel : Below w.heap.size w V
/-- The blocks S have kept. -/
abbrev Kp (S : Nat → Prop) (V V' : World) : Prop := Fr (fun i => ¬ S i) V V'
/-- Some queue of the call's own, its blocks left open; beside it lie the blocks S. -/
def SV (R : Mem) (w : World) (p : Nat) (S : Nat → Prop) (s : QS) (V : World) : Prop := ∃ G, Q1 R w V G p s ∧ ∀ i, S i → i < V.heap.size ∧ ¬ G i
section
variable {R : Mem} {w V V' : World} {G G' S S' : Nat → Prop} {p : Nat} {s s' : QS}
theorem Q1.step (h : Q1 R w V G p s) (hr : R V' G' p s') (hg : ∀ i, G' i → G i ∨ V.heap.size ≤ i) (hf : Fr G V V') : Q1 R w V' G' p s' :=
  ⟨hr, fun i hi => by
    rcases hg i hi with h1 | h1
    · exact h.own i h1
    · exact Nat.le_trans h.bel.size h1, below_fr h.bel hf (Nat.le_refl _) h.own⟩
theorem Q1.grows (I : ScI R) (h : Q1 R w V G p s) (hb : Below V.heap.size V V') : Q1 R w V' G p s :=
  ⟨I.fr h.rep (Fr.of_below hb) (fun i h1 h2 _ => by omega), h.own, h.bel.trans (hb.mono h.bel.size)⟩
theorem kp_below (hS : ∀ i, S i → i < V.heap.size) (hb : Below V.heap.size V V') : Kp S V V' := ⟨hb.os, hb.tape, hb.output, hb.size, fun k hk hn => hb.block k hk⟩
theorem SV.bel (h : SV R w p S s V) : Below w.heap.size w V := by obtain ⟨G, h, _⟩ := h; exact h.bel
theorem SV.ok (I : ScI R) (h : SV R w p S s V) : Inv s := by obtain ⟨G, h, _⟩ := h; exact I.ok h.rep
theorem SV.grows (I : ScI R) (h : SV R w p S s V) (hb : Below V.heap.size V V') : SV R w p S s V' := by
  obtain ⟨G, h, hS⟩ := h
  exact ⟨G, h.grows I hb, fun i hi => ⟨Nat.lt_of_lt_of_le (hS i hi).1 hb.size, (hS i hi).2⟩⟩
/-- Something besides the queue has turned. -/
theorem SV.turns (I : ScI R) (h : SV R w p S s V) (hf : Fr S V V') (hw : ∀ i, S i → w.heap.size ≤ i) : SV R w p S s V' := by
  obtain ⟨G, h, hS⟩ := h
  exact ⟨G, ⟨I.fr h.rep hf (fun i h1 _ h2 => (hS i h1).2 h2), h.own, below_fr h.bel hf (Nat.le_refl _) hw⟩, fun i hi => ⟨Nat.lt_of_lt_of_le (hS i hi).1 hf.size, (hS i hi).2⟩⟩
/-- A new block stands beside it. -/
theorem SV.more (I : ScI R) (h : SV R w p S s V) (hb : Below V.heap.size V V') (hs : ∀ i, S' i → S i ∨ (V.heap.size ≤ i ∧ i < V'.heap.size)) : SV R w p S' s V' := by
  obtain ⟨G, h, hS⟩ := h
  refine ⟨G, h.grows I hb, fun i hi => ?_⟩
  rcases hs i hi with h1 | ⟨h1, h2⟩
  · exact ⟨Nat.lt_of_lt_of_le (hS i h1).1 hb.size, (hS i h1).2⟩
  · exact ⟨h2, fun hg => by have := I.lt h.rep i hg; omega⟩
/-- A row beside it has grown, maybe into a new block. -/
theorem SV.grown (I : ScI R) (h : SV R w p S s V) {row : Option Nat} (hb : V.grownBy V' row) (hr : ∀ g, row = some g → S g ∧ w.heap.size ≤ g) (hs : ∀ i, S' i → S i ∨ (V.heap.size ≤ i ∧ i < V'.heap.size)) : SV R w p S' s V' := by
  have hf : Fr (fun i => some i = row) V V' := Fr.of_grown hb
  obtain ⟨G, h, hS⟩ := h
  have hw : Below w.heap.size w V' := below_fr h.bel hf (Nat.le_refl _) (fun i e => (hr i e.symm).2)
  refine ⟨G, ⟨I.fr h.rep hf (fun i h1 _ h2 => (hS i (hr i h1.symm).1).2 h2), h.own, hw⟩, fun i hi => ?_⟩
  rcases hs i hi with h1 | ⟨h1, h2⟩
  · exact ⟨Nat.lt_of_lt_of_le (hS i h1).1 hb.size, (hS i h1).2⟩
  · exact ⟨h2, fun hg => by have := I.lt h.rep i hg; omega⟩
theorem SV.step (h : Q1 R w V G p s) (hS : ∀ i, S i → i < V.heap.size ∧ ¬ G i) (hr : R V' G' p s') (hg : ∀ i, G' i → G i ∨ V.heap.size ≤ i) (hf : Fr G V V') : SV R w p S s' V' ∧ Kp S V V' :=
  ⟨⟨G', h.step hr hg hf, fun i hi => ⟨Nat.lt_of_lt_of_le (hS i hi).1 hf.size, fun hx => by
    rcases hg i hx with h1 | h1
    · exact (hS i hi).2 h1
    · have := (hS i hi).1; omega⟩⟩, hf.mono fun x _ hx hs => (hS x hs).2 hx⟩
theorem SV.new (I : ScI R) (w V : World) (hb : Below w.heap.size w V) (hS : ∀ i, S i → i < V.heap.size) (inter : Bool) : Calls Try.prog 9 #[.bool inter] V fun e w' => ∃ p, e = .returned (qptr p) ∧ Hid (SV R w p S (q0 inter) w') ∧ Hid (Kp S V w') :=
  (I.new V inter).mono (by
    rintro e w' ⟨G, p, rfl, hr, hg, hb2⟩
    exact ⟨p, rfl, ⟨G, ⟨hr, fun i hi => Nat.le_trans hb.size (hg i hi), hb.trans (hb2.out.mono hb.size)⟩, fun i hi => ⟨Nat.lt_of_lt_of_le (hS i hi) hb2.out.size, fun hx => by have := hg i hx; have := hS i hi; omega⟩⟩, kp_below hS hb2.out⟩)
variable {id lk most : Int} {ln n cp st : Nat} {m : Msg} {A : Option Addr}
theorem SV.push (I : ScI R) (h : SV R w p S s V) (ht : s.Hot) (h1 : i64B id) (h2 : i64B lk) (h3 : ln < 4294967296) (h4 : m.ok) (h5 : n = m.body.length) (h6 : n ≤ cp) (h7 : cp ≤ 9223372036854775807) (h8 : Byt V V.heap.size A m.body) :
    Calls Try.prog 10 #[qptr p, .int .i64 id, limV lk ln, .agg (mCells m (.slice A n cp))] V fun e w' => e = .returned (.int .i64 (s.pushE m : Int)) ∧ Hid (SV R w p S (s.push id lk ln m) w') ∧ Hid (Kp S V w') := by
  obtain ⟨G, h, hS⟩ := h
  exact (I.push h.rep ht h1 h2 h3 h4 h5 h6 h7 h8).mono (by rintro e w' ⟨G', rfl, hr, hg, hf⟩; exact ⟨rfl, (SV.step h hS hr hg hf).1, (SV.step h hS hr hg hf).2⟩)
theorem SV.idle (I : ScI R) (h : SV R w p S s V) (h1 : i64B most) (h2 : s.may most = false) :
    Calls Try.prog 12 #[qptr p, .int .i64 most] V fun e w' => e = .returned (.tuple #[.agg zArr, .int .i64 0, limV 0 0, .bool false]) ∧ Hid (SV R w p S s w') ∧ Hid (Kp S V w') := by
  have h' := h
  obtain ⟨G, h, hS⟩ := h
  exact (I.idle h.rep h1 h2).mono (by rintro e w' ⟨rfl, hb⟩; exact ⟨rfl, h'.grows I hb, kp_below (fun i hi => (hS i hi).1) hb⟩)
/-- The piece's bytes stand beside the queue from then on. -/
theorem SV.next (I : ScI R) (h : SV R w p S s V) (ht : s.Hot) (h1 : i64B most) (h2 : s.may most = true) {c : Ck} {it : It} (h3 : s.next most.toNat = some (c, it, s')) :
    Calls Try.prog 12 #[qptr p, .int .i64 most] V fun e w' => ∃ cs : Array Value, e = .returned (.tuple #[.agg cs, .int .i64 it.id, limV it.lk it.ln, .bool true]) ∧ Hid (CkOwn w' V.heap.size cs c) ∧ Hid (SV R w p (fun i => S i ∨ (i < w'.heap.size ∧ ∃ (ad : Addr) (n cp : Nat), cs[18]? = some (.slice (some ad) n cp) ∧ ad.block = i)) s' w') ∧ Hid (Kp S V w') := by
  obtain ⟨G, h, hS⟩ := h
  exact (I.next h.rep ht h1 h2 h3).mono (by
    rintro e w' ⟨cs, G', rfl, hc, hr, hv, hg, hf⟩
    obtain ⟨⟨G2, k1, k2⟩, k3⟩ := SV.step (S := S) h hS hr hg hf
    refine ⟨cs, rfl, hc, ⟨G', h.step hr hg hf, fun i hi => ?_⟩, k3⟩
    rcases hi with hi | ⟨hl, ad, n, cp, e, rfl⟩
    · refine ⟨Nat.lt_of_lt_of_le (hS i hi).1 hf.size, fun hx => ?_⟩
      rcases hg i hx with h5 | h5
      · exact (hS i hi).2 h5
      · have := (hS i hi).1; omega
    · exact ⟨hl, hv ad n cp e⟩)
theorem SV.drop (I : ScI R) (D : ScD R) (h : SV R w p S s V) (ht : s.Hot) (h1 : i64B id) :
    Calls Try.prog 15 #[qptr p, .int .i64 id] V fun e w' => ∃ (A : Option Addr) (n cp : Nat), e = .returned (.tuple #[.int .i64 (s.left id : Int), .slice A n cp]) ∧ n ≤ cp ∧ cp ≤ 9223372036854775807 ∧ Hid (n = (s.ends id).length) ∧ Hid (OwnCks w' V.heap.size (.slice A n cp) (s.ends id)) ∧ Hid (SV R w p S (s.drop id) w') ∧ Hid (Kp S V w') := by
  obtain ⟨G, h, hS⟩ := h
  exact (D.drop h.rep ht h1).mono (by
    rintro e w' ⟨v, G', rfl, ho, hr, hg, hf⟩
    obtain ⟨A, cp, rfl, h3, h4⟩ := ho.slice
    exact ⟨A, _, cp, rfl, h3, h4, rfl, ho, (SV.step h hS hr hg hf).1, (SV.step h hS hr hg hf).2⟩)
/-- The streams' row lies beside the queue, or in memory that is younger. -/
theorem SV.reset (I : ScI R) {V0 : World} (h : SV R w p S s V0) (hb : Below V0.heap.size V0 V) {l : List Nat} (h1 : ∀ x ∈ l, x < 65536) (h2 : n = l.length) (h3 : n ≤ cp) (h4 : cp ≤ 9223372036854775807) (h5 : U16s V A l) (h6 : ∀ a, A = some a → S a.block ∨ V0.heap.size ≤ a.block) :
    Calls Try.prog 17 #[qptr p, .slice A n cp] V fun e w' => e = .returned (.tuple #[]) ∧ Hid (SV R w p S (s.reset l) w') ∧ Hid (Kp S V w') := by
  obtain ⟨G, h, hS⟩ := h
  have h' := h.grows I hb
  have hS' : ∀ i, S i → i < V.heap.size ∧ ¬ G i := fun i hi => ⟨Nat.lt_of_lt_of_le (hS i hi).1 hb.size, (hS i hi).2⟩
  exact (I.reset h'.rep h1 h2 h3 h4 h5 (fun a e hx => by
    rcases h6 a e with k | k
    · exact (hS _ k).2 hx
    · have := I.lt h.rep _ hx; omega)).mono (by rintro e w' ⟨G', rfl, hr, hg, hf⟩; exact ⟨rfl, (SV.step h' hS' hr hg hf).1, (SV.step h' hS' hr hg hf).2⟩)
theorem SV.bytes (I : ScI R) (h : SV R w p S s V) (h1 : st < 65536) : Calls Try.prog 20 #[qptr p, .int .u16 (st : Int)] V fun e w' => e = .returned (.int .i64 (s.bytes st : Int)) ∧ V = w' := by
  obtain ⟨G, h, hS⟩ := h
  exact I.bytes h.rep h1
theorem SV.all (I : ScI R) (h : SV R w p S s V) : Calls Try.prog 21 #[qptr p] V fun e w' => e = .returned (.int .i64 (s.all : Int)) ∧ V = w' := by
  obtain ⟨G, h, hS⟩ := h
  exact I.all h.rep
/-- The blocks beside it that are no longer asked for. -/
theorem SV.less (h : SV R w p S s V) (hs : ∀ i, S' i → S i) : SV R w p S' s V := by
  obtain ⟨G, h, hS⟩ := h
  exact ⟨G, h, fun i hi => hS i (hs i hi)⟩
end
end Go.Proofs.Ytkjlmibjpfmfnaa.Sc

set_option linter.unusedVariables false
set_option linter.unusedSimpArgs false
namespace Go.Proofs.Ytkjlmibjpfmfnaa.Chk
open Go.ChangeShapes Go.WideShapes Go.ChangeAt Go.RowKit Go.Deep Go.Proofs.Ytkjlmibjpfmfnaa.Words Go.Proofs.Ytkjlmibjpfmfnaa.Oct Go.Proofs.Ytkjlmibjpfmfnaa.Par
abbrev TM : TypeId := 38
/-- The document's Cut in its loop: i pieces are cut. -/
structure RcSt (W1 V : World) (m : Msg) (M : Nat) (inter : Bool) (B i at_ k : Nat) (v : Value) : Prop where
  at_ : at_ = i * M
  le : i ≤ np m.body.length M
  k : k = i
  own : OwnCks V B v (cutN m M inter i)
  bel : Below W1.heap.size W1 V
end Go.Proofs.Ytkjlmibjpfmfnaa.Chk

set_option linter.unusedVariables false
set_option linter.unusedSimpArgs false
namespace Go.Proofs.Ytkjlmibjpfmfnaa.Chk
open Go.ChangeShapes Go.WideShapes Go.ChangeAt Go.RowKit Go.Deep Go.Proofs.Ytkjlmibjpfmfnaa.Words Go.Proofs.Ytkjlmibjpfmfnaa.Oct Go.Proofs.Ytkjlmibjpfmfnaa.Par
def CutC : Prop := ∀ {w : World} {A : Option Addr} {n c : Nat} {m : Msg} {most : Int} {inter : Bool}, m.ok → n = m.body.length → n ≤ c → c ≤ 9223372036854775807 → Byt w w.heap.size A m.body → (-9223372036854775808 ≤ most ∧ most ≤ 9223372036854775807) →
  Calls Try.prog 55 #[.agg (mCells m (.slice A n c)), .int .i64 most, .bool inter] w (CutDone w m most inter)
def RoomC : Prop := ∀ (w : World) (b : Bool), Calls Try.prog 29 #[.bool b] w fun e w' => e = .returned (.int .i64 (roomF b : Int)) ∧ w = w'
theorem msg_info : (Try.prog.info? 38).map (·.size) = some 5 := by kernel_rfl
theorem exec_load_any {P : Program} {ρ : Operand → Value} {o : Oper} {ty : TypeId} {x : Operand} {ad : Addr} {cs : Array Value} {d : TypeDesc} {w : World} (ho : o.op = .load ty x) (hx : ρ x = .pointer (some ad)) (hc : ∀ j v, cs[j]? = some v → w.cell? (ad.add j) = some v)
    (hu : P.underlying ty = some d) (hd : d.isRow = true) (hi : (P.info? ty).map (·.size) = some cs.size) : (execOp ρ o).run P w = .ok (.value (.agg cs)) w := by
  unfold execOp
  simp only [ho, hx, Instr.loadAt, Instr.sureAddr, Sem.run_bind, Sem.run_pure, Result.andThen_ok, run_loadVar_any w ad ty cs d hc hu hd hi]
/-- A row of chunks of a call's own, cell by cell. -/
theorem OwnCks.cells {w : World} {B n c : Nat} {A : Option Addr} {ls : List Ck} (h : OwnCks w B (.slice A n c) ls) (hn : 0 < ls.length) :
    ∃ g, A = some ⟨g, 0, none⟩ ∧ B ≤ g ∧ g < w.heap.size ∧ ∀ k c, ls[k]? = some c → ∃ cs : Array Value, CkAt w w.heap.size cs c ∧ ∀ j u, cs[j]? = some u → w.cell? ⟨g, k * 19 + j, none⟩ = some u := by
  obtain ⟨xs, h1, h2⟩ := h
  obtain ⟨g, cap, hv, hg1, hg2⟩ := h1.form (by omega)
  injection hv with hv _ _
  subst hv
  refine ⟨g, rfl, hg1, hg2, fun k c hk => ?_⟩
  obtain ⟨h3, cs, h4, h5⟩ := h2 k c hk
  exact ⟨cs, h5.at_ h3, fun j u hu => by
    have h6 := h1.cells (g := g) rfl _ _ (h4 j u hu)
    have e : (⟨g, 0, none⟩ : Addr).add (k * 19 + j) = ⟨g, k * 19 + j, none⟩ := by
      by_cases h0 : k * 19 + j = 0
      · rw [h0]; rfl
      · unfold Addr.add; simp; omega
    rw [← e]
    exact h6⟩
end Go.Proofs.Ytkjlmibjpfmfnaa.Chk

set_option linter.unusedVariables false
set_option linter.unusedSimpArgs false
namespace Go.Proofs.Ytkjlmibjpfmfnaa.Fl
open Go.ChangeShapes Go.WideShapes Go.ChangeAt Go.RowKit Go.Deep Go.Proofs.Ytkjlmibjpfmfnaa.Words Go.Proofs.Ytkjlmibjpfmfnaa.Oct Go.Proofs.Ytkjlmibjpfmfnaa.Par Go.Proofs.Ytkjlmibjpfmfnaa.Chk
theorem below_one (w : World) (o : Obj) : Below w.heap.size w (w.alloc o) := (Below.refl _ _).alloc (Nat.le_refl _) _
theorem wp_alloc_run {P : Program} (w : World) {o : Oper} {a : Act} {K : Act → World → Prop} {Q : Exit → Act → World → Prop} (t : TypeId) (ho : o.op = .alloc t) {v' : Value} {w' : World}
    (hr : (Instr.alloc t true (.tuple #[])).run P w = .ok v' w') (h : K (a.put o.dst v') w') : o.wp P a w K Q := by
  unfold Oper.wp execOp
  simp only [ho, Sem.run_bind, Sem.run_pure, Result.andThen_ok, hr]
  exact h
theorem wpList_alloc_run {P : Program} (w : World) {ops : Array Oper} {rest : List Oper} {o : Oper} {a : Act} {Q : Exit → Act → World → Prop} (hgd : o.guard = none) (t : TypeId) (ho : o.op = .alloc t) {v' : Value} {w' : World}
    (hr : (Instr.alloc t true (.tuple #[])).run P w = .ok v' w') (h : wpList P ops Q rest (a.put o.dst v') w') : wpList P ops Q (o :: rest) a w :=
  wpList_plain hgd fun _ hK => wp_alloc_run w t ho hr (hK _ _ h)
theorem run_alloc_agg {P : Program} {t : TypeId} {cs : Array Value} {n : Nat} (h : (P.info? t).map (fun i => (i.zero, i.size)) = some (some (.agg cs), n)) (w : World) :
    (Instr.alloc t true (.tuple #[])).run P w = .ok (.pointer (some ⟨w.heap.size, 0, none⟩)) (w.alloc (.cells cs t)) := by
  cases hq : P.info? t with
  | none => simp [hq] at h
  | some i =>
    have hz : (zeroValue t).run P w = .ok (.agg cs) w := by
      simp [hq] at h
      simp [zeroValue, typeInfo, hq, h.1]
    simp [Instr.alloc, hz, newVar, newRow, Value.cells]
abbrev zkA : Array Value := ckArr (zeroC 0) nilV nilV nilV nilV nilV
theorem info_zk : (Try.prog.info? 51).map (fun i => (i.zero, i.size)) = some (some (.agg zkA), 19) := by kernel_rfl
theorem alloc_zk (w : World) : (Instr.alloc 51 true (.tuple #[])).run Try.prog w = .ok (.pointer (some ⟨w.heap.size, 0, none⟩)) (w.alloc (.cells zkA 51)) := run_alloc_agg info_zk w
theorem blk_below {w w' : World} {g : Nat} {t : TypeId} {cs : Array Value} (h : Blk w g t cs) (hb : Below w.heap.size w w') : Blk w' g t cs := (hb.block g h.lt).trans h
end Go.Proofs.Ytkjlmibjpfmfnaa.Fl

set_option linter.unusedVariables false
set_option linter.unusedSimpArgs false
namespace Go.Proofs.Ytkjlmibjpfmfnaa.Sc
open Go.ChangeShapes Go.WideShapes Go.ChangeAt Go.RowKit Go.Deep Go.Proofs.Ytkjlmibjpfmfnaa.Words Go.Proofs.Ytkjlmibjpfmfnaa.Oct Go.Proofs.Ytkjlmibjpfmfnaa.Par Go.Proofs.Ytkjlmibjpfmfnaa.Chk
theorem byt_up {w : World} {B B' : Nat} {A : Option Addr} {l : List UInt8} (h : Byt w B A l) (hB : B ≤ B') : Byt w B' A l := ⟨h.1, fun hn => by
  obtain ⟨ad, e, hb, hc⟩ := h.2 hn
  exact ⟨ad, e, Nat.lt_of_lt_of_le hb hB, hc⟩⟩
/-- A variable of the call's own that holds a piece, and the piece's bytes, among the blocks S. -/
def VarK (V : World) (S : Nat → Prop) (g : Nat) (c : Ck) : Prop :=
  S g ∧ ∃ (gv dv sv pv : Value) (A : Option Addr) (cp : Nat), CkBlk V g (ckArr c gv dv sv pv (.slice A c.body.length cp)) ∧ c.body.length ≤ cp ∧ cp ≤ 9223372036854775807 ∧ Byt V V.heap.size A c.body ∧ ∀ ad, A = some ad → S ad.block
section
variable {R : Mem} {w V V' : World} {S S' : Nat → Prop} {g p : Nat} {c : Ck} {s : QS}
theorem VarK.keep (h : VarK V S g c) (k : Kp S V V') : VarK V' S g c := by
  obtain ⟨h1, gv, dv, sv, pv, A, cp, h2, h3, h4, h5, h6⟩ := h
  exact ⟨h1, gv, dv, sv, pv, A, cp, k.blk h2 (fun hx => hx h1), h3, h4, byt_up (k.byt h5 (Nat.le_refl _) (fun ad e hx => hx (h6 ad e))) k.size, h6⟩
theorem VarK.mono (h : VarK V S g c) (k : ∀ i, S i → S' i) : VarK V S' g c := by
  obtain ⟨h1, gv, dv, sv, pv, A, cp, h2, h3, h4, h5, h6⟩ := h
  exact ⟨k _ h1, gv, dv, sv, pv, A, cp, h2, h3, h4, h5, fun ad e => k _ (h6 ad e)⟩
theorem SV.si (h : SV R w p S s V) : ∀ i, S i → i < V.heap.size := by obtain ⟨G, _, hS⟩ := h; exact fun i hi => (hS i hi).1
/-- A field of it, and its bytes. -/
theorem VarK.body (h : VarK V S g c) : ∃ (A : Option Addr) (cp : Nat), V.cell? ⟨g, 18, none⟩ = some (.slice A c.body.length cp) ∧ c.body.length ≤ cp ∧ cp ≤ 9223372036854775807 ∧ Byt V V.heap.size A c.body := by
  obtain ⟨h1, gv, dv, sv, pv, A, cp, h2, h3, h4, h5, h6⟩ := h
  exact ⟨A, cp, Blk.cell h2 _, h3, h4, h5⟩
theorem VarK.fields (h : VarK V S g c) : V.cell? ⟨g, 1, none⟩ = some (.bool c.bg) ∧ V.cell? ⟨g, 2, none⟩ = some (.bool c.en) ∧ V.cell? ⟨g, 3, none⟩ = some (.bool c.lo) := by
  obtain ⟨h1, gv, dv, sv, pv, A, cp, h2, h3, h4, h5, h6⟩ := h
  exact ⟨Blk.cell h2 _, Blk.cell h2 _, Blk.cell h2 _⟩
/-- A piece that Next has handed out is laid into a variable. -/
theorem VarK.made (I : ScI R) {B : Nat} {cs : Array Value} (ho : CkOwn V B cs c) (h : SV R w p (fun i => S i ∨ (i < V.heap.size ∧ ∃ (ad : Addr) (n cp : Nat), cs[18]? = some (.slice (some ad) n cp) ∧ ad.block = i)) s V) (hb : Below V.heap.size V V') (hk : CkBlk V' g cs) (hg : V.heap.size ≤ g) :
    ∃ S', VarK V' S' g c ∧ SV R w p S' s V' ∧ (∀ i, S i → S' i) ∧ Kp S V V' := by
  obtain ⟨gv, dv, sv, pv, bv, rfl, h1, h2, h3, h4, h5⟩ := ho
  obtain ⟨A, cp, rfl, h6, h7⟩ := own_slice h5
  have hy : Byt V' V'.heap.size A c.body := byt_up ((Fr.of_below hb).byt h5.byt (Nat.le_refl _) (fun ad e hx => by
    have := h5.lt ad.block (by rw [e]; rfl)
    omega)) hb.size
  refine ⟨fun i => (S i ∨ (i < V.heap.size ∧ ∃ (ad : Addr) (n cp' : Nat), (ckArr c gv dv sv pv (.slice A c.body.length cp))[18]? = some (.slice (some ad) n cp') ∧ ad.block = i)) ∨ i = g, ⟨.inr rfl, gv, dv, sv, pv, A, cp, hk, h6, h7, hy, fun ad e => .inl (.inr ⟨?_, ad, _, cp, by rw [e]; rfl, rfl⟩)⟩, h.more I hb (fun i hi => ?_), fun i hi => .inl (.inl hi), kp_below (fun i hi => h.si i (.inl hi)) hb⟩
  · exact (h5.lt ad.block (by rw [e]; rfl)).2
  · rcases hi with hi | rfl
    · exact .inl hi
    · exact .inr ⟨hg, hk.lt⟩
end
/-- Two variables, one for a piece and one for its limit, as they lie behind the stores. -/
abbrev limZ : Array Value := #[.int .i64 0, .int .u32 0]
abbrev limA (lk : Int) (ln : Nat) : Array Value := #[.int .i64 lk, .int .u32 (ln : Int)]
def VarsW (w : World) (ka la : Array Value) : World := (((w.alloc (.cells Go.Proofs.Ytkjlmibjpfmfnaa.Fl.zkA 51)).alloc (.cells limZ 34)).setRow w.heap.size ka).setRow (w.heap.size + 1) la
theorem lim_info (lk : Int) (ln : Nat) : (Try.prog.info? 34).map (·.size) = some (limA lk ln).size := by kernel_rfl
theorem lim_one (lk : Int) (ln : Nat) : (limA lk ln).all (·.oneCell') = true := by simp [limA, Value.oneCell']
theorem blk_ck (w : World) : Blk ((w.alloc (.cells Go.Proofs.Ytkjlmibjpfmfnaa.Fl.zkA 51)).alloc (.cells limZ 34)) w.heap.size 51 Go.Proofs.Ytkjlmibjpfmfnaa.Fl.zkA := Go.Proofs.Ytkjlmibjpfmfnaa.Fl.blk_below (Blk.new _ _ _) (Go.Proofs.Ytkjlmibjpfmfnaa.Fl.below_one _ _)
theorem blk_lim (w : World) (ka : Array Value) : Blk (((w.alloc (.cells Go.Proofs.Ytkjlmibjpfmfnaa.Fl.zkA 51)).alloc (.cells limZ 34)).setRow w.heap.size ka) (w.heap.size + 1) 34 limZ := by
  unfold Blk
  rw [setRow_other _ _ _ _ (by omega)]
  have := Blk.new (w.alloc (.cells Go.Proofs.Ytkjlmibjpfmfnaa.Fl.zkA 51)) 34 limZ
  rwa [show (w.alloc (.cells Go.Proofs.Ytkjlmibjpfmfnaa.Fl.zkA 51)).heap.size = w.heap.size + 1 from World.size_alloc _ _] at this
theorem vars_below (w : World) (ka la : Array Value) : Below w.heap.size w (VarsW w ka la) :=
  below_setRow (below_setRow (((Below.refl _ w).alloc (Nat.le_refl _) _).alloc (by rw [World.size_alloc]; omega) _) (Nat.le_refl _) _) (by omega) _
theorem vars_ck (w : World) (ka la : Array Value) : CkBlk (VarsW w ka la) w.heap.size ka := by
  show (VarsW w ka la).heap[w.heap.size]? = _
  unfold VarsW
  rw [setRow_other _ _ _ _ (by omega)]
  exact setRow_heap _ _ _ _ _ _ (blk_ck w)
theorem own_one {V : World} {B : Nat} {ka : Array Value} {c : Ck} (h : CkOwn V B ka c) : ka.all (·.oneCell') = true := by
  obtain ⟨gv, dv, sv, pv, bv, rfl, h1, h2, h3, ⟨_, h4, _⟩, h5⟩ := h
  obtain ⟨_, _, rfl, _⟩ := own_slice h1
  obtain ⟨_, _, rfl, _⟩ := own_slice h2
  obtain ⟨_, _, rfl, _⟩ := own_slice h3
  obtain ⟨_, _, rfl, _⟩ := own_slice h4
  obtain ⟨_, _, rfl, _⟩ := own_slice h5
  simp [ckArr, Value.oneCell']
theorem own_info {V : World} {B : Nat} {ka : Array Value} {c : Ck} (h : CkOwn V B ka c) : (Try.prog.info? 51).map (·.size) = some ka.size ∧ Go.Proofs.Ytkjlmibjpfmfnaa.Fl.zkA.size = ka.size := by
  rw [h.size]
  exact ⟨chunk_info, rfl⟩
def ma : Msg := ⟨1, false, 0, 0, [97, 98, 99, 100]⟩
def mb : Msg := ⟨2, false, 0, 0, [120, 121]⟩
def mz : Msg := ⟨0, false, 0, 0, []⟩
theorem ma_ok : ma.ok := ⟨by decide, by decide, by decide⟩
theorem mb_ok : mb.ok := ⟨by decide, by decide, by decide⟩
theorem mz_ok : mz.ok := ⟨by decide, by decide, by decide⟩
def it0 : It := ⟨0, 0, 0, mz, false, 0⟩
/-- What is handed out, where something is. -/
def outN (s : QS) (most : Nat) : Ck × It × QS := match s.next most with
  | some x => x
  | none => (zeroC 0, it0, s)
def sa : QS := (q0 true).push 1 0 0 ma
def sb : QS := sa.push 2 0 0 mb
def sc : QS := (outN sb 2).2.2
def sd : QS := (outN sc 2).2.2
def se : QS := (outN sd 2).2.2
theorem hot_f : (q0 true).Hot ∧ sa.Hot ∧ sb.Hot ∧ sc.Hot ∧ sd.Hot ∧ se.Hot := by
  have h1 : sa.t = 1 := by kernel_rfl
  have h2 : sb.t = 2 := by kernel_rfl
  have h3 : sc.t = 3 := by kernel_rfl
  have h4 : sd.t = 4 := by kernel_rfl
  have h5 : se.t = 5 := by kernel_rfl
  unfold QS.Hot
  rw [h1, h2, h3, h4, h5]
  exact ⟨by decide, by decide, by decide, by decide, by decide, by decide⟩
theorem na : sb.next 2 = some ((outN sb 2).1, (outN sb 2).2.1, sc) := by kernel_rfl
theorem nb : sc.next 2 = some ((outN sc 2).1, (outN sc 2).2.1, sd) := by kernel_rfl
theorem nc : sd.next 2 = some ((outN sd 2).1, (outN sd 2).2.1, se) := by kernel_rfl
theorem ea : (outN sb 2).1.body = [97, 98] ∧ (outN sb 2).2.1.id = 1 := ⟨by kernel_rfl, by kernel_rfl⟩
theorem eb : (outN sc 2).1.body = [120, 121] ∧ (outN sc 2).2.1.id = 2 := ⟨by kernel_rfl, by kernel_rfl⟩
theorem ec : (outN sd 2).1.body = [99, 100] ∧ (outN sd 2).1.en = true := ⟨by kernel_rfl, by kernel_rfl⟩
theorem may_a : sb.may 2 = true ∧ sc.may 2 = true ∧ sd.may 2 = true ∧ se.may 2 = false := ⟨by kernel_rfl, by kernel_rfl, by kernel_rfl, by kernel_rfl⟩
theorem end_s : se.all = 0 ∧ se.pushE mz = 42 := ⟨by kernel_rfl, by kernel_rfl⟩
theorem push_e : (q0 true).pushE ma = 0 ∧ sa.pushE mb = 0 := ⟨by kernel_rfl, by kernel_rfl⟩
set_option maxHeartbeats 8000000 in
set_option maxRecDepth 100000 in
theorem first_s {R : Mem} (I : ScI R) (w : World) : Calls Try.prog 8 #[] w fun e w' => e = .returned (.bool true) ∧ Below w.heap.size w w' := by
  have kc := fun (w : World) (C : Array Value) (n c : Nat) => Lib.run_convert_bytes_const (P := Try.prog) w 36 5 C n c Try.underlying36 Try.underlying5
  go_enter Try.func8, Try.ntmps8
  go_wp2_with fail
  refine (SV.new I (S := fun _ => False) w w (Below.refl _ _) (fun i h => h.elim) true).mono ?_
  rintro e W1 ⟨p, rfl, H1, -⟩
  go_wp2_with fail
  obtain ⟨o1, ho1⟩ : ∃ o1, o1 = Obj.cells #[.int .u8 97, .int .u8 98, .int .u8 99, .int .u8 100] 5 (4, 5) := ⟨_, rfl⟩
  have hy1 : Byt (W1.alloc o1) (W1.alloc o1).heap.size (some ⟨W1.heap.size, 0, none⟩) ma.body := by
    rw [ho1]
    exact byt_of_heap (heap_alloc_new W1 _) (by simp) rfl
  rw [← ho1]
  refine ((H1.out.grows I (Go.Proofs.Ytkjlmibjpfmfnaa.Fl.below_one W1 o1)).push I (n := 4) (cp := 4) (m := ma) (id := 1) (lk := 0) (ln := 0) hot_f.1 (by decide) (by decide) (by decide) ma_ok rfl (by omega) (by omega) hy1).mono ?_
  rintro e W2 ⟨rfl, H2, -⟩
  rw [push_e.1]
  clear hy1 ho1 o1 H1
  go_wp2_with fail
  obtain ⟨o1, ho1⟩ : ∃ o1, o1 = Obj.cells #[.int .u8 120, .int .u8 121] 5 (2, 3) := ⟨_, rfl⟩
  have hy1 : Byt (W2.alloc o1) (W2.alloc o1).heap.size (some ⟨W2.heap.size, 0, none⟩) mb.body := by
    rw [ho1]
    exact byt_of_heap (heap_alloc_new W2 _) (by simp) rfl
  rw [← ho1]
  refine ((H2.out.grows I (Go.Proofs.Ytkjlmibjpfmfnaa.Fl.below_one W2 o1)).push I (n := 2) (cp := 2) (m := mb) (id := 2) (lk := 0) (ln := 0) hot_f.2.1 (by decide) (by decide) (by decide) mb_ok rfl (by omega) (by omega) hy1).mono ?_
  rintro e W3 ⟨rfl, H3', -⟩
  have e2 : ((q0 true).push 1 0 0 ma).pushE mb = 0 := push_e.2
  rw [e2]
  have H3 : Hid (SV R w p (fun _ => False) sb W3) := H3'
  clear hy1 ho1 o1 H2 H3' e2
  go_wp2_with fail
  refine (H3.out.next I (most := 2) hot_f.2.2.1 (by decide) may_a.1 na).mono ?_
  rintro e W4 ⟨ka, rfl, hka, H4, K1⟩
  rw [ea.2]
  have HS := Lib.hid (own_info hka.out)
  have HKO := Lib.hid (own_one hka.out)
  clear H3 K1 
  go_upto_region 5 with (first
    | (with_reducible refine Go.Proofs.Ytkjlmibjpfmfnaa.Fl.wpList_alloc_run _ rfl 51 rfl (Go.Proofs.Ytkjlmibjpfmfnaa.Fl.alloc_zk _) ?_)
    | (refine wpList_store_row rfl 51 _ _ rfl _ ka rfl rfl 51 Go.Proofs.Ytkjlmibjpfmfnaa.Fl.zkA (blk_ck _) HS.out.1 HS.out.2 HKO.out ?_)
    | (refine wpList_store_row rfl 34 _ _ rfl _ (limA _ _) rfl rfl 34 limZ (blk_lim _ _) (lim_info _ _) rfl (lim_one _ _) ?_))
  obtain ⟨W5, hW⟩ : ∃ W5, W5 = VarsW W4 ka (limA (outN sb 2).2.1.lk (outN sb 2).2.1.ln) := ⟨_, rfl⟩
  obtain ⟨ga, hg⟩ : ∃ ga, ga = W4.heap.size := ⟨_, rfl⟩
  obtain ⟨Sa, hX, hH, hs, hk⟩ : ∃ S', VarK W5 S' ga (outN sb 2).1 ∧ SV R w p S' sc W5 ∧ (∀ i, (fun _ => False) i → S' i) ∧ Kp (fun _ => False) W4 W5 := by
    rw [hW, hg]
    exact VarK.made I hka.out H4.out (vars_below _ _ _) (vars_ck _ _ _) (Nat.le_refl _)
  have XA := Lib.hid hX
  have H5 := Lib.hid hH
  unfold VarsW at hW
  rw [← hW, ← hg]
  clear hW hg hX hH hs hk hka HS HKO H4 
  go_wp2_with fail
  refine (H5.out.next I (most := 2) hot_f.2.2.2.1 (by decide) may_a.2.1 nb).mono ?_
  rintro e W6 ⟨kb, rfl, hka, H6, K1⟩
  rw [eb.2]
  have HS := Lib.hid (own_info hka.out)
  have HKO := Lib.hid (own_one hka.out)
  have XA' := Lib.hid (XA.out.keep K1.out)
  clear H5 K1 XA
  go_upto_region 6 with (first
    | (with_reducible refine Go.Proofs.Ytkjlmibjpfmfnaa.Fl.wpList_alloc_run _ rfl 51 rfl (Go.Proofs.Ytkjlmibjpfmfnaa.Fl.alloc_zk _) ?_)
    | (refine wpList_store_row rfl 51 _ _ rfl _ kb rfl rfl 51 Go.Proofs.Ytkjlmibjpfmfnaa.Fl.zkA (blk_ck _) HS.out.1 HS.out.2 HKO.out ?_)
    | (refine wpList_store_row rfl 34 _ _ rfl _ (limA _ _) rfl rfl 34 limZ (blk_lim _ _) (lim_info _ _) rfl (lim_one _ _) ?_))
  obtain ⟨W7, hW⟩ : ∃ W7, W7 = VarsW W6 kb (limA (outN sc 2).2.1.lk (outN sc 2).2.1.ln) := ⟨_, rfl⟩
  obtain ⟨gb, hg⟩ : ∃ gb, gb = W6.heap.size := ⟨_, rfl⟩
  obtain ⟨Sb, hX, hH, hs, hk⟩ : ∃ S', VarK W7 S' gb (outN sc 2).1 ∧ SV R w p S' sd W7 ∧ (∀ i, Sa i → S' i) ∧ Kp Sa W6 W7 := by
    rw [hW, hg]
    exact VarK.made I hka.out H6.out (vars_below _ _ _) (vars_ck _ _ _) (Nat.le_refl _)
  have XB := Lib.hid hX
  have H7 := Lib.hid hH
  have XA := Lib.hid ((XA'.out.keep hk).mono hs)
  unfold VarsW at hW
  rw [← hW, ← hg]
  clear hW hg hX hH hs hk hka HS HKO H6 XA'
  go_wp2_with fail
  refine (H7.out.next I (most := 2) hot_f.2.2.2.2.1 (by decide) may_a.2.2.1 nc).mono ?_
  rintro e W8 ⟨kd, rfl, hka, H8, K1⟩
  have HS := Lib.hid (own_info hka.out)
  have HKO := Lib.hid (own_one hka.out)
  have XA' := Lib.hid (XA.out.keep K1.out)
  have XB' := Lib.hid (XB.out.keep K1.out)
  clear H7 K1 XA XB
  go_upto_region 7 with (first
    | (with_reducible refine Go.Proofs.Ytkjlmibjpfmfnaa.Fl.wpList_alloc_run _ rfl 51 rfl (Go.Proofs.Ytkjlmibjpfmfnaa.Fl.alloc_zk _) ?_)
    | (refine wpList_store_row rfl 51 _ _ rfl _ kd rfl rfl 51 Go.Proofs.Ytkjlmibjpfmfnaa.Fl.zkA (blk_ck _) HS.out.1 HS.out.2 HKO.out ?_)
    | (refine wpList_store_row rfl 34 _ _ rfl _ (limA _ _) rfl rfl 34 limZ (blk_lim _ _) (lim_info _ _) rfl (lim_one _ _) ?_))
  obtain ⟨W9, hW⟩ : ∃ W9, W9 = VarsW W8 kd (limA (outN sd 2).2.1.lk (outN sd 2).2.1.ln) := ⟨_, rfl⟩
  obtain ⟨gc, hg⟩ : ∃ gc, gc = W8.heap.size := ⟨_, rfl⟩
  obtain ⟨Sc, hX, hH, hs, hk⟩ : ∃ S', VarK W9 S' gc (outN sd 2).1 ∧ SV R w p S' se W9 ∧ (∀ i, Sb i → S' i) ∧ Kp Sb W8 W9 := by
    rw [hW, hg]
    exact VarK.made I hka.out H8.out (vars_below _ _ _) (vars_ck _ _ _) (Nat.le_refl _)
  have XC := Lib.hid hX
  have H9 := Lib.hid hH
  have XA := Lib.hid ((XA'.out.keep hk).mono hs)
  have XB := Lib.hid ((XB'.out.keep hk).mono hs)
  unfold VarsW at hW
  rw [← hW, ← hg]
  clear hW hg hX hH hs hk hka HS HKO H8 XA' XB'
  go_wp2_with fail
  refine (H9.out.idle I (most := 2) (by decide) may_a.2.2.2).mono ?_
  rintro e W10 ⟨rfl, H10, K1⟩
  have XA' := Lib.hid (XA.out.keep K1.out)
  have XB' := Lib.hid (XB.out.keep K1.out)
  have XC' := Lib.hid (XC.out.keep K1.out)
  clear H9 K1 XA XB XC
  have HS : Hid ((Try.prog.info? 51).map (·.size) = some zArr.size ∧ Go.Proofs.Ytkjlmibjpfmfnaa.Fl.zkA.size = zArr.size) := ⟨chunk_info, rfl⟩
  have HKO : Hid (zArr.all (·.oneCell') = true) := (by simp [zArr, ckArr, Value.oneCell'] : zArr.all (·.oneCell') = true)
  obtain ⟨kz, hkz⟩ : ∃ kz, kz = zArr := ⟨_, rfl⟩
  rw [← hkz] at HS HKO ⊢
  clear hkz
  set_option pp.deepTerms true in
  set_option pp.maxSteps 200000 in
  go_upto_region 8 with (first
    | (with_reducible refine Go.Proofs.Ytkjlmibjpfmfnaa.Fl.wpList_alloc_run _ rfl 51 rfl (Go.Proofs.Ytkjlmibjpfmfnaa.Fl.alloc_zk _) ?_)
    | (refine wpList_store_row rfl 51 _ _ rfl _ kz rfl rfl 51 Go.Proofs.Ytkjlmibjpfmfnaa.Fl.zkA (blk_ck _) HS.out.1 HS.out.2 HKO.out ?_)
    | (refine wpList_store_row rfl 34 _ _ rfl _ (limA 0 0) rfl rfl 34 limZ (blk_lim _ _) (lim_info _ _) rfl (lim_one _ _) ?_)
    | (refine wpList_store_row rfl 51 _ _ rfl _ zArr rfl rfl 51 Go.Proofs.Ytkjlmibjpfmfnaa.Fl.zkA (blk_ck _) chunk_info rfl (by simp [zArr, ckArr, Value.oneCell']) ?_))
  obtain ⟨W11, hW⟩ : ∃ W11, W11 = VarsW W10 kz (limA 0 0) := ⟨_, rfl⟩
  have hb := vars_below W10 kz (limA 0 0)
  rw [← hW] at hb
  have H11 := Lib.hid (H10.out.grows I hb)
  have k11 := kp_below H10.out.si hb
  have XA := Lib.hid (XA'.out.keep k11)
  have XB := Lib.hid (XB'.out.keep k11)
  have XC := Lib.hid (XC'.out.keep k11)
  unfold VarsW at hW
  rw [← hW]
  clear hW hb k11 XA' XB' XC' H10 HS HKO
  obtain ⟨A1, c1, x1, -, -, y1⟩ := XA.out.body
  obtain ⟨A2, c2, x2, -, -, y2⟩ := XB.out.body
  obtain ⟨A3, c3, x3, -, -, y3⟩ := XC.out.body
  have x4 := XC.out.fields.2.1
  rw [ea.1] at x1 y1
  rw [eb.1] at x2 y2
  rw [ec.1] at x3 y3
  rw [ec.2] at x4
  have x1' : W11.cell? ⟨ga, 18, none⟩ = some (.slice A1 2 c1) := x1
  have x2' : W11.cell? ⟨gb, 18, none⟩ = some (.slice A2 2 c2) := x2
  have x3' : W11.cell? ⟨gc, 18, none⟩ = some (.slice A3 2 c3) := x3
  have st1 := run_str (P := Try.prog) y1 36 9 5 Try.underlying36 Try.underlying5 Try.underlying9 2 c1 rfl
  have st2 := run_str (P := Try.prog) y2 36 9 5 Try.underlying36 Try.underlying5 Try.underlying9 2 c2 rfl
  have st3 := run_str (P := Try.prog) y3 36 9 5 Try.underlying36 Try.underlying5 Try.underlying9 2 c3 rfl
  rw [show (⟨([97, 98] : List UInt8).toArray⟩ : ByteArray) = ⟨#[97, 98]⟩ from rfl] at st1
  rw [show (⟨([120, 121] : List UInt8).toArray⟩ : ByteArray) = ⟨#[120, 121]⟩ from rfl] at st2
  rw [show (⟨([99, 100] : List UInt8).toArray⟩ : ByteArray) = ⟨#[99, 100]⟩ from rfl] at st3
  clear x1 x2 x3 y1 y2 y3 XA XB XC
  go_wp2_with fail
  refine (H11.out.all I).mono ?_
  rintro e W12 ⟨rfl, rfl⟩
  rw [end_s.1]
  go_wp2_with fail
  refine (H11.out.push I (A := none) (n := 0) (cp := 0) (m := mz) (id := 1) (lk := 0) (ln := 0) hot_f.2.2.2.2.2 (by decide) (by decide) (by decide) mz_ok rfl (by omega) (by omega) ⟨by simp [u8s, mz], fun h => absurd h (by simp [mz])⟩).mono ?_
  rintro e W13 ⟨rfl, H13, -⟩
  rw [end_s.2]
  go_wp2_with fail
  go_ret
  exact ⟨rfl, H13.out.bel⟩
end Go.Proofs.Ytkjlmibjpfmfnaa.Sc
