/-
  Of the texts ChPlain, ChWays, Open, Sees, Bytes, OctText, ParRef, Oct, OctE, ChMem, ParPut, ParLaw, Region: what the laws reach.
-/
import Derived.Test.YtioddokjogbmnaaP3
import Derived.OpenShut
import Derived.Deep.Slices
import Derived.Deep.CutBlock
import Derived.Lib.AppendZerosOnto
import Derived.Lib.SlBytesConst

set_option linter.unusedVariables false
set_option linter.unusedSimpArgs false
namespace Go.Proofs.Ytioddokjogbmnaa.Chk
open Go.RowKit Go.Proofs.Ytioddokjogbmnaa.Words Go.Proofs.Ytioddokjogbmnaa.Oct Go.Proofs.Ytioddokjogbmnaa.Par
/-- A gap: from, to. What is skipped: the stream, unordered or not, the message's number. -/
abbrev Gp := Nat × Nat
abbrev Skp := Nat × Bool × Nat
structure Ck where
  kind : Nat
  bg : Bool
  en : Bool
  lo : Bool
  ba : Bool
  tsn : Nat
  st : Nat
  mid : Nat
  pp : Nat
  fr : Nat
  tag : Nat
  win : Nat
  out : Nat
  inn : Nat
  gaps : List Gp
  dups : List Nat
  skips : List Skp
  ps : List Prm
  body : List UInt8
structure Ck.ok (c : Ck) : Prop where
  kind : c.kind < 256
  tsn : c.tsn < 4294967296
  st : c.st < 65536
  mid : c.mid < 4294967296
  pp : c.pp < 4294967296
  fr : c.fr < 4294967296
  tag : c.tag < 4294967296
  win : c.win < 4294967296
  out : c.out < 65536
  inn : c.inn < 65536
  gaps : ∀ g ∈ c.gaps, g.1 < 65536 ∧ g.2 < 65536
  dups : ∀ d ∈ c.dups, d < 4294967296
  skips : ∀ s ∈ c.skips, s.1 < 65536 ∧ s.2.2 < 4294967296
  ps : ∀ p ∈ c.ps, p.1 < 65536
def known (k : Nat) : Bool := decide (k ≤ 11) || (k == 14 || (k == 64 || (k == 130 || (k == 192 || k == 194))))
def hasBody (k : Nat) : Bool := k == 0 || k == 64
def hasPs (k : Nat) : Bool := k == 1 || (k == 2 || (k == 6 || (k == 9 || k == 130)))
def lacks (c : Ck) : Bool := hasBody c.kind && c.body.isEmpty
def gapE (g : Gp) : List UInt8 := be g.1 2 ++ be g.2 2
def dupE (d : Nat) : List UInt8 := be d 4
def skE (s : Skp) : List UInt8 := be s.1 2 ++ be (s.2.2 % 65536) 2
def loN (b : Bool) : Nat := if b then 1 else 0
def skW (s : Skp) : List UInt8 := be s.1 2 ++ (be 0 1 ++ (be (loN s.2.1) 1 ++ be s.2.2 4))
def gapsE (l : List Gp) : List UInt8 := (l.map gapE).flatten
def dupsE (l : List Nat) : List UInt8 := (l.map dupE).flatten
def sksE (l : List Skp) : List UInt8 := (l.map skE).flatten
def sksW (l : List Skp) : List UInt8 := (l.map skW).flatten
def fragE (c : Ck) : List UInt8 := be c.tsn 4 ++ (be c.st 2 ++ if c.kind = 0 then be (c.mid % 65536) 2 ++ be c.pp 4 else be 0 2 ++ (be c.mid 4 ++ be (if c.bg then c.pp else c.fr) 4))
def greetE (c : Ck) : List UInt8 := be c.tag 4 ++ (be c.win 4 ++ (be c.out 2 ++ (be c.inn 2 ++ be c.tsn 4)))
def sackE (c : Ck) : List UInt8 := be c.tsn 4 ++ (be c.win 4 ++ (be c.gaps.length 2 ++ (be c.dups.length 2 ++ (gapsE c.gaps ++ dupsE c.dups))))
/-- What stands behind a chunk's length. -/
def cont (c : Ck) : List UInt8 :=
  if hasBody c.kind then fragE c ++ c.body
  else if c.kind = 1 ∨ c.kind = 2 then greetE c ++ encL c.ps
  else if c.kind = 3 then sackE c
  else if c.kind = 4 ∨ c.kind = 5 ∨ c.kind = 10 then c.body
  else if hasPs c.kind then encL c.ps
  else if c.kind = 7 then be c.tsn 4
  else if c.kind = 192 then be c.tsn 4 ++ sksE c.skips
  else if c.kind = 194 then be c.tsn 4 ++ sksW c.skips
  else []
/-- Is it too long? -/
def tooLong (c : Ck) : Prop :=
  (c.kind = 3 ∧ (65535 < c.gaps.length ∨ 65535 < c.dups.length)) ∨ (hasPs c.kind = true ∧ ∃ p ∈ c.ps, 65531 < p.2.length) ∨ 65535 < (cont c).length + 4
def frame (k f : Nat) (x : List UInt8) : List UInt8 := be k 1 ++ (be f 1 ++ (be (x.length + 4) 2 ++ (x ++ List.replicate (padC x.length) 0)))
/-- Which chunks have bytes. -/
structure Puts (c : Ck) : Prop where
  known : known c.kind = true
  full : lacks c = false
  short : ¬ tooLong c
def sksN : Nat → List UInt8 → List Skp
  | 0, _ => []
  | n + 1, l => (num (l.take 2), false, num ((l.drop 2).take 2)) :: sksN n (l.drop 4)
def sksV : Nat → List UInt8 → List Skp
  | 0, _ => []
  | n + 1, l => (num (l.take 2), num ((l.drop 2).take 2) == 1, num ((l.drop 4).take 4)) :: sksV n (l.drop 8)
/-- Is each of the unordered ones' marks nought or one? -/
def sksOk : Nat → List UInt8 → Bool
  | 0, _ => true
  | n + 1, l => decide (num ((l.drop 2).take 2) ≤ 1) && sksOk n (l.drop 8)
def zeroC (k : Nat) : Ck := ⟨k, false, false, false, false, 0, 0, 0, 0, 0, 0, 0, 0, 0, [], [], [], [], []⟩
/-- A chunk without the fields that its kind hasn't. -/
def strip (c : Ck) : Ck :=
  if hasBody c.kind then { zeroC c.kind with bg := c.bg, en := c.en, lo := c.lo, tsn := c.tsn, st := c.st, mid := (if c.kind = 0 then c.mid % 65536 else c.mid), pp := (if c.kind = 64 ∧ c.bg = false then 0 else c.pp), fr := (if c.kind = 64 ∧ c.bg = false then c.fr else 0), body := c.body }
  else if c.kind = 1 ∨ c.kind = 2 then { zeroC c.kind with tag := c.tag, win := c.win, out := c.out, inn := c.inn, tsn := c.tsn, ps := c.ps }
  else if c.kind = 3 then { zeroC c.kind with tsn := c.tsn, win := c.win, gaps := c.gaps, dups := c.dups }
  else if c.kind = 4 ∨ c.kind = 5 ∨ c.kind = 10 then { zeroC c.kind with body := c.body }
  else if hasPs c.kind then (if c.kind = 6 then { zeroC c.kind with ba := c.ba, ps := c.ps } else { zeroC c.kind with ps := c.ps })
  else if c.kind = 7 then { zeroC c.kind with tsn := c.tsn }
  else if c.kind = 192 then { zeroC c.kind with tsn := c.tsn, skips := c.skips.map fun s => (s.1, false, s.2.2 % 65536) }
  else if c.kind = 194 then { zeroC c.kind with tsn := c.tsn, skips := c.skips }
  else if c.kind = 14 then { zeroC c.kind with ba := c.ba } else zeroC c.kind
end Go.Proofs.Ytioddokjogbmnaa.Chk

set_option linter.unusedVariables false
set_option linter.unusedSimpArgs false
namespace Go.Proofs.Ytioddokjogbmnaa.Chk
open Go.RowKit Go.Proofs.Ytioddokjogbmnaa.Words Go.Proofs.Ytioddokjogbmnaa.Oct Go.Proofs.Ytioddokjogbmnaa.Par
/-- What reading leaves alone. -/
structure Alike (c c' : Ck) : Prop where
  kind : c'.kind = c.kind
  bg : c'.bg = c.bg
  en : c'.en = c.en
  lo : c'.lo = c.lo
  ba : c'.ba = c.ba
section
variable {c : Ck} {x : List UInt8}
end
section
variable {c : Ck}
end
end Go.Proofs.Ytioddokjogbmnaa.Chk

set_option linter.unusedVariables false
set_option linter.unusedSimpArgs false
namespace Go.Proofs.Ytioddokjogbmnaa.Words
open Go.ChangeShapes Go.WideShapes Go.ChangeAt Go.RowKit
theorem okWide_array {P : Program} {W : World} {r : Reach} {b0 : Nat} {t e : TypeId} {n : Nat} {v : Value} (ht : P.underlying t = some (.array n e)) (hc : P.cellsOf t = n) (h : Value.okWide P W r b0 t v) :
    ∃ xs : Array Value, v = .agg xs ∧ xs.size = n := by
  simp only [Value.okWide, ht] at h
  obtain ⟨cs, h1, h2, _⟩ := h
  exact ⟨cs, h1, by rw [h2, hc]⟩
/-- An array of integers that came in. -/
theorem open_array {H : Type} {enc : TypeId × Value → H} {P : Program} {W : World} {base : Nat} {sp : Nat → Bool} {held : Bool} {t e : TypeId} {n : Nat} {k : IntKind} {xs : Array Value} {d : DataW H} {p : List MemPlace}
    (ht : P.underlying t = some (.array n e)) (he : P.underlying e = some (.int k)) (hce : P.cellsOf e = 1) (hs : xs.size = n) (h : DataW.Trod enc P W base sp held t (.agg xs) d p) :
    ∃ ns : List Int, xs = (ns.map (Value.int k)).toArray ∧ ns.length = n ∧ ∀ m ∈ ns, (Lit.int k m).wf = true := by
  obtain ⟨fuel, hf⟩ := h
  obtain ⟨ys, m, rfl, _, _, hl, hall⟩ := DataW.trod_array ht hf
  have hone : ∀ i (hi : i < n), ∃ a : Int, xs[i]'(by omega) = .int k a ∧ (Lit.int k a).wf = true := by
    intro i hi
    have h1 := hall i hi
    rw [hce, List.getElem?_eq_getElem (by omega)] at h1
    have hcs : ((Value.agg xs).cells.toList.drop (i * 1)).take 1 = [xs[i]'(by omega)] := by
      simp only [Value.cells, Nat.mul_one]
      rw [List.drop_eq_getElem_cons (by simpa using (by omega : i < xs.size))]
      simp
    rw [hcs] at h1
    obtain ⟨a, ea, _, wa⟩ := DataW.trod_int he h1
    simp at ea
    exact ⟨a, ea, wa⟩
  refine ⟨xs.toList.map intOf, ?_, by simp [hs], ?_⟩
  · apply Array.ext
    · simp
    · intro i h1 h2
      obtain ⟨a, ea, _⟩ := hone i (by omega)
      simp [ea, intOf]
  · intro x hx
    simp only [List.mem_map, Array.mem_toList_iff] at hx
    obtain ⟨v, hv, rfl⟩ := hx
    obtain ⟨i, hi, rfl⟩ := Array.mem_iff_getElem.1 hv
    obtain ⟨a, ea, wa⟩ := hone i (by omega)
    rw [ea]
    exact wa
end Go.Proofs.Ytioddokjogbmnaa.Words

set_option linter.unusedVariables false
set_option linter.unusedSimpArgs false
namespace Go.Proofs.Ytioddokjogbmnaa.Words
open Go.ChangeShapes Go.WideShapes Go.ChangeAt Go.RowKit Go.Deep
inductive Sh where
  | int (k : IntKind)
  | bool
  | str
  | slice (e : Sh)
  | arr (n : Nat) (e : Sh)
  | strct (s : Sh)
  | pair (a b : Sh)
  | nil
def Sh.size : Sh → Nat
  | .int _ => 1
  | .bool => 1
  | .str => 1
  | .slice _ => 1
  | .arr n e => n * e.size
  | .strct s => s.size
  | .pair a b => a.size + b.size
  | .nil => 0
/-- What the memory shows of cells of a shape. -/
def Sees (w : World) : Sh → List Value → Prop
  | .int k, cs => ∃ n, cs = [.int k n] ∧ (Lit.int k n).wf = true
  | .bool, cs => ∃ b, cs = [.bool b]
  | .str, cs => ∃ s, cs = [.string s] ∧ s.size ≤ maxLen
  | .slice e, cs => cs = [.slice none 0 0] ∨ ∃ a len cap, cs = [.slice (some a) len cap] ∧ len ≤ cap ∧ cap ≤ maxLen ∧
      ∀ i, i < cap → ∃ cs', cs'.length = e.size ∧ (∀ j u, cs'[j]? = some u → w.cell? (a.add (i * e.size + j)) = some u) ∧ Sees w e cs'
  | .arr n e, cs => cs.length = n * e.size ∧ ∀ i, i < n → Sees w e ((cs.drop (i * e.size)).take e.size)
  | .strct s, cs => Sees w s cs
  | .pair a b, cs => ∃ x y, cs = x ++ y ∧ x.length = a.size ∧ Sees w a x ∧ Sees w b y
  | .nil, cs => cs = []
def Sh.chain : Sh → Bool
  | .pair _ _ => true
  | .nil => true
  | _ => false
/-- Has a type this shape? (A chain of pairs: the fields from 'off' on.) -/
def fitsB (P : Program) : Sh → TypeId → Nat → List Field → Bool
  | .int k, t, _, _ => match P.underlying t with | some (.int k') => k' == k | _ => false
  | .bool, t, _, _ => match P.underlying t with | some .bool => true | _ => false
  | .str, t, _, _ => match P.underlying t with | some .string => true | _ => false
  | .slice e, t, _, _ => match P.underlying t with | some (.slice te) => !e.chain && (P.cellsOf te == e.size && fitsB P e te 0 []) | _ => false
  | .arr n e, t, _, _ => match P.underlying t with | some (.array n' te) => !e.chain && (n' == n && (P.cellsOf te == e.size && (P.cellsOf t == n * e.size && fitsB P e te 0 []))) | _ => false
  | .strct s, t, _, _ => match P.underlying t with | some (.struct fs) => s.chain && (P.cellsOf t == s.size && fitsB P s 0 0 fs.toList) | _ => false
  | .pair _ _, _, _, [] => false
  | .pair a b, _, off, f :: fs => !a.chain && (b.chain && (f.offset == off && (P.cellsOf f.type == a.size && (fitsB P a f.type 0 [] && fitsB P b 0 (off + a.size) fs))))
  | .nil, _, _, fs => fs.isEmpty
section
variable {H : Type} {enc : TypeId × Value → H} {P : Program} {w : World} {base : Nat}
end
theorem Sees.keep {w w' : World} : ∀ (sh : Sh) (cs : List Value), Sees w sh cs → Below w.heap.size w w' → Sees w' sh cs := by
  intro sh
  induction sh with
  | int k => intro cs h _; exact h
  | bool => intro cs h _; exact h
  | str => intro cs h _; exact h
  | slice e ih =>
    intro cs h hb
    rcases h with h | ⟨a, len, cap, h1, h2, h3, h4⟩
    · exact .inl h
    · refine .inr ⟨a, len, cap, h1, h2, h3, fun i hi => ?_⟩
      obtain ⟨cs', h5, h6, h7⟩ := h4 i hi
      exact ⟨cs', h5, fun j u hu => (hb.cell (World.block_lt_of_cell? w _ (h6 j u hu))).trans (h6 j u hu), ih _ h7 hb⟩
  | arr n e ih =>
    intro cs h hb
    exact ⟨h.1, fun i hi => ih _ (h.2 i hi) hb⟩
  | strct s ih =>
    intro cs h hb
    exact ih cs h hb
  | pair a b iha ihb =>
    intro cs h hb
    obtain ⟨x, y, h1, h2, h3, h4⟩ := h
    exact ⟨x, y, h1, h2, iha _ h3 hb, ihb _ h4 hb⟩
  | nil => intro cs h _; exact h
abbrev Sh.bytes : Sh := .slice (.int .u8)
/-- A slice of integers that is seen, as the shell tells it. -/
theorem Sees.ints {w : World} {k : IntKind} {v : Value} (h : Sees w (.slice (.int k)) [v]) : ∃ a len cap z, v = .slice a len cap ∧ ((a = none ∧ len = 0 ∧ cap = 0 ∧ z = []) ∨ ∃ x, a = some x ∧ len ≤ cap ∧ cap ≤ maxLen ∧ z.length = cap ∧ (∀ i, i < z.length → w.cell? (x.add i) = some (.int k (z.getD i 0))) ∧ ∀ n ∈ z, (Lit.int k n).wf = true) := by
  rcases h with h | ⟨a, len, cap, h1, h2, h3, h4⟩
  · injection h with h _
    exact ⟨none, 0, 0, [], h, .inl ⟨rfl, rfl, rfl, rfl⟩⟩
  · injection h1 with h1 _
    obtain ⟨D, hD⟩ := choose_lt (α := Int) (n := cap) (p := fun i n => w.cell? (a.add i) = some (.int k n) ∧ (Lit.int k n).wf = true) (fun i hi => by
      obtain ⟨cs', h5, h6, n, rfl, hw⟩ := h4 i hi
      refine ⟨n, ?_, hw⟩
      have := h6 0 (.int k n) rfl
      simpa [Sh.size] using this)
    refine ⟨some a, len, cap, (List.range cap).map D, h1, .inr ⟨a, rfl, h2, h3, by simp, fun i hi => ?_, fun n hn => ?_⟩⟩
    · have hi' : i < cap := by simpa using hi
      rw [(hD i hi').1]
      simp [List.getD_eq_getElem?_getD, hi']
    · simp only [List.mem_map, List.mem_range] at hn
      obtain ⟨i, hi, rfl⟩ := hn
      exact (hD i hi).2
/-- Bytes that are seen. -/
theorem Sees.bytes {w : World} {v : Value} (h : Sees w Sh.bytes [v]) : ∃ (a : Option Addr) (c : Nat) (l : List UInt8), v = .slice a l.length c ∧ l.length ≤ c ∧ c ≤ 9223372036854775807 ∧ Byt w w.heap.size a l := by
  obtain ⟨a, len, cap, z, rfl, hr⟩ := h.ints
  obtain ⟨l, rfl, h1, h2, h3⟩ := bytes_of hr
  exact ⟨a, cap, l, rfl, h1, h2, h3⟩
end Go.Proofs.Ytioddokjogbmnaa.Words

set_option linter.unusedVariables false
set_option linter.unusedSimpArgs false
namespace Go.Proofs.Ytioddokjogbmnaa.Words
open Go.ChangeShapes Go.WideShapes Go.ChangeAt Go.RowKit
/-- Only blocks of S, and new ones, have turned. -/
structure Fr (S : Nat → Prop) (w w' : World) : Prop where
  os : w'.os = w.os
  tape : w'.tape = w.tape
  output : w'.output = w.output
  size : w.heap.size ≤ w'.heap.size
  block : ∀ k, k < w.heap.size → ¬ S k → w'.heap[k]? = w.heap[k]?
section
variable {S S' T : Nat → Prop} {a b c w w' : World}
theorem Fr.refl (S : Nat → Prop) (w : World) : Fr S w w := ⟨rfl, rfl, rfl, Nat.le_refl _, fun _ _ _ => rfl⟩
theorem Fr.trans (h : Fr S a b) (k : Fr S' b c) (hs : ∀ x, x < a.heap.size → S' x → S x) : Fr S a c :=
  ⟨k.os.trans h.os, k.tape.trans h.tape, k.output.trans h.output, Nat.le_trans h.size k.size, fun x hx hn => (k.block x (Nat.lt_of_lt_of_le hx h.size) (fun hx' => hn (hs x hx hx'))).trans (h.block x hx hn)⟩
theorem Fr.same (h : Fr S a b) (k : Fr S b c) : Fr S a c := h.trans k (fun _ _ hx => hx)
theorem Fr.mono (h : Fr S a b) (hs : ∀ x, x < a.heap.size → S x → T x) : Fr T a b :=
  ⟨h.os, h.tape, h.output, h.size, fun x hx hn => h.block x hx (fun hx' => hn (hs x hx hx'))⟩
theorem Fr.drewN (h : Fr S a b) (n : Nat) : Fr S a (b.drewN n) := ⟨h.os, h.tape, h.output, h.size, h.block⟩
theorem Fr.drew (h : Fr S a b) : Fr S a b.drew := ⟨h.os, h.tape, h.output, h.size, h.block⟩
theorem Fr.alloc (h : Fr S a b) (o : Obj) : Fr S a (b.alloc o) :=
  ⟨h.os, h.tape, h.output, Nat.le_trans h.size (by simp), fun x hx hn => (Below.heap_alloc b o x (Nat.lt_of_lt_of_le hx h.size)).trans (h.block x hx hn)⟩
theorem Fr.setCell (h : Fr S a b) {p : Addr} (hp : S p.block ∨ a.heap.size ≤ p.block) (u : Value) : Fr S a (b.setCell p u) :=
  ⟨h.os, h.tape, h.output, by simpa [World.setCell] using h.size, fun x hx hn => (Below.heap_setCell b p u x (by
    rintro rfl
    rcases hp with hp | hp
    · exact hn hp
    · omega)).trans (h.block x hx hn)⟩
theorem Fr.grown {row : Option Nat} (h : Fr S a b) (k : b.grownBy c row) (hs : ∀ g, row = some g → S g ∨ a.heap.size ≤ g) : Fr S a c :=
  ⟨k.os.trans h.os, k.tape.trans h.tape, k.output.trans h.output, Nat.le_trans h.size k.size, fun x hx hn => (k.block x (Nat.lt_of_lt_of_le hx h.size) (fun e => by
    rcases hs x e.symm with h1 | h1
    · exact hn h1
    · omega)).trans (h.block x hx hn)⟩
theorem Fr.below {B : Nat} (h : Fr S a b) (k : Below B b c) (hs : ∀ x, B ≤ x → x < a.heap.size → S x) : Fr S a c :=
  ⟨k.os.trans h.os, k.tape.trans h.tape, k.output.trans h.output, Nat.le_trans h.size k.size, fun x hx hn => by
    rcases Nat.lt_or_ge x B with h1 | h1
    · exact (k.block x h1).trans (h.block x hx hn)
    · exact absurd (hs x h1 hx) hn⟩
theorem Fr.grows (h : Fr S a b) (k : Below b.heap.size b c) : Fr S a c := h.below k (fun x h1 h2 => by have := h.size; omega)
theorem Fr.of_below {B : Nat} (h : Below B a b) : Fr (fun k => B ≤ k) a b := ⟨h.os, h.tape, h.output, h.size, fun k _ hn => h.block k (by omega)⟩
theorem Fr.to_below {B : Nat} (h : Fr S a b) (hB : B ≤ a.heap.size) (hs : ∀ x, S x → B ≤ x) : Below B a b :=
  ⟨h.os, h.tape, h.output, h.size, fun x hx => h.block x (by omega) (fun h1 => by have := hs x h1; omega)⟩
/-- Behind something that lies below B, a step that turns what lies from B on alone. -/
theorem below_fr {B : Nat} (h : Below B a b) (k : Fr S b c) (hB : B ≤ a.heap.size) (hs : ∀ x, S x → B ≤ x) : Below B a c := h.trans (k.to_below (Nat.le_trans hB h.size) hs)
theorem Fr.of_grown {row : Option Nat} (h : a.grownBy b row) : Fr (fun k => some k = row) a b := ⟨h.os, h.tape, h.output, h.size, fun k hk hn => h.block k hk hn⟩
theorem Fr.blk {g : Nat} {t : TypeId} {cs : Array Value} (h : Fr S w w') (k : Blk w g t cs) (hg : ¬ S g) : Blk w' g t cs := (h.block g k.lt hg).trans k
theorem Fr.byt {B : Nat} {A : Option Addr} {l : List UInt8} (h : Fr S w w') (k : Byt w B A l) (hB : B ≤ w.heap.size) (hA : ∀ x, A = some x → ¬ S x.block) : Byt w' B A l :=
  ⟨k.1, fun hn => by
    obtain ⟨ad, e, hb, hc⟩ := k.2 hn
    exact ⟨ad, e, hb, fun j u hu => (World.cell?_of_block (h.block _ (by rw [block_of_add]; omega) (by rw [block_of_add]; exact hA ad e))).trans (hc j u hu)⟩⟩
theorem Fr.reads {B size n : Nat} {A : Option Addr} {xs : List Value} (h : Fr S w w') (k : Reads w B size A n xs) (hB : B ≤ w.heap.size) (hA : ∀ x, A = some x → ¬ S x.block) : Reads w' B size A n xs :=
  ⟨k.1, fun hn => by
    obtain ⟨ad, e, hb, hc⟩ := k.2 hn
    exact ⟨ad, e, hb, fun j u hu => (World.cell?_of_block (h.block _ (by rw [block_of_add]; omega) (by rw [block_of_add]; exact hA ad e))).trans (hc j u hu)⟩⟩
theorem Fr.own {B size n : Nat} {e : TypeId} {v : Value} {xs : List Value} (h : Fr S w w') (k : w.ownsRow B e size v n xs) (hv : ∀ g, v.ownBlock = some g → ¬ S g) : w'.ownsRow B e size v n xs := by
  refine ⟨k.1, ?_⟩
  rcases k.2 with hh | ⟨g, cap, cur, h1, h2, h3, h4⟩
  · exact .inl hh
  · subst h1
    have hlt : g < w.heap.size := Blk.lt (t := e) h3
    exact .inr ⟨g, cap, cur, rfl, h2, (h.block g hlt (hv g (by simp [Value.ownBlock]))).trans h3, h4⟩
end
theorem u8_info : (Try.prog.info? 5).map (fun i => (i.zero, i.size, i.bytes)) = some (some (.int .u8 0), 1, 1) := by kernel_rfl
/-- A row of bytes of the call's own. -/
abbrev Own (w : World) (B : Nat) (v : Value) (l : List UInt8) : Prop := w.ownsRow B 5 1 v l.length (u8s l)
theorem Own.byt {w : World} {B : Nat} {A : Option Addr} {c n : Nat} {l : List UInt8} (h : Own w B (.slice A n c) l) : Byt w w.heap.size A l := by
  have hn : n = l.length := by
    rcases h.2 with ⟨h1, h3⟩ | ⟨g, cap, cur, h1, _⟩
    · injection h1 with _ h2
      omega
    · injection h1
  subst hn
  exact Reads.of_own h
theorem own_mono {w : World} {B B' : Nat} {e : TypeId} {size n : Nat} {v : Value} {xs : List Value} (h : w.ownsRow B e size v n xs) (hB : B' ≤ B) : w.ownsRow B' e size v n xs := by
  refine ⟨h.1, ?_⟩
  rcases h.2 with h | ⟨g, cap, cur, h1, h2, h3⟩
  · exact .inl h
  · exact .inr ⟨g, cap, cur, h1, Nat.le_trans hB h2, h3⟩
theorem byt_of_heap {w : World} {B g : Nat} {t : TypeId} {fr : Nat × Nat} {cs : Array Value} (h : w.heap[g]? = some (.cells cs t fr)) (hB : g < B) {l : List UInt8} (hl : cs.toList.take l.length = u8s l) : Byt w B (some ⟨g, 0, none⟩) l := by
  refine ⟨by simp [u8s_length], fun _ => ⟨_, rfl, hB, fun j u hu => ?_⟩⟩
  have hj : j < l.length := by
    have := (List.getElem?_eq_some_iff.1 hu).1
    simpa [u8s_length] using this
  have hc : w.cell? ((⟨g, 0, none⟩ : Addr).add j) = cs[j]? := by
    rw [← cell_of_row w g j cs t fr h]
    unfold Addr.add
    split
    · rename_i e; rw [e]
    · simp
  rw [hc, ← hu, ← hl, List.getElem?_take, if_pos hj]
  simp
/-- A number laid into a range: int(uint(a) % uint(m)). -/
theorem u64rem (a m : Int) (hm : 0 < m) (h63 : m ≤ 9223372036854775807) : ∃ k : Nat, wrap64 ((IntKind.u64.wrap a).tmod m) = (k : Int) ∧ (k : Int) < m := by
  have h0 : 0 ≤ IntKind.u64.wrap a := by rw [IntKind.wrap_u64]; omega
  rw [Int.tmod_eq_emod_of_nonneg h0]
  have h1 := Int.emod_nonneg (IntKind.u64.wrap a) (show m ≠ 0 by omega)
  have h2 := Int.emod_lt_of_pos (IntKind.u64.wrap a) hm
  refine ⟨((IntKind.u64.wrap a) % m).toNat, ?_, by omega⟩
  rw [IntWalk.wrap64_in _ ⟨by omega, by omega⟩]
  omega
end Go.Proofs.Ytioddokjogbmnaa.Words

set_option linter.unusedVariables false
set_option linter.unusedSimpArgs false
namespace Go.Proofs.Ytioddokjogbmnaa.Oct
open Go.ChangeShapes Go.WideShapes Go.ChangeAt Go.RowKit Go.Proofs.Ytioddokjogbmnaa.Words
def lenOf : Value → Nat | .slice _ n _ => n | _ => 0
end Go.Proofs.Ytioddokjogbmnaa.Oct

set_option linter.unusedVariables false
set_option linter.unusedSimpArgs false
namespace Go.Proofs.Ytioddokjogbmnaa.Par
open Go.ChangeShapes Go.WideShapes Go.ChangeAt Go.RowKit Go.Deep Go.Proofs.Ytioddokjogbmnaa.Words Go.Proofs.Ytioddokjogbmnaa.Oct
/-- A slice of parameters that reads as the list ls, below block B. -/
def Ps (w : World) (B : Nat) (A : Option Addr) (ls : List Prm) : Prop :=
  ∀ k p, ls[k]? = some p → ∃ ad a c, A = some ad ∧ ad.block < B ∧ p.1 < 65536 ∧ w.cell? (ad.add (k * 2)) = some (.int .u16 (p.1 : Int)) ∧
    w.cell? ⟨(ad.add (k * 2)).block, (ad.add (k * 2)).off + 1, none⟩ = some (.slice a p.2.length c) ∧ p.2.length ≤ c ∧ c ≤ 9223372036854775807 ∧ Byt w B a p.2
section
variable {w w' : World} {B B' : Nat} {A : Option Addr} {ls : List Prm}
theorem Ps.keep (h : Ps w B A ls) (hk : ∀ p : Addr, p.block < B → w'.cell? p = w.cell? p) : Ps w' B A ls := fun k p hp => by
  obtain ⟨ad, a, c, h1, h2, h3, h4, h5, h6, h7, h8⟩ := h k p hp
  have hb : (ad.add (k * 2)).block < B := by rw [block_of_add]; exact h2
  exact ⟨ad, a, c, h1, h2, h3, (hk _ hb).trans h4, (hk ⟨(ad.add (k * 2)).block, (ad.add (k * 2)).off + 1, none⟩ hb).trans h5, h6, h7, h8.keep hk⟩
theorem Ps.more (h : Ps w B A ls) (hB : B ≤ B') : Ps w B' A ls := fun k p hp => by
  obtain ⟨ad, a, c, h1, h2, h3, h4, h5, h6, h7, h8⟩ := h k p hp
  exact ⟨ad, a, c, h1, by omega, h3, h4, h5, h6, h7, h8.more hB⟩
theorem Ps.below (h : Ps w B A ls) (hb : Below B w w') : Ps w' B A ls := h.keep fun _ hp => hb.cell hp
theorem Ps.drewN (h : Ps w B A ls) (n : Nat) : Ps (w.drewN n) B A ls := h
theorem Ps.nil (w : World) (B : Nat) (A : Option Addr) : Ps w B A [] := fun k p hp => by simp at hp
end
/-- A row of parameters of the call's own, their values rows of bytes of its own. -/
def OwnPs (w : World) (B : Nat) (v : Value) (ls : List Prm) : Prop :=
  ∃ xs, w.ownsRow B 186 2 v ls.length xs ∧ ∀ k p, ls[k]? = some p → p.1 < 65536 ∧ ∃ a c, xs[k * 2]? = some (.int .u16 (p.1 : Int)) ∧ xs[k * 2 + 1]? = some (.slice a p.2.length c) ∧ p.2.length ≤ c ∧ c ≤ 9223372036854775807 ∧ Own w B (.slice a p.2.length c) p.2
theorem own_ne {w : World} {B B' : Nat} {e e' : TypeId} {s s' n n' : Nat} {v v' : Value} {xs xs' : List Value} (h : w.ownsRow B e s v n xs) (h' : w.ownsRow B' e' s' v' n' xs') (hne : e ≠ e') : ∀ g, v.ownBlock = some g → v'.ownBlock ≠ some g := by
  intro g hg hg'
  rcases h.2 with ⟨rfl, _⟩ | ⟨b, cap, cur, rfl, _, hb, _⟩
  · simp [Value.ownBlock] at hg
  · rcases h'.2 with ⟨rfl, _⟩ | ⟨b', cap', cur', rfl, _, hb', _⟩
    · simp [Value.ownBlock] at hg'
    · simp only [Value.ownBlock, Option.some.injEq] at hg hg'
      subst hg hg'
      exact Blk.ne_ (t := e) (t' := e') hb hb' hne rfl
section
variable {w w' : World} {B B' : Nat} {v : Value} {ls : List Prm}
theorem OwnPs.nil (w : World) (B : Nat) : OwnPs w B (.slice none 0 0) [] := ⟨[], World.ownsRow_nil _ _ _ _, fun k p h => by simp at h⟩
theorem OwnPs.fr {S : Nat → Prop} (h : OwnPs w B v ls) (k : Fr S w w') (hS : ∀ i, S i → i < w.heap.size → i < B) : OwnPs w' B v ls := by
  obtain ⟨xs, h1, h2⟩ := h
  refine ⟨xs, k.own h1 (fun g hg hi => by have := h1.lt g hg; have := hS g hi this.2; omega), fun i p hp => ?_⟩
  obtain ⟨h3, a, c, h4, h5, h6, h7, h8⟩ := h2 i p hp
  exact ⟨h3, a, c, h4, h5, h6, h7, k.own h8 (fun g hg hi => by have := h8.lt g hg; have := hS g hi this.2; omega)⟩
theorem OwnPs.grows (h : OwnPs w B v ls) (k : Below w.heap.size w w') : OwnPs w' B v ls := h.fr (Fr.of_below k) (fun i hi hlt => by omega)
theorem OwnPs.mono (h : OwnPs w B v ls) (hB : B' ≤ B) : OwnPs w B' v ls := by
  obtain ⟨xs, h1, h2⟩ := h
  refine ⟨xs, own_mono h1 hB, fun i p hp => ?_⟩
  obtain ⟨h3, a, c, h4, h5, h6, h7, h8⟩ := h2 i p hp
  exact ⟨h3, a, c, h4, h5, h6, h7, own_mono h8 hB⟩
theorem OwnPs.slice (h : OwnPs w B v ls) : ∃ A c, v = .slice A ls.length c ∧ ls.length ≤ c ∧ c ≤ 9223372036854775807 := by
  obtain ⟨xs, h1, _⟩ := h
  exact own_slice h1
theorem OwnPs.ps {A : Option Addr} {n c : Nat} (h : OwnPs w B (.slice A n c) ls) : Ps w w.heap.size A ls := fun k p hp => by
  obtain ⟨xs, h1, h2⟩ := h
  obtain ⟨h3, a, c', h4, h5, h6, h7, h8⟩ := h2 k p hp
  have hk : k < ls.length := (List.getElem?_eq_some_iff.1 hp).1
  obtain ⟨g, cap, hv, hg1, hg2⟩ := h1.form (by omega)
  injection hv with hv _ _
  subst hv
  have hcell := h1.cells (g := g) rfl
  refine ⟨⟨g, 0, none⟩, a, c', rfl, hg2, h3, hcell _ _ h4, ?_, h6, h7, Own.byt h8⟩
  have := hcell _ _ h5
  rwa [← add_of_add, add_lit _ (by omega)] at this
/-- A row of parameters behind another: 'append(p, q...)'. -/
theorem OwnPs.app {vq v' : Value} {lq : List Prm} {xs xq : List Value} {n : Nat} (hx : w.ownsRow B 186 2 v ls.length xs) (hxs : ∀ k p, ls[k]? = some p → p.1 < 65536 ∧ ∃ a c, xs[k * 2]? = some (.int .u16 (p.1 : Int)) ∧ xs[k * 2 + 1]? = some (.slice a p.2.length c) ∧ p.2.length ≤ c ∧ c ≤ 9223372036854775807 ∧ Own w B (.slice a p.2.length c) p.2)
    (hq : xq.length = lq.length * 2) (hqs : ∀ k p, lq[k]? = some p → p.1 < 65536 ∧ ∃ a c, xq[k * 2]? = some (.int .u16 (p.1 : Int)) ∧ xq[k * 2 + 1]? = some (.slice a p.2.length c) ∧ p.2.length ≤ c ∧ c ≤ 9223372036854775807 ∧ Own w B (.slice a p.2.length c) p.2)
    (hg : w.grownBy w' v.ownBlock) (ho : w'.ownsRow B 186 2 v' n (xs ++ xq)) (hn : n = ls.length + lq.length) : OwnPs w' B v' (ls ++ lq) := by
  have hf := Fr.of_grown hg
  have keep : ∀ {u : Value} {l : List UInt8}, Own w B u l → Own w' B u l := fun {u l} hu => hf.own hu (fun g hg hi => own_ne hx hu (by decide) g hi.symm hg)
  have hl := hx.1
  refine ⟨_, by rw [List.length_append, ← hn]; exact ho, fun k q hk => ?_⟩
  by_cases hlt : k < ls.length
  · rw [List.getElem?_append_left hlt] at hk
    obtain ⟨h3, a, c, h4, h5, h6, h7, h8⟩ := hxs k q hk
    exact ⟨h3, a, c, by rw [List.getElem?_append_left (by omega)]; exact h4, by rw [List.getElem?_append_left (by omega)]; exact h5, h6, h7, keep h8⟩
  · rw [List.getElem?_append_right (by omega)] at hk
    obtain ⟨h3, a, c, h4, h5, h6, h7, h8⟩ := hqs (k - ls.length) q hk
    refine ⟨h3, a, c, ?_, ?_, h6, h7, keep h8⟩
    · rw [List.getElem?_append_right (by omega), show k * 2 - xs.length = (k - ls.length) * 2 by omega]; exact h4
    · rw [List.getElem?_append_right (by omega), show k * 2 + 1 - xs.length = (k - ls.length) * 2 + 1 by omega]; exact h5
/-- One parameter more behind a row of its own. -/
theorem OwnPs.snoc {v' : Value} {a : Option Addr} {c n : Nat} {p : Prm} {xs : List Value} (h : OwnPs w B v ls) (hg : w.grownBy w' v.ownBlock) (hx : w.ownsRow B 186 2 v ls.length xs) (ho : w'.ownsRow B 186 2 v' n (xs ++ [.int .u16 (p.1 : Int), .slice a p.2.length c])) (hn : n = ls.length + 1)
    (hp : p.1 < 65536) (hc : p.2.length ≤ c) (hm : c ≤ 9223372036854775807) (hv : Own w B (.slice a p.2.length c) p.2) (hxs : ∀ k q, ls[k]? = some q → q.1 < 65536 ∧ ∃ a c, xs[k * 2]? = some (.int .u16 (q.1 : Int)) ∧ xs[k * 2 + 1]? = some (.slice a q.2.length c) ∧ q.2.length ≤ c ∧ c ≤ 9223372036854775807 ∧ Own w B (.slice a q.2.length c) q.2) : OwnPs w' B v' (ls ++ [p]) := by
  have hf := Fr.of_grown hg
  have keep : ∀ {u : Value} {l : List UInt8}, Own w B u l → Own w' B u l := fun {u l} hu => hf.own hu (fun g hg hi => own_ne hx hu (by decide) g hi.symm hg)
  have hl := hx.1
  refine ⟨_, by rw [List.length_append, List.length_singleton, ← hn]; exact ho, fun k q hq => ?_⟩
  by_cases hk : k < ls.length
  · rw [List.getElem?_append_left hk] at hq
    obtain ⟨h3, a', c', h4, h5, h6, h7, h8⟩ := hxs k q hq
    exact ⟨h3, a', c', by rw [List.getElem?_append_left (by omega)]; exact h4, by rw [List.getElem?_append_left (by omega)]; exact h5, h6, h7, keep h8⟩
  · rw [List.getElem?_append_right (by omega)] at hq
    have hk0 : k - ls.length = 0 := by
      have := (List.getElem?_eq_some_iff.1 hq).1
      simp at this
      omega
    rw [hk0] at hq
    simp only [List.getElem?_cons_zero, Option.some.injEq] at hq
    subst hq
    have hkl : k = ls.length := by omega
    subst hkl
    refine ⟨hp, a, c, ?_, ?_, hc, hm, keep hv⟩
    · rw [List.getElem?_append_right (by omega), show ls.length * 2 - xs.length = 0 by omega]; rfl
    · rw [List.getElem?_append_right (by omega), show ls.length * 2 + 1 - xs.length = 1 by omega]; rfl
end
end Go.Proofs.Ytioddokjogbmnaa.Par

set_option linter.unusedVariables false
set_option linter.unusedSimpArgs false
namespace Go.Proofs.Ytioddokjogbmnaa.Oct
open Go.ChangeShapes Go.WideShapes Go.ChangeAt Go.RowKit Go.Proofs.Ytioddokjogbmnaa.Words
section
variable {w w' : World} {p G : Nat} {l : List UInt8} {bad : Bool}
end
/-- The frame of a reader's step. -/
abbrev At (p : Nat) : Nat → Prop := fun k => k = p
end Go.Proofs.Ytioddokjogbmnaa.Oct

set_option linter.unusedVariables false
set_option linter.unusedSimpArgs false
namespace Go.Proofs.Ytioddokjogbmnaa.Oct
open Go.ChangeShapes Go.WideShapes Go.ChangeAt Go.RowKit Go.Proofs.Ytioddokjogbmnaa.Words
section
variable {w w' : World} {p B : Nat} {v : Value} {l : List UInt8} {lg : Bool}
end
/-- What is left behind n bytes; whether that is bad; the number of n bytes; n bytes. -/
def cutL (n : Nat) (l : List UInt8) : List UInt8 := if n ≤ l.length then l.drop n else []
def cutB (n : Nat) (l : List UInt8) (bad : Bool) : Bool := if n ≤ l.length then bad else true
def val (n : Nat) (l : List UInt8) : Nat := if n ≤ l.length then num (l.take n) else 0
theorem cutL_yes {n : Nat} {l : List UInt8} (h : n ≤ l.length) : cutL n l = l.drop n := if_pos h
theorem cutB_yes {n : Nat} {l : List UInt8} (h : n ≤ l.length) (bad : Bool) : cutB n l bad = bad := if_pos h
theorem cutB_no {n : Nat} {l : List UInt8} (h : ¬ n ≤ l.length) (bad : Bool) : cutB n l bad = true := if_neg h
theorem val_yes {n : Nat} {l : List UInt8} (h : n ≤ l.length) : val n l = num (l.take n) := if_pos h
theorem val_cut {a b : Nat} {l : List UInt8} (h : b + a ≤ l.length) : val a (cutL b l) = num ((l.drop b).take a) := by
  rw [cutL_yes (by omega), val_yes (by rw [List.length_drop]; omega)]
end Go.Proofs.Ytioddokjogbmnaa.Oct

set_option linter.unusedVariables false
set_option linter.unusedSimpArgs false
namespace Go.Proofs.Ytioddokjogbmnaa.Chk
open Go.ChangeShapes Go.WideShapes Go.ChangeAt Go.RowKit Go.Deep Go.Proofs.Ytioddokjogbmnaa.Words Go.Proofs.Ytioddokjogbmnaa.Oct Go.Proofs.Ytioddokjogbmnaa.Par
/-- A chunk's cells: its plain fields, its five lists. -/
def ckArr (c : Ck) (gv dv sv pv bv : Value) : Array Value :=
  #[.int .u8 (c.kind : Int), .bool c.bg, .bool c.en, .bool c.lo, .bool c.ba, .int .u32 (c.tsn : Int), .int .u16 (c.st : Int), .int .u32 (c.mid : Int), .int .u32 (c.pp : Int), .int .u32 (c.fr : Int), .int .u32 (c.tag : Int), .int .u32 (c.win : Int),
    .int .u16 (c.out : Int), .int .u16 (c.inn : Int), gv, dv, sv, pv, bv]
def gapC (l : List Gp) : List Value := (l.map fun g => [Value.int .u16 (g.1 : Int), .int .u16 (g.2 : Int)]).flatten
def dupC (l : List Nat) : List Value := l.map fun d : Nat => Value.int .u32 (d : Int)
def skC (l : List Skp) : List Value := (l.map fun s => [Value.int .u16 (s.1 : Int), .bool s.2.1, .int .u32 (s.2.2 : Int)]).flatten
/-- A list's head: where it lies, how long, what room. -/
structure Hd where
  A : Option Addr
  cap : Nat
def Hd.v (h : Hd) (n : Nat) : Value := .slice h.A n h.cap
def Hd.okN (h : Hd) (n : Nat) : Prop := n ≤ h.cap ∧ h.cap ≤ 9223372036854775807
/-- Cells that read as the chunk c, its lists below block B. -/
structure CkAt (w : World) (B : Nat) (cs : Array Value) (c : Ck) : Prop where
  ok : c.ok
  ex : ∃ g d s p b : Hd, cs = ckArr c (g.v c.gaps.length) (d.v c.dups.length) (s.v c.skips.length) (p.v c.ps.length) (b.v c.body.length) ∧
    g.okN c.gaps.length ∧ d.okN c.dups.length ∧ s.okN c.skips.length ∧ p.okN c.ps.length ∧ b.okN c.body.length ∧
    Reads w B 2 g.A c.gaps.length (gapC c.gaps) ∧ Reads w B 1 d.A c.dups.length (dupC c.dups) ∧ Reads w B 3 s.A c.skips.length (skC c.skips) ∧ Ps w B p.A c.ps ∧ Byt w B b.A c.body
section
variable {w w' : World} {B B' : Nat} {cs : Array Value} {c : Ck}
theorem CkAt.keep (h : CkAt w B cs c) (hk : ∀ p : Addr, p.block < B → w'.cell? p = w.cell? p) : CkAt w' B cs c := by
  obtain ⟨ok, g, d, s, p, b, e, h1, h2, h3, h4, h5, r1, r2, r3, r4, r5⟩ := h
  exact ⟨ok, g, d, s, p, b, e, h1, h2, h3, h4, h5, r1.keep hk, r2.keep hk, r3.keep hk, r4.keep hk, r5.keep hk⟩
theorem CkAt.more (h : CkAt w B cs c) (hB : B ≤ B') : CkAt w B' cs c := by
  obtain ⟨ok, g, d, s, p, b, e, h1, h2, h3, h4, h5, r1, r2, r3, r4, r5⟩ := h
  exact ⟨ok, g, d, s, p, b, e, h1, h2, h3, h4, h5, r1.more hB, r2.more hB, r3.more hB, r4.more hB, r5.more hB⟩
theorem CkAt.below (h : CkAt w B cs c) (hb : Below B w w') : CkAt w' B cs c := h.keep fun _ hp => hb.cell hp
theorem CkAt.fr {S : Nat → Prop} (h : CkAt w B cs c) (k : Fr S w w') (hB : B ≤ w.heap.size) (hS : ∀ i, S i → B ≤ i) : CkAt w' B cs c :=
  h.keep fun p hp => World.cell?_of_block (k.block _ (by omega) (fun hs => by have := hS _ hs; omega))
theorem CkAt.drewN (h : CkAt w B cs c) (n : Nat) : CkAt (w.drewN n) B cs c := h.keep fun _ _ => rfl
theorem CkAt.drew (h : CkAt w B cs c) : CkAt w.drew B cs c := h.keep fun _ _ => rfl
theorem CkAt.size (h : CkAt w B cs c) : cs.size = 19 := by obtain ⟨_, g, d, s, p, b, rfl, _⟩ := h; rfl
theorem CkAt.one (h : CkAt w B cs c) : cs.all (·.oneCell') = true := by obtain ⟨_, g, d, s, p, b, rfl, _⟩ := h; simp [ckArr, Value.oneCell', Hd.v]
end
/-- A chunk's variable. -/
abbrev CkBlk (w : World) (g : Nat) (cs : Array Value) : Prop := Blk w g 41 cs
theorem chunk_info : (Try.prog.info? 41).map (·.size) = some 19 := by kernel_rfl
/-- What the walk is told of a chunk's cells. -/
structure Cells (cs : Array Value) (c : Ck) (g d s p b : Hd) : Prop where
  size : cs.size = 19
  c0 : cs[0]? = some (.int .u8 (c.kind : Int))
  c1 : cs[1]? = some (.bool c.bg)
  c2 : cs[2]? = some (.bool c.en)
  c3 : cs[3]? = some (.bool c.lo)
  c4 : cs[4]? = some (.bool c.ba)
  c5 : cs[5]? = some (.int .u32 (c.tsn : Int))
  c6 : cs[6]? = some (.int .u16 (c.st : Int))
  c7 : cs[7]? = some (.int .u32 (c.mid : Int))
  c8 : cs[8]? = some (.int .u32 (c.pp : Int))
  c9 : cs[9]? = some (.int .u32 (c.fr : Int))
  c10 : cs[10]? = some (.int .u32 (c.tag : Int))
  c11 : cs[11]? = some (.int .u32 (c.win : Int))
  c12 : cs[12]? = some (.int .u16 (c.out : Int))
  c13 : cs[13]? = some (.int .u16 (c.inn : Int))
  c14 : cs[14]? = some (.slice g.A c.gaps.length g.cap)
  c15 : cs[15]? = some (.slice d.A c.dups.length d.cap)
  c16 : cs[16]? = some (.slice s.A c.skips.length s.cap)
  c17 : cs[17]? = some (.slice p.A c.ps.length p.cap)
  c18 : cs[18]? = some (.slice b.A c.body.length b.cap)
structure Lists (w : World) (B : Nat) (c : Ck) (g d s p b : Hd) : Prop where
  okg : g.okN c.gaps.length
  okd : d.okN c.dups.length
  oks : s.okN c.skips.length
  okp : p.okN c.ps.length
  okb : b.okN c.body.length
  gaps : Reads w B 2 g.A c.gaps.length (gapC c.gaps)
  dups : Reads w B 1 d.A c.dups.length (dupC c.dups)
  skips : Reads w B 3 s.A c.skips.length (skC c.skips)
  ps : Ps w B p.A c.ps
  body : Byt w B b.A c.body
theorem CkAt.parts {w : World} {B : Nat} {cs : Array Value} {c : Ck} (h : CkAt w B cs c) : ∃ g d s p b : Hd, Cells cs c g d s p b ∧ Lists w B c g d s p b := by
  obtain ⟨_, g, d, s, p, b, rfl, h1, h2, h3, h4, h5, r1, r2, r3, r4, r5⟩ := h
  exact ⟨g, d, s, p, b, ⟨rfl, rfl, rfl, rfl, rfl, rfl, rfl, rfl, rfl, rfl, rfl, rfl, rfl, rfl, rfl, rfl, rfl, rfl, rfl, rfl⟩, ⟨h1, h2, h3, h4, h5, r1, r2, r3, r4, r5⟩⟩
/-- A chunk's variable, just made: its cell, and what it stands beside. -/
theorem CkBlk.at {w : World} {g : Nat} {cs : Array Value} {i : Nat} {v : Value} (h : CkBlk w g cs) (hv : cs[i]? = some v) : w.cell? ⟨g, i, none⟩ = some v := (h.cell i).trans hv
end Go.Proofs.Ytioddokjogbmnaa.Chk

set_option linter.unusedVariables false
set_option linter.unusedSimpArgs false
namespace Go.Proofs.Ytioddokjogbmnaa.Par
open Go.ChangeShapes Go.WideShapes Go.ChangeAt Go.RowKit Go.Deep Go.Proofs.Ytioddokjogbmnaa.Words Go.Proofs.Ytioddokjogbmnaa.Oct
/-- Where a list of bytes stands beside the loop's variable. -/
structure BSt (w V : World) (gv : Nat) (b : Value) (l : List UInt8) (cs : Array Value) : Prop where
  own : Own V w.heap.size b l
  blk : Blk V gv 186 cs
  below : Below w.heap.size w V
section
variable {w V V' : World} {gv : Nat} {b b' : Value} {l l' : List UInt8} {cs : Array Value}
theorem BSt.grows (h : BSt w V gv b l cs) (k : Below V.heap.size V V') : BSt w V' gv b l cs :=
  ⟨(Fr.of_below k).own h.own (fun g hg hi => by have := (h.own.lt g hg).2; omega), h.blk.below k h.blk.lt, h.below.trans (k.mono h.below.size)⟩
theorem BSt.app (h : BSt w V gv b l cs) (ho : Own V' w.heap.size b' l') (hg : V.grownBy V' b.ownBlock) : BSt w V' gv b' l' cs :=
  ⟨ho, (Fr.of_grown hg).blk h.blk (fun e => own_blk_ne h.own h.blk (by decide) e.symm), h.below.grown hg h.below.size (fun g hg => (h.own.lt g hg).1)⟩
end
end Go.Proofs.Ytioddokjogbmnaa.Par

set_option linter.unusedVariables false
set_option linter.unusedSimpArgs false
namespace Go.Proofs.Ytioddokjogbmnaa.Par
open Go.ChangeShapes Go.WideShapes Go.ChangeAt Go.RowKit Go.Deep Go.Proofs.Ytioddokjogbmnaa.Words Go.Proofs.Ytioddokjogbmnaa.Oct
/-- What Put answers. -/
def PutDone (w : World) (ls : List Prm) (e : Ending) (w' : World) : Prop :=
  (∃ v, e = .returned (.tuple #[v, .int .i64 0]) ∧ Own w' w.heap.size v (encL ls) ∧ ∀ p ∈ ls, p.2.length ≤ 65531) ∨
  (∃ A c, e = .returned (.tuple #[.slice A 0 c, .int .i64 43]) ∧ ∃ p ∈ ls, 65531 < p.2.length)
end Go.Proofs.Ytioddokjogbmnaa.Par

set_option linter.unusedVariables false
set_option linter.unusedSimpArgs false
namespace Go.Proofs.Ytioddokjogbmnaa.Words
open Go.ChangeShapes Go.WideShapes Go.ChangeAt Go.RowKit
section
variable {P : Program} {ops : Array Oper}
/-- What an operation leaves: a value and a world, of which R holds; no way out by panic. -/
def Leaves (P : Program) (R : Value → World → Prop) : Result Next → Prop
  | .ok (.value v) w' => R v w'
  | .ok .skip w' => R undef w'
  | .ok (.enter f args) w' => Calls P f args w' (fun e w'' => ∃ v, e = .returned v ∧ R v w'')
  | _ => False
theorem wp_of_leaves {o : Oper} {a b : Act} {w : World} {R : Value → World → Prop} {K : Act → World → Prop} {Q : Exit → Act → World → Prop} (he : execOp a.eval o = execOp b.eval o)
    (h : Leaves P R ((execOp b.eval o).run P w)) (hK : ∀ v w', R v w' → K (a.put o.dst v) w') : o.wp P a w K Q := by
  unfold Oper.wp
  rw [he]
  generalize (execOp b.eval o).run P w = r at h
  cases r with
  | ok n w' =>
    cases n <;> simp only [Leaves] at h <;> simp only [Oper.upon]
    case value v => exact hK _ _ h
    case skip => exact hK _ _ h
    case enter f args => exact h.mono fun e w'' ⟨v, he, hv⟩ => by subst he; exact hK _ _ hv
  | halt x w' => simp only [Leaves] at h
/-- The frame behind some of the operations, in the order of the text. -/
def puts : List Oper → Nat → (Nat → Bool) → (Nat → Value) → Act → Act
  | [], _, _, _, a => a
  | o :: r, k, L, vs, a => puts r (k + 1) L vs (if L k then a.put o.dst (vs k) else a)
def dstApart (x y : Oper) : Bool := match x.dst with | some d => y.dst != some d | none => true
def dstsB : List Oper → Bool
  | [] => true
  | o :: r => r.all (dstApart o) && dstsB r
theorem puts_out (d : Option Tmp) (v : Value) : ∀ (l : List Oper) (k : Nat) (L : Nat → Bool) (vs : Nat → Value) (a : Act), (∀ o ∈ l, ∀ e, d = some e → o.dst ≠ some e) → puts l k L vs (a.put d v) = (puts l k L vs a).put d v
  | [], _, _, _, _, _ => rfl
  | o :: r, k, L, vs, a, h => by
    unfold puts
    split
    · rw [Act.put_comm a v (vs k) (h o (by simp))]
      exact puts_out d v r _ _ _ _ (fun o' ho' => h o' (by simp [ho']))
    · exact puts_out d v r _ _ _ _ (fun o' ho' => h o' (by simp [ho']))
theorem puts_congr : ∀ (l : List Oper) (k : Nat) (L L' : Nat → Bool) (vs vs' : Nat → Value) (a : Act), (∀ i, k ≤ i → L i = L' i) → (∀ i, k ≤ i → vs i = vs' i) → puts l k L vs a = puts l k L' vs' a
  | [], _, _, _, _, _, _, _, _ => rfl
  | o :: r, k, L, L', vs, vs', a, h, h' => by
    unfold puts
    rw [h k (Nat.le_refl _), h' k (Nat.le_refl _)]
    exact puts_congr r _ _ _ _ _ _ (fun i hi => h i (by omega)) (fun i hi => h' i (by omega))
theorem dstApart_spec {x y : Oper} (h : dstApart x y = true) : ∀ e, x.dst = some e → y.dst ≠ some e := by
  intro e he
  unfold dstApart at h
  rw [he] at h
  simpa using h
theorem puts_put (j : Nat) (oj : Oper) (v : Value) : ∀ (l : List Oper) (k : Nat) (L : Nat → Bool) (vs : Nat → Value) (a : Act), dstsB l = true → k ≤ j → l[j - k]? = some oj → L j = false →
    (puts l k L vs a).put oj.dst v = puts l k (fun i => if i = j then true else L i) (fun i => if i = j then v else vs i) a
  | [], _, _, _, _, _, _, h, _ => by simp at h
  | o :: r, k, L, vs, a, hd, hk, hj, hL => by
    simp only [dstsB, Bool.and_eq_true, List.all_eq_true] at hd
    unfold puts
    by_cases hkj : k = j
    · subst hkj
      simp only [Nat.sub_self, List.getElem?_cons_zero, Option.some.injEq] at hj
      subst hj
      simp only [hL, if_true, Bool.false_eq_true, if_false]
      rw [puts_out _ _ _ _ _ _ _ (fun o' ho' => dstApart_spec (hd.1 o' ho'))]
      congr 1
      exact puts_congr _ _ _ _ _ _ _ (fun i hi => by rw [if_neg (by omega)]) (fun i hi => by rw [if_neg (by omega)])
    · simp only [hkj, if_false]
      refine puts_put j oj v r (k + 1) L vs _ hd.2 (by omega) ?_ hL
      rw [← hj, show j - k = (j - (k + 1)) + 1 by omega, List.getElem?_cons_succ]
/-- Two frames that an operation cannot tell apart. -/
def Agree (T : List Tmp) (a b : Act) : Prop := a.tmps.size = b.tmps.size ∧ ∀ t ∈ T, a.tmps[t]? = b.tmps[t]?
theorem Agree.put {T : List Tmp} {a b : Act} (h : Agree T a b) (d : Option Tmp) (v : Value) : Agree T (a.put d v) (b.put d v) := by
  cases d with
  | none => exact h
  | some d =>
    refine ⟨by simp [Act.put, h.1], fun t ht => ?_⟩
    simp only [Act.put, Array.getElem?_setIfInBounds, h.1, h.2 t ht]
theorem Agree.left {T : List Tmp} {a b : Act} (h : Agree T a b) (d : Option Tmp) (v : Value) (hd : ∀ e, d = some e → e ∉ T) : Agree T (a.put d v) b := by
  cases d with
  | none => exact h
  | some d =>
    refine ⟨by simp [Act.put, h.1], fun t ht => ?_⟩
    have : d ≠ t := fun e => hd d rfl (e ▸ ht)
    simp [Act.put, Array.getElem?_setIfInBounds_ne this, h.2 t ht]
theorem Agree.symm {T : List Tmp} {a b : Act} (h : Agree T a b) : Agree T b a := ⟨h.1.symm, fun t ht => (h.2 t ht).symm⟩
theorem Agree.puts {T : List Tmp} : ∀ (l : List Oper) (k : Nat) (L L' : Nat → Bool) (vs : Nat → Value) (a b : Act), Agree T a b → (∀ i o, l[i]? = some o → L (k + i) ≠ L' (k + i) → ∀ e, o.dst = some e → e ∉ T) →
    Agree T (Words.puts l k L vs a) (Words.puts l k L' vs b)
  | [], _, _, _, _, _, _, h, _ => h
  | o :: r, k, L, L', vs, a, b, h, hd => by
    unfold Words.puts
    refine Agree.puts r (k + 1) L L' vs _ _ ?_ (fun i o' ho' hne => hd (i + 1) o' (by simpa using ho') (by rwa [show k + (i + 1) = k + 1 + i by omega]))
    have h0 := hd 0 o (by simp)
    rw [Nat.add_zero] at h0
    cases hL : L k <;> cases hL' : L' k <;> simp only [Bool.false_eq_true, if_true, if_false]
    · exact h
    · exact (h.symm.left _ _ (h0 (by rw [hL, hL']; decide))).symm
    · exact h.left _ _ (h0 (by rw [hL, hL']; decide))
    · exact h.put _ _
theorem Agree.exec {o : Oper} {a b : Act} (hs : ∀ cs b, o.op ≠ .select cs b) (h : Agree (o.looksAt ops) a b) : execOp a.eval o = execOp b.eval o :=
  execOp_congr o hs fun x hx => by
    cases x with
    | tmp t =>
      have := h.2 t (List.mem_append_left _ (List.mem_filterMap.2 ⟨.tmp t, by simpa using hx, rfl⟩))
      simp only [Act.eval, Array.getD_eq_getD_getElem?, this]
    | _ => rfl
theorem Agree.wanted {o : Oper} {a b : Act} (h : Agree (o.looksAt ops) a b) : Region.wanted o (yielded ops a.tmps) = Region.wanted o (yielded ops b.tmps) := by
  unfold Region.wanted
  cases hg : o.guard with
  | none => rfl
  | some gw =>
    obtain ⟨g, want⟩ := gw
    have hy : yielded ops a.tmps g = yielded ops b.tmps g := by
      unfold yielded
      cases ht : (ops[g]?).bind (·.dst) with
      | none => rfl
      | some t =>
        have := h.2 t (by simp [Oper.looksAt, hg, ht])
        simp [this]
    simp only [hy]
/-- Does operation x wait for operation k? -/
def waits (x : Oper) (k : Nat) : Bool := x.after.any fun e => Region.binds .any e && e.on == k
def looksApart (ops : Array Oper) (i : Nat) (o : Oper) (k : Nat) (x : Oper) : Bool :=
  match x.dst with
  | some d => !(o.looksAt ops).contains d || (if k < i then waits o k else if i < k then waits x i else true)
  | none => true
def monoFrom (ops : Array Oper) (i : Nat) (o : Oper) : Nat → List Oper → Bool
  | _, [] => true
  | k, x :: r => looksApart ops i o k x && monoFrom ops i o (k + 1) r
def monoAll (ops : Array Oper) : Nat → List Oper → Bool
  | _, [] => true
  | i, o :: r => monoFrom ops i o 0 ops.toList && monoAll ops (i + 1) r
def backFrom : Nat → List Oper → Bool
  | _, [] => true
  | i, o :: r => (o.after.all fun e => !Region.binds .any e || decide (e.on < i)) && backFrom (i + 1) r
theorem backFrom_spec : ∀ (l : List Oper) (i : Nat), backFrom i l = true → ∀ j o, l[j]? = some o → ∀ e ∈ o.after, Region.binds .any e = true → e.on < i + j
  | [], _, _, _, _, h => by simp at h
  | y :: r, k, hm, j, x, h => by
    simp only [backFrom, Bool.and_eq_true] at hm
    cases j with
    | zero =>
      simp only [List.getElem?_cons_zero, Option.some.injEq] at h
      subst h
      intro e he hb
      have := Array.all_eq_true_iff_forall_mem.1 hm.1 e he
      simpa [hb] using this
    | succ j => have := backFrom_spec r (k + 1) hm.2 j x (by simpa using h); rwa [show k + (j + 1) = k + 1 + j by omega]
def growB (ops : Array Oper) : Bool := dstsB ops.toList && Region.noSelect ops && monoAll ops 0 ops.toList && backFrom 0 ops.toList
theorem monoFrom_spec {i : Nat} {o : Oper} : ∀ (l : List Oper) (k : Nat), monoFrom ops i o k l = true → ∀ j x, l[j]? = some x → looksApart ops i o (k + j) x = true
  | [], _, _, _, _, h => by simp at h
  | y :: r, k, hm, j, x, h => by
    simp only [monoFrom, Bool.and_eq_true] at hm
    cases j with
    | zero => simp only [List.getElem?_cons_zero, Option.some.injEq] at h; subst h; exact hm.1
    | succ j => have := monoFrom_spec r (k + 1) hm.2 j x (by simpa using h); rwa [show k + (j + 1) = k + 1 + j by omega]
theorem monoAll_spec : ∀ (l : List Oper) (i : Nat), monoAll ops i l = true → ∀ j o, l[j]? = some o → monoFrom ops (i + j) o 0 ops.toList = true
  | [], _, _, _, _, h => by simp at h
  | y :: r, k, hm, j, x, h => by
    simp only [monoAll, Bool.and_eq_true] at hm
    cases j with
    | zero => simp only [List.getElem?_cons_zero, Option.some.injEq] at h; subst h; exact hm.1
    | succ j => have := monoAll_spec r (k + 1) hm.2 j x (by simpa using h); rwa [show k + (j + 1) = k + 1 + j by omega]
/-- How many have not come up yet. -/
def unlisted (listed : Array Bool) (l : List Nat) : Nat := l.countP fun i => !listed.getD i true
theorem unlisted_mono (listed : Array Bool) (j : Nat) : ∀ l : List Nat, unlisted (listed.setIfInBounds j true) l ≤ unlisted listed l
  | [] => Nat.le_refl _
  | i :: l => by
    have ih := unlisted_mono listed j l
    unfold unlisted at *
    simp only [List.countP_cons]
    have : (!(listed.setIfInBounds j true).getD i true) = true → (!listed.getD i true) = true := by
      intro h
      by_cases e : j = i
      · subst e
        exfalso
        rcases Nat.lt_or_ge j listed.size with h' | h'
        · simp [h'] at h
        · simp [Array.getElem?_eq_none h'] at h
      · rwa [getD_set_ne true e] at h
    by_cases h1 : (!(listed.setIfInBounds j true).getD i true) = true
    · rw [if_pos h1, if_pos (this h1)]; omega
    · rw [if_neg h1]; omega
theorem unlisted_less (listed : Array Bool) (j : Nat) (hj : listed.getD j true = false) : ∀ l : List Nat, j ∈ l → unlisted (listed.setIfInBounds j true) l < unlisted listed l
  | [], h => by simp at h
  | i :: l, h => by
    have hm := unlisted_mono listed j l
    by_cases e : i = j
    · subst e
      unfold unlisted at *
      simp only [List.countP_cons]
      have h1 : (!(listed.setIfInBounds i true).getD i true) = false := by
        have hlt : i < listed.size := by
          rcases Nat.lt_or_ge i listed.size with h' | h'
          · exact h'
          · simp [Array.getElem?_eq_none h'] at hj
        simp [hlt]
      rw [if_neg (by rw [h1]; decide), if_pos (by rw [hj]; rfl)]
      omega
    · have ih := unlisted_less listed j hj l (by simp at h; rcases h with h | h; exact absurd h.symm e; exact h)
      unfold unlisted at *
      simp only [List.countP_cons, getD_set_ne true (Ne.symm e)]
      omega
theorem getD_le {listed : Array Bool} {i : Nat} (h : listed.getD i false = true) : listed.getD i true = true := by
  rcases Nat.lt_or_ge i listed.size with h' | h'
  · simp [h'] at h ⊢; exact h
  · simp [Array.getElem?_eq_none h']
/-- What is said of an operation's value: which it is; or a property that lasts while memory grows. -/
inductive Told where
  | exact (v : Value)
  | grows (R : Value → World → Prop)
def Told.holds : Told → Value → World → Prop
  | .exact v, u, _ => u = v
  | .grows R, u, w => R u w
def Told.lasts : Told → Prop
  | .exact _ => True
  | .grows R => ∀ v w w', R v w → Below w.heap.size w w' → R v w'
/-- What operation o may lean on: the properties of those that it waits for. -/
def leans (o : Oper) (w : World) : Nat → List (Option (Value × (Value → World → Prop))) → Prop
  | _, [] => True
  | k, none :: F => leans o w (k + 1) F
  | k, some x :: F => (waits o k = true → x.2 x.1 w) ∧ leans o w (k + 1) F
def factsAll (w : World) : List (Option (Value × (Value → World → Prop))) → Prop
  | [] => True
  | none :: F => factsAll w F
  | some x :: F => x.2 x.1 w ∧ factsAll w F
/-- The value that is laid into the frame: the told one, if one is told. -/
def laidV (specs : List Told) (vs : Nat → Value) (k : Nat) : Value := match specs[k]? with | some (.exact v) => v | _ => vs k
def factOf (specs : List Told) (vs : Nat → Value) (k : Nat) : Option (Value × (Value → World → Prop)) := match specs[k]? with | some (.grows R) => some (vs k, R) | _ => none
theorem leans_of {specs : List Told} {vs : Nat → Value} {o : Oper} {w : World} : ∀ (n k : Nat), (∀ i, k ≤ i → i < k + n → waits o i = true → ∀ t, specs[i]? = some t → t.holds (vs i) w) → leans o w k ((List.range n).map fun i => factOf specs vs (k + i))
  | 0, _, _ => trivial
  | n + 1, k, h => by
    rw [List.range_succ_eq_map, List.map_cons, List.map_map]
    have ih := leans_of (specs := specs) (vs := vs) (o := o) (w := w) n (k + 1) (fun i h1 h2 => h i (by omega) (by omega))
    have e : ((List.range n).map ((fun i => factOf specs vs (k + i)) ∘ Nat.succ)) = (List.range n).map fun i => factOf specs vs (k + 1 + i) := by
      apply List.map_congr_left
      intro i _
      simp only [Function.comp, Nat.succ_eq_add_one]
      rw [show k + (i + 1) = k + 1 + i by omega]
    rw [e, Nat.add_zero]
    cases hf : factOf specs vs k with
    | none => exact ih
    | some x =>
      refine ⟨fun hw => ?_, ih⟩
      unfold factOf at hf
      split at hf
      · rename_i R hR
        simp only [Option.some.injEq] at hf
        subst hf
        exact h k (Nat.le_refl _) (by omega) hw _ hR
      · cases hf
theorem factsAll_of {specs : List Told} {vs : Nat → Value} {w : World} : ∀ (n k : Nat), (∀ i, k ≤ i → i < k + n → ∀ t, specs[i]? = some t → t.holds (vs i) w) → factsAll w ((List.range n).map fun i => factOf specs vs (k + i))
  | 0, _, _ => trivial
  | n + 1, k, h => by
    rw [List.range_succ_eq_map, List.map_cons, List.map_map]
    have ih := factsAll_of (specs := specs) (vs := vs) (w := w) n (k + 1) (fun i h1 h2 => h i (by omega) (by omega))
    have e : ((List.range n).map ((fun i => factOf specs vs (k + i)) ∘ Nat.succ)) = (List.range n).map fun i => factOf specs vs (k + 1 + i) := by
      apply List.map_congr_left
      intro i _
      simp only [Function.comp, Nat.succ_eq_add_one]
      rw [show k + (i + 1) = k + 1 + i by omega]
    rw [e, Nat.add_zero]
    cases hf : factOf specs vs k with
    | none => exact ih
    | some x =>
      refine ⟨?_, ih⟩
      unfold factOf at hf
      split at hf
      · rename_i R hR
        simp only [Option.some.injEq] at hf
        subst hf
        exact h k (Nat.le_refl _) (by omega) _ hR
      · cases hf
end
end Go.Proofs.Ytioddokjogbmnaa.Words
