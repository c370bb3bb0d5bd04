/-
  Of the texts TmPa, OctPlain, ParPlain, ChPlain, Sees, OctText, ParRef, Oct, OctE, ChMem, ParPut, ChAll, Region: what the laws reach.
-/
import Derived.Test.YtfgfiiknbkakaaaTB1
import Derived.OpenShut
import Derived.Deep.Slices
import Derived.Lib.AppendZerosOnto
import Derived.Lib.SlBytesConst
import Derived.Laws.ResultCell

set_option linter.unusedVariables false
set_option linter.unusedSimpArgs false
namespace Go.Proofs.Ytfgfiiknbkakaaa.Tm
open Go.ChangeShapes Go.WideShapes Go.ChangeAt Go.RowKit Go.Deep Go.Proofs.Ytfgfiiknbkakaaa.Words
section
variable {L M : List K} {x : K} {k : Int} {a c e : Nat}
theorem stop_le : (stop k L).length ≤ L.length := List.length_filter_le _ _
theorem put_le : (put k a L).length ≤ L.length + 1 := by
  unfold put
  rw [ins_len]
  have := stop_le (k := k) (L := L)
  omega
theorem z64_app (l m : List Int) : z64 (l ++ m) = z64 l ++ z64 m := List.map_append
end
section
variable {R1 R2 : Mem} {w V V' V'' : World} {p1 p2 : Nat} {L1 L2 : List K} {S : Nat → Prop}
/-- Two tables and a row of numbers beside them. -/
structure TWr (R1 R2 : Mem) (w V : World) (p1 p2 : Nat) (L1 L2 : List K) (v : Value) (l : List Int) : Prop where
  tw : TW R1 R2 w V p1 p2 L1 L2 (fun i => v.ownBlock = some i)
  own : V.ownsRow w.heap.size 3 1 v l.length (z64 l)
theorem TWr.grows (I1 : Rep R1) (I2 : Rep R2) {v : Value} {l : List Int} (h : TWr R1 R2 w V p1 p2 L1 L2 v l) (hb : Below V.heap.size V V') : TWr R1 R2 w V' p1 p2 L1 L2 v l := ⟨h.tw.grows I1 I2 hb, row_below hb h.own⟩
/-- The row has grown. -/
theorem TWr.app (I1 : Rep R1) (I2 : Rep R2) {v v' : Value} {l m : List Int} {n : Nat} (h : TWr R1 R2 w V p1 p2 L1 L2 v l) (hg : V.grownBy V' v.ownBlock) (hn : n = (l ++ m).length) (ho : V'.ownsRow w.heap.size 3 1 v' n (z64 l ++ z64 m)) (hb : v'.ownBlock = v.ownBlock ∨ v'.ownBlock = some V.heap.size) : TWr R1 R2 w V' p1 p2 L1 L2 v' (l ++ m) := by
  subst hn
  rw [← z64_app] at ho
  refine ⟨h.tw.grown I1 I2 hg (fun g hg' => ⟨hg', (h.own.lt g hg').1⟩) (fun i hi => ?_), ho⟩
  have hi' : v'.ownBlock = some i := hi
  rcases hb with e | e
  · exact .inl (e ▸ hi')
  · rw [hi'] at e
    injection e with e
    subst e
    exact .inr ⟨Nat.le_refl _, (ho.lt _ hi').2⟩
theorem TWr.swap {v : Value} {l : List Int} (h : TWr R1 R2 w V p1 p2 L1 L2 v l) : TWr R2 R1 w V p2 p1 L2 L1 v l := ⟨h.tw.swap, h.own⟩
theorem TWr.len (I : TmI R1) (I2 : Rep R2) {v : Value} {l : List Int} (h : TWr R1 R2 w V p1 p2 L1 L2 v l) :
    Calls Try.prog 26 #[tptr p1] V fun e w' => e = .returned (.int .i64 (L1.length : Int)) ∧ Hid (Below V.heap.size V w') ∧ Hid (TWr R1 R2 w w' p1 p2 L1 L2 v l) :=
  (h.tw.len I I2).mono (fun e w' ⟨h1, _, h3⟩ => ⟨h1, h3, h.grows I.toRep I2 h3.out⟩)
theorem reads_i64 {A : Option Addr} {n B j : Nat} {l : List Int} (h : Reads V B 1 A n (z64 l)) (hj : j < n) : ∃ (ad : Addr) (x : Int), A = some ad ∧ l[j]? = some x ∧ V.cell? (ad.add j) = some (.int .i64 x) := by
  obtain ⟨ad, u, h1, _, h2, h3⟩ := h.at_ hj
  rw [List.getElem?_map] at h2
  cases hl : l[j]? with
  | none => rw [hl] at h2; cases h2
  | some x =>
    rw [hl] at h2
    injection h2 with h2
    exact ⟨ad, x, h1, rfl, by rw [h3, ← h2]⟩
theorem TWr.due (I : TmI R1) (I2 : Rep R2) {v : Value} {l : List Int} {now : Nat} (h : TWr R1 R2 w V p1 p2 L1 L2 v l) (hn : now ≤ 18446744073709551615) :
    Calls Try.prog 22 #[tptr p1, .int .u64 (now : Int)] V fun e w' => ∃ (A : Option Addr) (c n : Nat), e = .returned (.slice A n c) ∧ n ≤ c ∧ c ≤ 9223372036854775807 ∧ Hid (n = (dueL now L1).length) ∧ Hid (Reads w' w'.heap.size 1 A n (z64 ((dueL now L1).map (·.2)))) ∧ Hid (w.heap.size ≤ w'.heap.size) ∧ Hid (TWr R1 R2 w w' p1 p2 (dueR now L1) L2 v l) := by
  refine (h.tw.due I I2 hn).mono ?_
  rintro e w' ⟨A, c, n, rfl, h1, h2, h3, h4, h5, h6⟩
  exact ⟨A, c, n, rfl, h1, h2, h3, Reads.of_own h4.out, h5.out.bel.size, ⟨h5.out.more I.toRep I2 (Below.refl _ _) (fun i hi => .inl (.inl hi)), h6.out.own h.own (fun g hg => hg)⟩⟩
end
end Go.Proofs.Ytfgfiiknbkakaaa.Tm

set_option linter.unusedVariables false
set_option linter.unusedSimpArgs false
namespace Go.Proofs.Ytfgfiiknbkakaaa.Oct
open Go.RowKit Go.Proofs.Ytfgfiiknbkakaaa.Words
def byteAt (v m : Nat) : UInt8 := UInt8.ofNat (v / 2 ^ (8 * m))
/-- The last n bytes of v, the most significant first. -/
def be (v n : Nat) : List UInt8 := (List.range n).map fun d => byteAt v (n - 1 - d)
/-- The number of bytes, the most significant first. -/
def num (l : List UInt8) : Nat := l.foldl (fun v x => 256 * v + x.toNat) 0
end Go.Proofs.Ytfgfiiknbkakaaa.Oct

set_option linter.unusedVariables false
set_option linter.unusedSimpArgs false
namespace Go.Proofs.Ytfgfiiknbkakaaa.Par
open Go.RowKit Go.Proofs.Ytfgfiiknbkakaaa.Words Go.Proofs.Ytfgfiiknbkakaaa.Oct
/-- A parameter: its kind and its value. -/
abbrev Prm := Nat × List UInt8
def padC (n : Nat) : Nat := (4 - n % 4) % 4
/-- How long a list is as bytes, at most. -/
def sizeL (ls : List Prm) : Nat := (ls.map fun p => 4 + p.2.length).sum
/-- The first parameter of bytes, and how many bytes it has. -/
def one (b : List UInt8) : Except Nat (Prm × Nat) :=
  if b.length < 4 then .error 40 else
  if num ((b.drop 2).take 2) < 4 then .error 42 else
  if b.length < (num ((b.drop 2).take 2) + 3) / 4 * 4 then .error 40 else
  if ((b.drop (num ((b.drop 2).take 2))).take ((num ((b.drop 2).take 2) + 3) / 4 * 4 - num ((b.drop 2).take 2))).any (· != 0) then .error 42
  else .ok ((num (b.take 2), (b.drop 4).take (num ((b.drop 2).take 2) - 4)), (num ((b.drop 2).take 2) + 3) / 4 * 4)
end Go.Proofs.Ytfgfiiknbkakaaa.Par

set_option linter.unusedVariables false
set_option linter.unusedSimpArgs false
namespace Go.Proofs.Ytfgfiiknbkakaaa.Chk
open Go.RowKit Go.Proofs.Ytfgfiiknbkakaaa.Words Go.Proofs.Ytfgfiiknbkakaaa.Oct Go.Proofs.Ytfgfiiknbkakaaa.Par
/-- A gap: from, to. What is skipped: the stream, unordered or not, the message's number. -/
abbrev Gp := Nat × Nat
abbrev Skp := Nat × Bool × Nat
structure Ck where
  kind : Nat
  bg : Bool
  en : Bool
  lo : Bool
  ba : Bool
  tsn : Nat
  st : Nat
  mid : Nat
  pp : Nat
  fr : Nat
  tag : Nat
  win : Nat
  out : Nat
  inn : Nat
  gaps : List Gp
  dups : List Nat
  skips : List Skp
  ps : List Prm
  body : List UInt8
structure Ck.ok (c : Ck) : Prop where
  kind : c.kind < 256
  tsn : c.tsn < 4294967296
  st : c.st < 65536
  mid : c.mid < 4294967296
  pp : c.pp < 4294967296
  fr : c.fr < 4294967296
  tag : c.tag < 4294967296
  win : c.win < 4294967296
  out : c.out < 65536
  inn : c.inn < 65536
  gaps : ∀ g ∈ c.gaps, g.1 < 65536 ∧ g.2 < 65536
  dups : ∀ d ∈ c.dups, d < 4294967296
  skips : ∀ s ∈ c.skips, s.1 < 65536 ∧ s.2.2 < 4294967296
  ps : ∀ p ∈ c.ps, p.1 < 65536
def frame (k f : Nat) (x : List UInt8) : List UInt8 := be k 1 ++ (be f 1 ++ (be (x.length + 4) 2 ++ (x ++ List.replicate (padC x.length) 0)))
def sksN : Nat → List UInt8 → List Skp
  | 0, _ => []
  | n + 1, l => (num (l.take 2), false, num ((l.drop 2).take 2)) :: sksN n (l.drop 4)
def sksV : Nat → List UInt8 → List Skp
  | 0, _ => []
  | n + 1, l => (num (l.take 2), num ((l.drop 2).take 2) == 1, num ((l.drop 4).take 4)) :: sksV n (l.drop 8)
/-- Is each of the unordered ones' marks nought or one? -/
def sksOk : Nat → List UInt8 → Bool
  | 0, _ => true
  | n + 1, l => decide (num ((l.drop 2).take 2) ≤ 1) && sksOk n (l.drop 8)
def zeroC (k : Nat) : Ck := ⟨k, false, false, false, false, 0, 0, 0, 0, 0, 0, 0, 0, 0, [], [], [], [], []⟩
end Go.Proofs.Ytfgfiiknbkakaaa.Chk

set_option linter.unusedVariables false
set_option linter.unusedSimpArgs false
namespace Go.Proofs.Ytfgfiiknbkakaaa.Words
open Go.ChangeShapes Go.WideShapes Go.ChangeAt Go.RowKit Go.Deep
inductive Sh where
  | int (k : IntKind)
  | bool
  | str
  | slice (e : Sh)
  | arr (n : Nat) (e : Sh)
  | strct (s : Sh)
  | pair (a b : Sh)
  | nil
def Sh.size : Sh → Nat
  | .int _ => 1
  | .bool => 1
  | .str => 1
  | .slice _ => 1
  | .arr n e => n * e.size
  | .strct s => s.size
  | .pair a b => a.size + b.size
  | .nil => 0
/-- What the memory shows of cells of a shape. -/
def Sees (w : World) : Sh → List Value → Prop
  | .int k, cs => ∃ n, cs = [.int k n] ∧ (Lit.int k n).wf = true
  | .bool, cs => ∃ b, cs = [.bool b]
  | .str, cs => ∃ s, cs = [.string s] ∧ s.size ≤ maxLen
  | .slice e, cs => cs = [.slice none 0 0] ∨ ∃ a len cap, cs = [.slice (some a) len cap] ∧ len ≤ cap ∧ cap ≤ maxLen ∧
      ∀ i, i < cap → ∃ cs', cs'.length = e.size ∧ (∀ j u, cs'[j]? = some u → w.cell? (a.add (i * e.size + j)) = some u) ∧ Sees w e cs'
  | .arr n e, cs => cs.length = n * e.size ∧ ∀ i, i < n → Sees w e ((cs.drop (i * e.size)).take e.size)
  | .strct s, cs => Sees w s cs
  | .pair a b, cs => ∃ x y, cs = x ++ y ∧ x.length = a.size ∧ Sees w a x ∧ Sees w b y
  | .nil, cs => cs = []
def Sh.chain : Sh → Bool
  | .pair _ _ => true
  | .nil => true
  | _ => false
/-- Has a type this shape? (A chain of pairs: the fields from 'off' on.) -/
def fitsB (P : Program) : Sh → TypeId → Nat → List Field → Bool
  | .int k, t, _, _ => match P.underlying t with | some (.int k') => k' == k | _ => false
  | .bool, t, _, _ => match P.underlying t with | some .bool => true | _ => false
  | .str, t, _, _ => match P.underlying t with | some .string => true | _ => false
  | .slice e, t, _, _ => match P.underlying t with | some (.slice te) => !e.chain && (P.cellsOf te == e.size && fitsB P e te 0 []) | _ => false
  | .arr n e, t, _, _ => match P.underlying t with | some (.array n' te) => !e.chain && (n' == n && (P.cellsOf te == e.size && (P.cellsOf t == n * e.size && fitsB P e te 0 []))) | _ => false
  | .strct s, t, _, _ => match P.underlying t with | some (.struct fs) => s.chain && (P.cellsOf t == s.size && fitsB P s 0 0 fs.toList) | _ => false
  | .pair _ _, _, _, [] => false
  | .pair a b, _, off, f :: fs => !a.chain && (b.chain && (f.offset == off && (P.cellsOf f.type == a.size && (fitsB P a f.type 0 [] && fitsB P b 0 (off + a.size) fs))))
  | .nil, _, _, fs => fs.isEmpty
section
variable {H : Type} {enc : TypeId × Value → H} {P : Program} {w : World} {base : Nat}
theorem sees_both : ∀ (sh : Sh),
    (∀ t fuel cs x, sh.chain = false → fitsB P sh t 0 [] = true → DataW.trod enc P w base (fun _ => true) true fuel t cs = some x → Sees w sh cs) ∧
    (∀ (off : Nat) (fs : List Field) (cs : List Value), sh.chain = true → fitsB P sh 0 off fs = true → (∀ f ∈ fs, ∃ x n, DataW.trod enc P w base (fun _ => true) true n f.type ((cs.drop f.offset).take (P.cellsOf f.type)) = some x) → cs.length = off + sh.size → Sees w sh (cs.drop off)) := by
  intro sh
  induction sh with
  | int k =>
    refine ⟨fun t fuel cs x _ hf h => ?_, fun _ _ _ h => by cases h⟩
    simp only [fitsB] at hf
    split at hf
    · rename_i k' hu
      have hk : k' = k := by simpa using hf
      subst hk
      obtain ⟨n, rfl, _, hw⟩ := DataW.trod_int hu h
      exact ⟨n, rfl, hw⟩
    · cases hf
  | bool =>
    refine ⟨fun t fuel cs x _ hf h => ?_, fun _ _ _ h => by cases h⟩
    simp only [fitsB] at hf
    split at hf
    · rename_i hu
      obtain ⟨b, rfl, _⟩ := DataW.trod_bool hu h
      exact ⟨b, rfl⟩
    · cases hf
  | str =>
    refine ⟨fun t fuel cs x _ hf h => ?_, fun _ _ _ h => by cases h⟩
    simp only [fitsB] at hf
    split at hf
    · rename_i hu
      obtain ⟨s, rfl, _, hs⟩ := DataW.trod_string hu h
      exact ⟨s, rfl, hs⟩
    · cases hf
  | slice e ih =>
    refine ⟨fun t fuel cs x _ hf h => ?_, fun _ _ _ h => by cases h⟩
    simp only [fitsB] at hf
    split at hf
    · rename_i te hu
      simp only [Bool.and_eq_true, beq_iff_eq, Bool.not_eq_true'] at hf
      rcases open_slice hu h with ⟨h0, _⟩ | ⟨a, len, cap, m, n, D, Pl, rfl, hb, hl, hm, hmm, _, hx⟩
      · exact .inl h0
      · simp only [if_true] at hmm
        subst hmm
        refine .inr ⟨a, len, m, rfl, hl, hm, fun i hi => ?_⟩
        obtain ⟨cs', h1, h2⟩ := hx i hi
        rw [hf.2.1] at h1
        obtain ⟨_, hlen, hcell⟩ := World.cells?_some h1
        refine ⟨cs', hlen, fun j u hu' => ?_, ih.1 _ _ _ _ hf.1 hf.2.2 h2⟩
        have hj : j < e.size := by rw [← hlen]; exact (List.getElem?_eq_some_iff.1 hu').1
        have := hcell j hj
        rw [add_of_add] at this
        rw [this, hu']
    · cases hf
  | arr n e ih =>
    refine ⟨fun t fuel cs x _ hf h => ?_, fun _ _ _ h => by cases h⟩
    simp only [fitsB] at hf
    split at hf
    · rename_i n' te hu
      simp only [Bool.and_eq_true, beq_iff_eq, Bool.not_eq_true'] at hf
      obtain ⟨hc, rfl, hs, ht, hf⟩ := hf
      obtain ⟨ys, m, rfl, _, hl, hyl, hall⟩ := DataW.trod_array hu h
      refine ⟨by rw [hl, ht], fun i hi => ?_⟩
      have h1 := hall i hi
      rw [hs, List.getElem?_eq_getElem (by omega)] at h1
      exact ih.1 _ _ _ _ hc hf h1
    · cases hf
  | strct s ih =>
    refine ⟨fun t fuel cs x _ hf h => ?_, fun _ _ _ h => by cases h⟩
    simp only [fitsB] at hf
    split at hf
    · rename_i fs hu
      simp only [Bool.and_eq_true, beq_iff_eq] at hf
      obtain ⟨xs, n, rfl, _, hl, hxl, hall⟩ := DataW.trod_struct hu h
      have := ih.2 0 fs.toList cs hf.1 hf.2.2 (fun f hfm => by
        obtain ⟨i, hi, rfl⟩ := List.mem_iff_getElem.1 hfm
        have h1 := hall i _ (by simpa using Array.getElem?_eq_getElem (xs := fs) (by simpa using hi))
        rw [List.getElem?_eq_getElem (by rw [hxl]; simpa using hi)] at h1
        exact ⟨_, _, by simpa using h1⟩) (by rw [hl, hf.2.1]; omega)
      rw [List.drop_zero] at this
      exact this
    · cases hf
  | pair a b iha ihb =>
    refine ⟨fun _ _ _ _ h => by simp [Sh.chain] at h, fun off fs cs _ hf h hl => ?_⟩
    cases fs with
    | nil => simp [fitsB] at hf
    | cons f fs =>
      simp only [fitsB, Bool.and_eq_true, beq_iff_eq, Bool.not_eq_true'] at hf
      obtain ⟨hca, hcb, ho, hs, hfa, hfb⟩ := hf
      obtain ⟨x, n, h1⟩ := h f (by simp)
      rw [ho, hs] at h1
      simp only [Sh.size] at hl
      refine ⟨(cs.drop off).take a.size, cs.drop (off + a.size), ?_, ?_, iha.1 _ _ _ _ hca hfa h1, ihb.2 (off + a.size) fs cs hcb hfb (fun g hg => h g (by simp [hg])) (by omega)⟩
      · rw [← List.drop_drop, List.take_append_drop]
      · rw [List.length_take, List.length_drop]; omega
  | nil =>
    refine ⟨fun _ _ _ _ h => by simp [Sh.chain] at h, fun off fs cs _ hf h hl => ?_⟩
    simp only [Sh.size] at hl
    show cs.drop off = []
    rw [List.drop_of_length_le (by omega)]
theorem sees_of {sh : Sh} {t : TypeId} {v : Value} {d : DataW H} {p : List MemPlace} (hc : sh.chain = false) (hf : fitsB P sh t 0 [] = true) (h : DataW.Trod enc P w base (fun _ => true) true t v d p) : Sees w sh v.cells.toList := by
  obtain ⟨fuel, h⟩ := h
  exact (sees_both sh).1 _ _ _ _ hc hf h
end
theorem Sees.keep {w w' : World} : ∀ (sh : Sh) (cs : List Value), Sees w sh cs → Below w.heap.size w w' → Sees w' sh cs := by
  intro sh
  induction sh with
  | int k => intro cs h _; exact h
  | bool => intro cs h _; exact h
  | str => intro cs h _; exact h
  | slice e ih =>
    intro cs h hb
    rcases h with h | ⟨a, len, cap, h1, h2, h3, h4⟩
    · exact .inl h
    · refine .inr ⟨a, len, cap, h1, h2, h3, fun i hi => ?_⟩
      obtain ⟨cs', h5, h6, h7⟩ := h4 i hi
      exact ⟨cs', h5, fun j u hu => (hb.cell (World.block_lt_of_cell? w _ (h6 j u hu))).trans (h6 j u hu), ih _ h7 hb⟩
  | arr n e ih =>
    intro cs h hb
    exact ⟨h.1, fun i hi => ih _ (h.2 i hi) hb⟩
  | strct s ih =>
    intro cs h hb
    exact ih cs h hb
  | pair a b iha ihb =>
    intro cs h hb
    obtain ⟨x, y, h1, h2, h3, h4⟩ := h
    exact ⟨x, y, h1, h2, iha _ h3 hb, ihb _ h4 hb⟩
  | nil => intro cs h _; exact h
abbrev Sh.bytes : Sh := .slice (.int .u8)
/-- A slice of integers that is seen, as the shell tells it. -/
theorem Sees.ints {w : World} {k : IntKind} {v : Value} (h : Sees w (.slice (.int k)) [v]) : ∃ a len cap z, v = .slice a len cap ∧ ((a = none ∧ len = 0 ∧ cap = 0 ∧ z = []) ∨ ∃ x, a = some x ∧ len ≤ cap ∧ cap ≤ maxLen ∧ z.length = cap ∧ (∀ i, i < z.length → w.cell? (x.add i) = some (.int k (z.getD i 0))) ∧ ∀ n ∈ z, (Lit.int k n).wf = true) := by
  rcases h with h | ⟨a, len, cap, h1, h2, h3, h4⟩
  · injection h with h _
    exact ⟨none, 0, 0, [], h, .inl ⟨rfl, rfl, rfl, rfl⟩⟩
  · injection h1 with h1 _
    obtain ⟨D, hD⟩ := choose_lt (α := Int) (n := cap) (p := fun i n => w.cell? (a.add i) = some (.int k n) ∧ (Lit.int k n).wf = true) (fun i hi => by
      obtain ⟨cs', h5, h6, n, rfl, hw⟩ := h4 i hi
      refine ⟨n, ?_, hw⟩
      have := h6 0 (.int k n) rfl
      simpa [Sh.size] using this)
    refine ⟨some a, len, cap, (List.range cap).map D, h1, .inr ⟨a, rfl, h2, h3, by simp, fun i hi => ?_, fun n hn => ?_⟩⟩
    · have hi' : i < cap := by simpa using hi
      rw [(hD i hi').1]
      simp [List.getD_eq_getElem?_getD, hi']
    · simp only [List.mem_map, List.mem_range] at hn
      obtain ⟨i, hi, rfl⟩ := hn
      exact (hD i hi).2
/-- Bytes that are seen. -/
theorem Sees.bytes {w : World} {v : Value} (h : Sees w Sh.bytes [v]) : ∃ (a : Option Addr) (c : Nat) (l : List UInt8), v = .slice a l.length c ∧ l.length ≤ c ∧ c ≤ 9223372036854775807 ∧ Byt w w.heap.size a l := by
  obtain ⟨a, len, cap, z, rfl, hr⟩ := h.ints
  obtain ⟨l, rfl, h1, h2, h3⟩ := bytes_of hr
  exact ⟨a, cap, l, rfl, h1, h2, h3⟩
/-- A slice of whatever, element by element. -/
theorem Sees.elems {w : World} {e : Sh} {v : Value} (h : Sees w (.slice e) [v]) : ∃ (A : Option Addr) (len cap : Nat), v = .slice A len cap ∧ len ≤ cap ∧ cap ≤ 9223372036854775807 ∧
    ∀ i, i < len → ∃ a cs', A = some a ∧ cs'.length = e.size ∧ (∀ j u, cs'[j]? = some u → w.cell? (a.add (i * e.size + j)) = some u) ∧ Sees w e cs' := by
  rcases h with h | ⟨a, len, cap, h1, h2, h3, h4⟩
  · injection h with h _
    exact ⟨none, 0, 0, h, Nat.le_refl _, by omega, fun i hi => by omega⟩
  · injection h1 with h1 _
    refine ⟨some a, len, cap, h1, h2, by unfold maxLen at h3; omega, fun i hi => ?_⟩
    obtain ⟨cs', h5, h6, h7⟩ := h4 i (by omega)
    exact ⟨a, cs', rfl, h5, h6, h7⟩
end Go.Proofs.Ytfgfiiknbkakaaa.Words

set_option linter.unusedVariables false
set_option linter.unusedSimpArgs false
namespace Go.Proofs.Ytfgfiiknbkakaaa.Oct
open Go.ChangeShapes Go.WideShapes Go.ChangeAt Go.RowKit Go.Proofs.Ytfgfiiknbkakaaa.Words
def lenOf : Value → Nat | .slice _ n _ => n | _ => 0
end Go.Proofs.Ytfgfiiknbkakaaa.Oct

set_option linter.unusedVariables false
set_option linter.unusedSimpArgs false
namespace Go.Proofs.Ytfgfiiknbkakaaa.Par
open Go.ChangeShapes Go.WideShapes Go.ChangeAt Go.RowKit Go.Deep Go.Proofs.Ytfgfiiknbkakaaa.Words Go.Proofs.Ytfgfiiknbkakaaa.Oct
/-- A slice of parameters that reads as the list ls, below block B. -/
def Ps (w : World) (B : Nat) (A : Option Addr) (ls : List Prm) : Prop :=
  ∀ k p, ls[k]? = some p → ∃ ad a c, A = some ad ∧ ad.block < B ∧ p.1 < 65536 ∧ w.cell? (ad.add (k * 2)) = some (.int .u16 (p.1 : Int)) ∧
    w.cell? ⟨(ad.add (k * 2)).block, (ad.add (k * 2)).off + 1, none⟩ = some (.slice a p.2.length c) ∧ p.2.length ≤ c ∧ c ≤ 9223372036854775807 ∧ Byt w B a p.2
section
variable {w w' : World} {B B' : Nat} {A : Option Addr} {ls : List Prm}
theorem Ps.keep (h : Ps w B A ls) (hk : ∀ p : Addr, p.block < B → w'.cell? p = w.cell? p) : Ps w' B A ls := fun k p hp => by
  obtain ⟨ad, a, c, h1, h2, h3, h4, h5, h6, h7, h8⟩ := h k p hp
  have hb : (ad.add (k * 2)).block < B := by rw [block_of_add]; exact h2
  exact ⟨ad, a, c, h1, h2, h3, (hk _ hb).trans h4, (hk ⟨(ad.add (k * 2)).block, (ad.add (k * 2)).off + 1, none⟩ hb).trans h5, h6, h7, h8.keep hk⟩
theorem Ps.more (h : Ps w B A ls) (hB : B ≤ B') : Ps w B' A ls := fun k p hp => by
  obtain ⟨ad, a, c, h1, h2, h3, h4, h5, h6, h7, h8⟩ := h k p hp
  exact ⟨ad, a, c, h1, by omega, h3, h4, h5, h6, h7, h8.more hB⟩
theorem Ps.below (h : Ps w B A ls) (hb : Below B w w') : Ps w' B A ls := h.keep fun _ hp => hb.cell hp
theorem Ps.drewN (h : Ps w B A ls) (n : Nat) : Ps (w.drewN n) B A ls := h
theorem Ps.nil (w : World) (B : Nat) (A : Option Addr) : Ps w B A [] := fun k p hp => by simp at hp
end
/-- A row of parameters of the call's own, their values rows of bytes of its own. -/
def OwnPs (w : World) (B : Nat) (v : Value) (ls : List Prm) : Prop :=
  ∃ xs, w.ownsRow B 125 2 v ls.length xs ∧ ∀ k p, ls[k]? = some p → p.1 < 65536 ∧ ∃ a c, xs[k * 2]? = some (.int .u16 (p.1 : Int)) ∧ xs[k * 2 + 1]? = some (.slice a p.2.length c) ∧ p.2.length ≤ c ∧ c ≤ 9223372036854775807 ∧ Own w B (.slice a p.2.length c) p.2
theorem own_ne {w : World} {B B' : Nat} {e e' : TypeId} {s s' n n' : Nat} {v v' : Value} {xs xs' : List Value} (h : w.ownsRow B e s v n xs) (h' : w.ownsRow B' e' s' v' n' xs') (hne : e ≠ e') : ∀ g, v.ownBlock = some g → v'.ownBlock ≠ some g := by
  intro g hg hg'
  rcases h.2 with ⟨rfl, _⟩ | ⟨b, cap, cur, rfl, _, hb, _⟩
  · simp [Value.ownBlock] at hg
  · rcases h'.2 with ⟨rfl, _⟩ | ⟨b', cap', cur', rfl, _, hb', _⟩
    · simp [Value.ownBlock] at hg'
    · simp only [Value.ownBlock, Option.some.injEq] at hg hg'
      subst hg hg'
      exact Blk.ne_ (t := e) (t' := e') hb hb' hne rfl
section
variable {w w' : World} {B B' : Nat} {v : Value} {ls : List Prm}
theorem OwnPs.nil (w : World) (B : Nat) : OwnPs w B (.slice none 0 0) [] := ⟨[], World.ownsRow_nil _ _ _ _, fun k p h => by simp at h⟩
theorem OwnPs.fr {S : Nat → Prop} (h : OwnPs w B v ls) (k : Fr S w w') (hS : ∀ i, S i → i < w.heap.size → i < B) : OwnPs w' B v ls := by
  obtain ⟨xs, h1, h2⟩ := h
  refine ⟨xs, k.own h1 (fun g hg hi => by have := h1.lt g hg; have := hS g hi this.2; omega), fun i p hp => ?_⟩
  obtain ⟨h3, a, c, h4, h5, h6, h7, h8⟩ := h2 i p hp
  exact ⟨h3, a, c, h4, h5, h6, h7, k.own h8 (fun g hg hi => by have := h8.lt g hg; have := hS g hi this.2; omega)⟩
theorem OwnPs.grows (h : OwnPs w B v ls) (k : Below w.heap.size w w') : OwnPs w' B v ls := h.fr (Fr.of_below k) (fun i hi hlt => by omega)
theorem OwnPs.mono (h : OwnPs w B v ls) (hB : B' ≤ B) : OwnPs w B' v ls := by
  obtain ⟨xs, h1, h2⟩ := h
  refine ⟨xs, own_mono h1 hB, fun i p hp => ?_⟩
  obtain ⟨h3, a, c, h4, h5, h6, h7, h8⟩ := h2 i p hp
  exact ⟨h3, a, c, h4, h5, h6, h7, own_mono h8 hB⟩
theorem OwnPs.slice (h : OwnPs w B v ls) : ∃ A c, v = .slice A ls.length c ∧ ls.length ≤ c ∧ c ≤ 9223372036854775807 := by
  obtain ⟨xs, h1, _⟩ := h
  exact own_slice h1
theorem OwnPs.ps {A : Option Addr} {n c : Nat} (h : OwnPs w B (.slice A n c) ls) : Ps w w.heap.size A ls := fun k p hp => by
  obtain ⟨xs, h1, h2⟩ := h
  obtain ⟨h3, a, c', h4, h5, h6, h7, h8⟩ := h2 k p hp
  have hk : k < ls.length := (List.getElem?_eq_some_iff.1 hp).1
  obtain ⟨g, cap, hv, hg1, hg2⟩ := h1.form (by omega)
  injection hv with hv _ _
  subst hv
  have hcell := h1.cells (g := g) rfl
  refine ⟨⟨g, 0, none⟩, a, c', rfl, hg2, h3, hcell _ _ h4, ?_, h6, h7, Own.byt h8⟩
  have := hcell _ _ h5
  rwa [← add_of_add, add_lit _ (by omega)] at this
/-- A row of parameters behind another: 'append(p, q...)'. -/
theorem OwnPs.app {vq v' : Value} {lq : List Prm} {xs xq : List Value} {n : Nat} (hx : w.ownsRow B 125 2 v ls.length xs) (hxs : ∀ k p, ls[k]? = some p → p.1 < 65536 ∧ ∃ a c, xs[k * 2]? = some (.int .u16 (p.1 : Int)) ∧ xs[k * 2 + 1]? = some (.slice a p.2.length c) ∧ p.2.length ≤ c ∧ c ≤ 9223372036854775807 ∧ Own w B (.slice a p.2.length c) p.2)
    (hq : xq.length = lq.length * 2) (hqs : ∀ k p, lq[k]? = some p → p.1 < 65536 ∧ ∃ a c, xq[k * 2]? = some (.int .u16 (p.1 : Int)) ∧ xq[k * 2 + 1]? = some (.slice a p.2.length c) ∧ p.2.length ≤ c ∧ c ≤ 9223372036854775807 ∧ Own w B (.slice a p.2.length c) p.2)
    (hg : w.grownBy w' v.ownBlock) (ho : w'.ownsRow B 125 2 v' n (xs ++ xq)) (hn : n = ls.length + lq.length) : OwnPs w' B v' (ls ++ lq) := by
  have hf := Fr.of_grown hg
  have keep : ∀ {u : Value} {l : List UInt8}, Own w B u l → Own w' B u l := fun {u l} hu => hf.own hu (fun g hg hi => own_ne hx hu (by decide) g hi.symm hg)
  have hl := hx.1
  refine ⟨_, by rw [List.length_append, ← hn]; exact ho, fun k q hk => ?_⟩
  by_cases hlt : k < ls.length
  · rw [List.getElem?_append_left hlt] at hk
    obtain ⟨h3, a, c, h4, h5, h6, h7, h8⟩ := hxs k q hk
    exact ⟨h3, a, c, by rw [List.getElem?_append_left (by omega)]; exact h4, by rw [List.getElem?_append_left (by omega)]; exact h5, h6, h7, keep h8⟩
  · rw [List.getElem?_append_right (by omega)] at hk
    obtain ⟨h3, a, c, h4, h5, h6, h7, h8⟩ := hqs (k - ls.length) q hk
    refine ⟨h3, a, c, ?_, ?_, h6, h7, keep h8⟩
    · rw [List.getElem?_append_right (by omega), show k * 2 - xs.length = (k - ls.length) * 2 by omega]; exact h4
    · rw [List.getElem?_append_right (by omega), show k * 2 + 1 - xs.length = (k - ls.length) * 2 + 1 by omega]; exact h5
end
end Go.Proofs.Ytfgfiiknbkakaaa.Par

set_option linter.unusedVariables false
set_option linter.unusedSimpArgs false
namespace Go.Proofs.Ytfgfiiknbkakaaa.Oct
open Go.ChangeShapes Go.WideShapes Go.ChangeAt Go.RowKit Go.Proofs.Ytfgfiiknbkakaaa.Words
section
variable {w w' : World} {p G : Nat} {l : List UInt8} {bad : Bool}
end
/-- The frame of a reader's step. -/
abbrev At (p : Nat) : Nat → Prop := fun k => k = p
end Go.Proofs.Ytfgfiiknbkakaaa.Oct

set_option linter.unusedVariables false
set_option linter.unusedSimpArgs false
namespace Go.Proofs.Ytfgfiiknbkakaaa.Oct
open Go.ChangeShapes Go.WideShapes Go.ChangeAt Go.RowKit Go.Proofs.Ytfgfiiknbkakaaa.Words
section
variable {w w' : World} {p B : Nat} {v : Value} {l : List UInt8} {lg : Bool}
end
/-- What is left behind n bytes; whether that is bad; the number of n bytes; n bytes. -/
def cutL (n : Nat) (l : List UInt8) : List UInt8 := if n ≤ l.length then l.drop n else []
def cutB (n : Nat) (l : List UInt8) (bad : Bool) : Bool := if n ≤ l.length then bad else true
def val (n : Nat) (l : List UInt8) : Nat := if n ≤ l.length then num (l.take n) else 0
theorem cutL_yes {n : Nat} {l : List UInt8} (h : n ≤ l.length) : cutL n l = l.drop n := if_pos h
theorem cutB_yes {n : Nat} {l : List UInt8} (h : n ≤ l.length) (bad : Bool) : cutB n l bad = bad := if_pos h
theorem cutB_no {n : Nat} {l : List UInt8} (h : ¬ n ≤ l.length) (bad : Bool) : cutB n l bad = true := if_neg h
theorem val_yes {n : Nat} {l : List UInt8} (h : n ≤ l.length) : val n l = num (l.take n) := if_pos h
theorem val_cut {a b : Nat} {l : List UInt8} (h : b + a ≤ l.length) : val a (cutL b l) = num ((l.drop b).take a) := by
  rw [cutL_yes (by omega), val_yes (by rw [List.length_drop]; omega)]
end Go.Proofs.Ytfgfiiknbkakaaa.Oct

set_option linter.unusedVariables false
set_option linter.unusedSimpArgs false
namespace Go.Proofs.Ytfgfiiknbkakaaa.Chk
open Go.ChangeShapes Go.WideShapes Go.ChangeAt Go.RowKit Go.Deep Go.Proofs.Ytfgfiiknbkakaaa.Words Go.Proofs.Ytfgfiiknbkakaaa.Oct Go.Proofs.Ytfgfiiknbkakaaa.Par
/-- A chunk's cells: its plain fields, its five lists. -/
def ckArr (c : Ck) (gv dv sv pv bv : Value) : Array Value :=
  #[.int .u8 (c.kind : Int), .bool c.bg, .bool c.en, .bool c.lo, .bool c.ba, .int .u32 (c.tsn : Int), .int .u16 (c.st : Int), .int .u32 (c.mid : Int), .int .u32 (c.pp : Int), .int .u32 (c.fr : Int), .int .u32 (c.tag : Int), .int .u32 (c.win : Int),
    .int .u16 (c.out : Int), .int .u16 (c.inn : Int), gv, dv, sv, pv, bv]
def gapC (l : List Gp) : List Value := (l.map fun g => [Value.int .u16 (g.1 : Int), .int .u16 (g.2 : Int)]).flatten
def dupC (l : List Nat) : List Value := l.map fun d : Nat => Value.int .u32 (d : Int)
def skC (l : List Skp) : List Value := (l.map fun s => [Value.int .u16 (s.1 : Int), .bool s.2.1, .int .u32 (s.2.2 : Int)]).flatten
/-- A list's head: where it lies, how long, what room. -/
structure Hd where
  A : Option Addr
  cap : Nat
def Hd.v (h : Hd) (n : Nat) : Value := .slice h.A n h.cap
def Hd.okN (h : Hd) (n : Nat) : Prop := n ≤ h.cap ∧ h.cap ≤ 9223372036854775807
/-- Cells that read as the chunk c, its lists below block B. -/
structure CkAt (w : World) (B : Nat) (cs : Array Value) (c : Ck) : Prop where
  ok : c.ok
  ex : ∃ g d s p b : Hd, cs = ckArr c (g.v c.gaps.length) (d.v c.dups.length) (s.v c.skips.length) (p.v c.ps.length) (b.v c.body.length) ∧
    g.okN c.gaps.length ∧ d.okN c.dups.length ∧ s.okN c.skips.length ∧ p.okN c.ps.length ∧ b.okN c.body.length ∧
    Reads w B 2 g.A c.gaps.length (gapC c.gaps) ∧ Reads w B 1 d.A c.dups.length (dupC c.dups) ∧ Reads w B 3 s.A c.skips.length (skC c.skips) ∧ Ps w B p.A c.ps ∧ Byt w B b.A c.body
section
variable {w w' : World} {B B' : Nat} {cs : Array Value} {c : Ck}
theorem CkAt.keep (h : CkAt w B cs c) (hk : ∀ p : Addr, p.block < B → w'.cell? p = w.cell? p) : CkAt w' B cs c := by
  obtain ⟨ok, g, d, s, p, b, e, h1, h2, h3, h4, h5, r1, r2, r3, r4, r5⟩ := h
  exact ⟨ok, g, d, s, p, b, e, h1, h2, h3, h4, h5, r1.keep hk, r2.keep hk, r3.keep hk, r4.keep hk, r5.keep hk⟩
theorem CkAt.more (h : CkAt w B cs c) (hB : B ≤ B') : CkAt w B' cs c := by
  obtain ⟨ok, g, d, s, p, b, e, h1, h2, h3, h4, h5, r1, r2, r3, r4, r5⟩ := h
  exact ⟨ok, g, d, s, p, b, e, h1, h2, h3, h4, h5, r1.more hB, r2.more hB, r3.more hB, r4.more hB, r5.more hB⟩
theorem CkAt.below (h : CkAt w B cs c) (hb : Below B w w') : CkAt w' B cs c := h.keep fun _ hp => hb.cell hp
theorem CkAt.fr {S : Nat → Prop} (h : CkAt w B cs c) (k : Fr S w w') (hB : B ≤ w.heap.size) (hS : ∀ i, S i → B ≤ i) : CkAt w' B cs c :=
  h.keep fun p hp => World.cell?_of_block (k.block _ (by omega) (fun hs => by have := hS _ hs; omega))
theorem CkAt.drewN (h : CkAt w B cs c) (n : Nat) : CkAt (w.drewN n) B cs c := h.keep fun _ _ => rfl
theorem CkAt.drew (h : CkAt w B cs c) : CkAt w.drew B cs c := h.keep fun _ _ => rfl
theorem CkAt.size (h : CkAt w B cs c) : cs.size = 19 := by obtain ⟨_, g, d, s, p, b, rfl, _⟩ := h; rfl
theorem CkAt.one (h : CkAt w B cs c) : cs.all (·.oneCell') = true := by obtain ⟨_, g, d, s, p, b, rfl, _⟩ := h; simp [ckArr, Value.oneCell', Hd.v]
end
/-- A chunk's variable. -/
abbrev CkBlk (w : World) (g : Nat) (cs : Array Value) : Prop := Blk w g 35 cs
/-- What the walk is told of a chunk's cells. -/
structure Cells (cs : Array Value) (c : Ck) (g d s p b : Hd) : Prop where
  size : cs.size = 19
  c0 : cs[0]? = some (.int .u8 (c.kind : Int))
  c1 : cs[1]? = some (.bool c.bg)
  c2 : cs[2]? = some (.bool c.en)
  c3 : cs[3]? = some (.bool c.lo)
  c4 : cs[4]? = some (.bool c.ba)
  c5 : cs[5]? = some (.int .u32 (c.tsn : Int))
  c6 : cs[6]? = some (.int .u16 (c.st : Int))
  c7 : cs[7]? = some (.int .u32 (c.mid : Int))
  c8 : cs[8]? = some (.int .u32 (c.pp : Int))
  c9 : cs[9]? = some (.int .u32 (c.fr : Int))
  c10 : cs[10]? = some (.int .u32 (c.tag : Int))
  c11 : cs[11]? = some (.int .u32 (c.win : Int))
  c12 : cs[12]? = some (.int .u16 (c.out : Int))
  c13 : cs[13]? = some (.int .u16 (c.inn : Int))
  c14 : cs[14]? = some (.slice g.A c.gaps.length g.cap)
  c15 : cs[15]? = some (.slice d.A c.dups.length d.cap)
  c16 : cs[16]? = some (.slice s.A c.skips.length s.cap)
  c17 : cs[17]? = some (.slice p.A c.ps.length p.cap)
  c18 : cs[18]? = some (.slice b.A c.body.length b.cap)
structure Lists (w : World) (B : Nat) (c : Ck) (g d s p b : Hd) : Prop where
  okg : g.okN c.gaps.length
  okd : d.okN c.dups.length
  oks : s.okN c.skips.length
  okp : p.okN c.ps.length
  okb : b.okN c.body.length
  gaps : Reads w B 2 g.A c.gaps.length (gapC c.gaps)
  dups : Reads w B 1 d.A c.dups.length (dupC c.dups)
  skips : Reads w B 3 s.A c.skips.length (skC c.skips)
  ps : Ps w B p.A c.ps
  body : Byt w B b.A c.body
/-- A chunk's variable, just made: its cell, and what it stands beside. -/
theorem CkBlk.at {w : World} {g : Nat} {cs : Array Value} {i : Nat} {v : Value} (h : CkBlk w g cs) (hv : cs[i]? = some v) : w.cell? ⟨g, i, none⟩ = some v := (h.cell i).trans hv
end Go.Proofs.Ytfgfiiknbkakaaa.Chk

set_option linter.unusedVariables false
set_option linter.unusedSimpArgs false
namespace Go.Proofs.Ytfgfiiknbkakaaa.Par
open Go.ChangeShapes Go.WideShapes Go.ChangeAt Go.RowKit Go.Deep Go.Proofs.Ytfgfiiknbkakaaa.Words Go.Proofs.Ytfgfiiknbkakaaa.Oct
/-- Where a list of bytes stands beside the loop's variable. -/
structure BSt (w V : World) (gv : Nat) (b : Value) (l : List UInt8) (cs : Array Value) : Prop where
  own : Own V w.heap.size b l
  blk : Blk V gv 125 cs
  below : Below w.heap.size w V
section
variable {w V V' : World} {gv : Nat} {b b' : Value} {l l' : List UInt8} {cs : Array Value}
theorem BSt.grows (h : BSt w V gv b l cs) (k : Below V.heap.size V V') : BSt w V' gv b l cs :=
  ⟨(Fr.of_below k).own h.own (fun g hg hi => by have := (h.own.lt g hg).2; omega), h.blk.below k h.blk.lt, h.below.trans (k.mono h.below.size)⟩
theorem BSt.app (h : BSt w V gv b l cs) (ho : Own V' w.heap.size b' l') (hg : V.grownBy V' b.ownBlock) : BSt w V' gv b' l' cs :=
  ⟨ho, (Fr.of_grown hg).blk h.blk (fun e => own_blk_ne h.own h.blk (by decide) e.symm), h.below.grown hg h.below.size (fun g hg => (h.own.lt g hg).1)⟩
end
end Go.Proofs.Ytfgfiiknbkakaaa.Par

set_option linter.unusedVariables false
set_option linter.unusedSimpArgs false
namespace Go.Proofs.Ytfgfiiknbkakaaa.Chk
open Go.ChangeShapes Go.WideShapes Go.ChangeAt Go.RowKit Go.Deep Go.Proofs.Ytfgfiiknbkakaaa.Words Go.Proofs.Ytfgfiiknbkakaaa.Oct Go.Proofs.Ytfgfiiknbkakaaa.Par
/-- How great a chunk is. -/
structure Small (c : Ck) : Prop where
  body : c.body.length ≤ 450000
  skips : 8 * c.skips.length ≤ 450000
  ps : sizeL c.ps ≤ 450000
end Go.Proofs.Ytfgfiiknbkakaaa.Chk

set_option linter.unusedVariables false
set_option linter.unusedSimpArgs false
namespace Go.Proofs.Ytfgfiiknbkakaaa.Words
open Go.ChangeShapes Go.WideShapes Go.ChangeAt Go.RowKit
section
variable {P : Program} {ops : Array Oper}
/-- What an operation leaves: a value and a world, of which R holds; no way out by panic. -/
def Leaves (P : Program) (R : Value → World → Prop) : Result Next → Prop
  | .ok (.value v) w' => R v w'
  | .ok .skip w' => R undef w'
  | .ok (.enter f args) w' => Calls P f args w' (fun e w'' => ∃ v, e = .returned v ∧ R v w'')
  | _ => False
theorem wp_of_leaves {o : Oper} {a b : Act} {w : World} {R : Value → World → Prop} {K : Act → World → Prop} {Q : Exit → Act → World → Prop} (he : execOp a.eval o = execOp b.eval o)
    (h : Leaves P R ((execOp b.eval o).run P w)) (hK : ∀ v w', R v w' → K (a.put o.dst v) w') : o.wp P a w K Q := by
  unfold Oper.wp
  rw [he]
  generalize (execOp b.eval o).run P w = r at h
  cases r with
  | ok n w' =>
    cases n <;> simp only [Leaves] at h <;> simp only [Oper.upon]
    case value v => exact hK _ _ h
    case skip => exact hK _ _ h
    case enter f args => exact h.mono fun e w'' ⟨v, he, hv⟩ => by subst he; exact hK _ _ hv
  | halt x w' => simp only [Leaves] at h
/-- The frame behind some of the operations, in the order of the text. -/
def puts : List Oper → Nat → (Nat → Bool) → (Nat → Value) → Act → Act
  | [], _, _, _, a => a
  | o :: r, k, L, vs, a => puts r (k + 1) L vs (if L k then a.put o.dst (vs k) else a)
def dstApart (x y : Oper) : Bool := match x.dst with | some d => y.dst != some d | none => true
def dstsB : List Oper → Bool
  | [] => true
  | o :: r => r.all (dstApart o) && dstsB r
theorem puts_out (d : Option Tmp) (v : Value) : ∀ (l : List Oper) (k : Nat) (L : Nat → Bool) (vs : Nat → Value) (a : Act), (∀ o ∈ l, ∀ e, d = some e → o.dst ≠ some e) → puts l k L vs (a.put d v) = (puts l k L vs a).put d v
  | [], _, _, _, _, _ => rfl
  | o :: r, k, L, vs, a, h => by
    unfold puts
    split
    · rw [Act.put_comm a v (vs k) (h o (by simp))]
      exact puts_out d v r _ _ _ _ (fun o' ho' => h o' (by simp [ho']))
    · exact puts_out d v r _ _ _ _ (fun o' ho' => h o' (by simp [ho']))
theorem puts_congr : ∀ (l : List Oper) (k : Nat) (L L' : Nat → Bool) (vs vs' : Nat → Value) (a : Act), (∀ i, k ≤ i → L i = L' i) → (∀ i, k ≤ i → vs i = vs' i) → puts l k L vs a = puts l k L' vs' a
  | [], _, _, _, _, _, _, _, _ => rfl
  | o :: r, k, L, L', vs, vs', a, h, h' => by
    unfold puts
    rw [h k (Nat.le_refl _), h' k (Nat.le_refl _)]
    exact puts_congr r _ _ _ _ _ _ (fun i hi => h i (by omega)) (fun i hi => h' i (by omega))
theorem dstApart_spec {x y : Oper} (h : dstApart x y = true) : ∀ e, x.dst = some e → y.dst ≠ some e := by
  intro e he
  unfold dstApart at h
  rw [he] at h
  simpa using h
theorem puts_put (j : Nat) (oj : Oper) (v : Value) : ∀ (l : List Oper) (k : Nat) (L : Nat → Bool) (vs : Nat → Value) (a : Act), dstsB l = true → k ≤ j → l[j - k]? = some oj → L j = false →
    (puts l k L vs a).put oj.dst v = puts l k (fun i => if i = j then true else L i) (fun i => if i = j then v else vs i) a
  | [], _, _, _, _, _, _, h, _ => by simp at h
  | o :: r, k, L, vs, a, hd, hk, hj, hL => by
    simp only [dstsB, Bool.and_eq_true, List.all_eq_true] at hd
    unfold puts
    by_cases hkj : k = j
    · subst hkj
      simp only [Nat.sub_self, List.getElem?_cons_zero, Option.some.injEq] at hj
      subst hj
      simp only [hL, if_true, Bool.false_eq_true, if_false]
      rw [puts_out _ _ _ _ _ _ _ (fun o' ho' => dstApart_spec (hd.1 o' ho'))]
      congr 1
      exact puts_congr _ _ _ _ _ _ _ (fun i hi => by rw [if_neg (by omega)]) (fun i hi => by rw [if_neg (by omega)])
    · simp only [hkj, if_false]
      refine puts_put j oj v r (k + 1) L vs _ hd.2 (by omega) ?_ hL
      rw [← hj, show j - k = (j - (k + 1)) + 1 by omega, List.getElem?_cons_succ]
/-- Two frames that an operation cannot tell apart. -/
def Agree (T : List Tmp) (a b : Act) : Prop := a.tmps.size = b.tmps.size ∧ ∀ t ∈ T, a.tmps[t]? = b.tmps[t]?
theorem Agree.put {T : List Tmp} {a b : Act} (h : Agree T a b) (d : Option Tmp) (v : Value) : Agree T (a.put d v) (b.put d v) := by
  cases d with
  | none => exact h
  | some d =>
    refine ⟨by simp [Act.put, h.1], fun t ht => ?_⟩
    simp only [Act.put, Array.getElem?_setIfInBounds, h.1, h.2 t ht]
theorem Agree.left {T : List Tmp} {a b : Act} (h : Agree T a b) (d : Option Tmp) (v : Value) (hd : ∀ e, d = some e → e ∉ T) : Agree T (a.put d v) b := by
  cases d with
  | none => exact h
  | some d =>
    refine ⟨by simp [Act.put, h.1], fun t ht => ?_⟩
    have : d ≠ t := fun e => hd d rfl (e ▸ ht)
    simp [Act.put, Array.getElem?_setIfInBounds_ne this, h.2 t ht]
theorem Agree.symm {T : List Tmp} {a b : Act} (h : Agree T a b) : Agree T b a := ⟨h.1.symm, fun t ht => (h.2 t ht).symm⟩
theorem Agree.puts {T : List Tmp} : ∀ (l : List Oper) (k : Nat) (L L' : Nat → Bool) (vs : Nat → Value) (a b : Act), Agree T a b → (∀ i o, l[i]? = some o → L (k + i) ≠ L' (k + i) → ∀ e, o.dst = some e → e ∉ T) →
    Agree T (Words.puts l k L vs a) (Words.puts l k L' vs b)
  | [], _, _, _, _, _, _, h, _ => h
  | o :: r, k, L, L', vs, a, b, h, hd => by
    unfold Words.puts
    refine Agree.puts r (k + 1) L L' vs _ _ ?_ (fun i o' ho' hne => hd (i + 1) o' (by simpa using ho') (by rwa [show k + (i + 1) = k + 1 + i by omega]))
    have h0 := hd 0 o (by simp)
    rw [Nat.add_zero] at h0
    cases hL : L k <;> cases hL' : L' k <;> simp only [Bool.false_eq_true, if_true, if_false]
    · exact h
    · exact (h.symm.left _ _ (h0 (by rw [hL, hL']; decide))).symm
    · exact h.left _ _ (h0 (by rw [hL, hL']; decide))
    · exact h.put _ _
theorem Agree.exec {o : Oper} {a b : Act} (hs : ∀ cs b, o.op ≠ .select cs b) (h : Agree (o.looksAt ops) a b) : execOp a.eval o = execOp b.eval o :=
  execOp_congr o hs fun x hx => by
    cases x with
    | tmp t =>
      have := h.2 t (List.mem_append_left _ (List.mem_filterMap.2 ⟨.tmp t, by simpa using hx, rfl⟩))
      simp only [Act.eval, Array.getD_eq_getD_getElem?, this]
    | _ => rfl
theorem Agree.wanted {o : Oper} {a b : Act} (h : Agree (o.looksAt ops) a b) : Region.wanted o (yielded ops a.tmps) = Region.wanted o (yielded ops b.tmps) := by
  unfold Region.wanted
  cases hg : o.guard with
  | none => rfl
  | some gw =>
    obtain ⟨g, want⟩ := gw
    have hy : yielded ops a.tmps g = yielded ops b.tmps g := by
      unfold yielded
      cases ht : (ops[g]?).bind (·.dst) with
      | none => rfl
      | some t =>
        have := h.2 t (by simp [Oper.looksAt, hg, ht])
        simp [this]
    simp only [hy]
/-- Does operation x wait for operation k? -/
def waits (x : Oper) (k : Nat) : Bool := x.after.any fun e => Region.binds .any e && e.on == k
def looksApart (ops : Array Oper) (i : Nat) (o : Oper) (k : Nat) (x : Oper) : Bool :=
  match x.dst with
  | some d => !(o.looksAt ops).contains d || (if k < i then waits o k else if i < k then waits x i else true)
  | none => true
def monoFrom (ops : Array Oper) (i : Nat) (o : Oper) : Nat → List Oper → Bool
  | _, [] => true
  | k, x :: r => looksApart ops i o k x && monoFrom ops i o (k + 1) r
def monoAll (ops : Array Oper) : Nat → List Oper → Bool
  | _, [] => true
  | i, o :: r => monoFrom ops i o 0 ops.toList && monoAll ops (i + 1) r
def backFrom : Nat → List Oper → Bool
  | _, [] => true
  | i, o :: r => (o.after.all fun e => !Region.binds .any e || decide (e.on < i)) && backFrom (i + 1) r
theorem backFrom_spec : ∀ (l : List Oper) (i : Nat), backFrom i l = true → ∀ j o, l[j]? = some o → ∀ e ∈ o.after, Region.binds .any e = true → e.on < i + j
  | [], _, _, _, _, h => by simp at h
  | y :: r, k, hm, j, x, h => by
    simp only [backFrom, Bool.and_eq_true] at hm
    cases j with
    | zero =>
      simp only [List.getElem?_cons_zero, Option.some.injEq] at h
      subst h
      intro e he hb
      have := Array.all_eq_true_iff_forall_mem.1 hm.1 e he
      simpa [hb] using this
    | succ j => have := backFrom_spec r (k + 1) hm.2 j x (by simpa using h); rwa [show k + (j + 1) = k + 1 + j by omega]
def growB (ops : Array Oper) : Bool := dstsB ops.toList && Region.noSelect ops && monoAll ops 0 ops.toList && backFrom 0 ops.toList
theorem monoFrom_spec {i : Nat} {o : Oper} : ∀ (l : List Oper) (k : Nat), monoFrom ops i o k l = true → ∀ j x, l[j]? = some x → looksApart ops i o (k + j) x = true
  | [], _, _, _, _, h => by simp at h
  | y :: r, k, hm, j, x, h => by
    simp only [monoFrom, Bool.and_eq_true] at hm
    cases j with
    | zero => simp only [List.getElem?_cons_zero, Option.some.injEq] at h; subst h; exact hm.1
    | succ j => have := monoFrom_spec r (k + 1) hm.2 j x (by simpa using h); rwa [show k + (j + 1) = k + 1 + j by omega]
theorem monoAll_spec : ∀ (l : List Oper) (i : Nat), monoAll ops i l = true → ∀ j o, l[j]? = some o → monoFrom ops (i + j) o 0 ops.toList = true
  | [], _, _, _, _, h => by simp at h
  | y :: r, k, hm, j, x, h => by
    simp only [monoAll, Bool.and_eq_true] at hm
    cases j with
    | zero => simp only [List.getElem?_cons_zero, Option.some.injEq] at h; subst h; exact hm.1
    | succ j => have := monoAll_spec r (k + 1) hm.2 j x (by simpa using h); rwa [show k + (j + 1) = k + 1 + j by omega]
/-- How many have not come up yet. -/
def unlisted (listed : Array Bool) (l : List Nat) : Nat := l.countP fun i => !listed.getD i true
theorem unlisted_mono (listed : Array Bool) (j : Nat) : ∀ l : List Nat, unlisted (listed.setIfInBounds j true) l ≤ unlisted listed l
  | [] => Nat.le_refl _
  | i :: l => by
    have ih := unlisted_mono listed j l
    unfold unlisted at *
    simp only [List.countP_cons]
    have : (!(listed.setIfInBounds j true).getD i true) = true → (!listed.getD i true) = true := by
      intro h
      by_cases e : j = i
      · subst e
        exfalso
        rcases Nat.lt_or_ge j listed.size with h' | h'
        · simp [h'] at h
        · simp [Array.getElem?_eq_none h'] at h
      · rwa [getD_set_ne true e] at h
    by_cases h1 : (!(listed.setIfInBounds j true).getD i true) = true
    · rw [if_pos h1, if_pos (this h1)]; omega
    · rw [if_neg h1]; omega
theorem unlisted_less (listed : Array Bool) (j : Nat) (hj : listed.getD j true = false) : ∀ l : List Nat, j ∈ l → unlisted (listed.setIfInBounds j true) l < unlisted listed l
  | [], h => by simp at h
  | i :: l, h => by
    have hm := unlisted_mono listed j l
    by_cases e : i = j
    · subst e
      unfold unlisted at *
      simp only [List.countP_cons]
      have h1 : (!(listed.setIfInBounds i true).getD i true) = false := by
        have hlt : i < listed.size := by
          rcases Nat.lt_or_ge i listed.size with h' | h'
          · exact h'
          · simp [Array.getElem?_eq_none h'] at hj
        simp [hlt]
      rw [if_neg (by rw [h1]; decide), if_pos (by rw [hj]; rfl)]
      omega
    · have ih := unlisted_less listed j hj l (by simp at h; rcases h with h | h; exact absurd h.symm e; exact h)
      unfold unlisted at *
      simp only [List.countP_cons, getD_set_ne true (Ne.symm e)]
      omega
theorem getD_le {listed : Array Bool} {i : Nat} (h : listed.getD i false = true) : listed.getD i true = true := by
  rcases Nat.lt_or_ge i listed.size with h' | h'
  · simp [h'] at h ⊢; exact h
  · simp [Array.getElem?_eq_none h']
/-- What is said of an operation's value: which it is; or a property that lasts while memory grows. -/
inductive Told where
  | exact (v : Value)
  | grows (R : Value → World → Prop)
def Told.holds : Told → Value → World → Prop
  | .exact v, u, _ => u = v
  | .grows R, u, w => R u w
def Told.lasts : Told → Prop
  | .exact _ => True
  | .grows R => ∀ v w w', R v w → Below w.heap.size w w' → R v w'
/-- What operation o may lean on: the properties of those that it waits for. -/
def leans (o : Oper) (w : World) : Nat → List (Option (Value × (Value → World → Prop))) → Prop
  | _, [] => True
  | k, none :: F => leans o w (k + 1) F
  | k, some x :: F => (waits o k = true → x.2 x.1 w) ∧ leans o w (k + 1) F
def factsAll (w : World) : List (Option (Value × (Value → World → Prop))) → Prop
  | [] => True
  | none :: F => factsAll w F
  | some x :: F => x.2 x.1 w ∧ factsAll w F
/-- The value that is laid into the frame: the told one, if one is told. -/
def laidV (specs : List Told) (vs : Nat → Value) (k : Nat) : Value := match specs[k]? with | some (.exact v) => v | _ => vs k
def factOf (specs : List Told) (vs : Nat → Value) (k : Nat) : Option (Value × (Value → World → Prop)) := match specs[k]? with | some (.grows R) => some (vs k, R) | _ => none
theorem leans_of {specs : List Told} {vs : Nat → Value} {o : Oper} {w : World} : ∀ (n k : Nat), (∀ i, k ≤ i → i < k + n → waits o i = true → ∀ t, specs[i]? = some t → t.holds (vs i) w) → leans o w k ((List.range n).map fun i => factOf specs vs (k + i))
  | 0, _, _ => trivial
  | n + 1, k, h => by
    rw [List.range_succ_eq_map, List.map_cons, List.map_map]
    have ih := leans_of (specs := specs) (vs := vs) (o := o) (w := w) n (k + 1) (fun i h1 h2 => h i (by omega) (by omega))
    have e : ((List.range n).map ((fun i => factOf specs vs (k + i)) ∘ Nat.succ)) = (List.range n).map fun i => factOf specs vs (k + 1 + i) := by
      apply List.map_congr_left
      intro i _
      simp only [Function.comp, Nat.succ_eq_add_one]
      rw [show k + (i + 1) = k + 1 + i by omega]
    rw [e, Nat.add_zero]
    cases hf : factOf specs vs k with
    | none => exact ih
    | some x =>
      refine ⟨fun hw => ?_, ih⟩
      unfold factOf at hf
      split at hf
      · rename_i R hR
        simp only [Option.some.injEq] at hf
        subst hf
        exact h k (Nat.le_refl _) (by omega) hw _ hR
      · cases hf
theorem factsAll_of {specs : List Told} {vs : Nat → Value} {w : World} : ∀ (n k : Nat), (∀ i, k ≤ i → i < k + n → ∀ t, specs[i]? = some t → t.holds (vs i) w) → factsAll w ((List.range n).map fun i => factOf specs vs (k + i))
  | 0, _, _ => trivial
  | n + 1, k, h => by
    rw [List.range_succ_eq_map, List.map_cons, List.map_map]
    have ih := factsAll_of (specs := specs) (vs := vs) (w := w) n (k + 1) (fun i h1 h2 => h i (by omega) (by omega))
    have e : ((List.range n).map ((fun i => factOf specs vs (k + i)) ∘ Nat.succ)) = (List.range n).map fun i => factOf specs vs (k + 1 + i) := by
      apply List.map_congr_left
      intro i _
      simp only [Function.comp, Nat.succ_eq_add_one]
      rw [show k + (i + 1) = k + 1 + i by omega]
    rw [e, Nat.add_zero]
    cases hf : factOf specs vs k with
    | none => exact ih
    | some x =>
      refine ⟨?_, ih⟩
      unfold factOf at hf
      split at hf
      · rename_i R hR
        simp only [Option.some.injEq] at hf
        subst hf
        exact h k (Nat.le_refl _) (by omega) _ hR
      · cases hf
end
end Go.Proofs.Ytfgfiiknbkakaaa.Words
