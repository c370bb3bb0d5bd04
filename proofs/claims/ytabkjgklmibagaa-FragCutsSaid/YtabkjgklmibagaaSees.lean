/-
  What came in, whatever its type: a shape (integers, bools, strings, slices, structs, arrays), that a type has it, and what the memory then shows.
-/
import Derived.Test.YtabkjgklmibagaaOpen
import Derived.Deep.Slices
set_option linter.unusedVariables false
set_option linter.unusedSimpArgs false
namespace Go.Proofs.Ytabkjgklmibagaa.Words
open Go.ChangeShapes Go.WideShapes Go.ChangeAt Go.RowKit Go.Deep

inductive Sh where
  | int (k : IntKind)
  | bool
  | str
  | slice (e : Sh)
  | arr (n : Nat) (e : Sh)
  | strct (s : Sh)
  | pair (a b : Sh)
  | nil
def Sh.size : Sh → Nat
  | .int _ => 1
  | .bool => 1
  | .str => 1
  | .slice _ => 1
  | .arr n e => n * e.size
  | .strct s => s.size
  | .pair a b => a.size + b.size
  | .nil => 0
/-- What the memory shows of cells of a shape. -/
def Sees (w : World) : Sh → List Value → Prop
  | .int k, cs => ∃ n, cs = [.int k n] ∧ (Lit.int k n).wf = true
  | .bool, cs => ∃ b, cs = [.bool b]
  | .str, cs => ∃ s, cs = [.string s] ∧ s.size ≤ maxLen
  | .slice e, cs => cs = [.slice none 0 0] ∨ ∃ a len cap, cs = [.slice (some a) len cap] ∧ len ≤ cap ∧ cap ≤ maxLen ∧
      ∀ i, i < cap → ∃ cs', cs'.length = e.size ∧ (∀ j u, cs'[j]? = some u → w.cell? (a.add (i * e.size + j)) = some u) ∧ Sees w e cs'
  | .arr n e, cs => cs.length = n * e.size ∧ ∀ i, i < n → Sees w e ((cs.drop (i * e.size)).take e.size)
  | .strct s, cs => Sees w s cs
  | .pair a b, cs => ∃ x y, cs = x ++ y ∧ x.length = a.size ∧ Sees w a x ∧ Sees w b y
  | .nil, cs => cs = []
def Sh.chain : Sh → Bool
  | .pair _ _ => true
  | .nil => true
  | _ => false
/-- Has a type this shape? (A chain of pairs: the fields from 'off' on.) -/
def fitsB (P : Program) : Sh → TypeId → Nat → List Field → Bool
  | .int k, t, _, _ => match P.underlying t with | some (.int k') => k' == k | _ => false
  | .bool, t, _, _ => match P.underlying t with | some .bool => true | _ => false
  | .str, t, _, _ => match P.underlying t with | some .string => true | _ => false
  | .slice e, t, _, _ => match P.underlying t with | some (.slice te) => !e.chain && (P.cellsOf te == e.size && fitsB P e te 0 []) | _ => false
  | .arr n e, t, _, _ => match P.underlying t with | some (.array n' te) => !e.chain && (n' == n && (P.cellsOf te == e.size && (P.cellsOf t == n * e.size && fitsB P e te 0 []))) | _ => false
  | .strct s, t, _, _ => match P.underlying t with | some (.struct fs) => s.chain && (P.cellsOf t == s.size && fitsB P s 0 0 fs.toList) | _ => false
  | .pair _ _, _, _, [] => false
  | .pair a b, _, off, f :: fs => !a.chain && (b.chain && (f.offset == off && (P.cellsOf f.type == a.size && (fitsB P a f.type 0 [] && fitsB P b 0 (off + a.size) fs))))
  | .nil, _, _, fs => fs.isEmpty

section
variable {H : Type} {enc : TypeId × Value → H} {P : Program} {w : World} {base : Nat}
theorem sees_both : ∀ (sh : Sh),
    (∀ t fuel cs x, sh.chain = false → fitsB P sh t 0 [] = true → DataW.trod enc P w base (fun _ => true) true fuel t cs = some x → Sees w sh cs) ∧
    (∀ (off : Nat) (fs : List Field) (cs : List Value), sh.chain = true → fitsB P sh 0 off fs = true → (∀ f ∈ fs, ∃ x n, DataW.trod enc P w base (fun _ => true) true n f.type ((cs.drop f.offset).take (P.cellsOf f.type)) = some x) → cs.length = off + sh.size → Sees w sh (cs.drop off)) := by
  intro sh
  induction sh with
  | int k =>
    refine ⟨fun t fuel cs x _ hf h => ?_, fun _ _ _ h => by cases h⟩
    simp only [fitsB] at hf
    split at hf
    · rename_i k' hu
      have hk : k' = k := by simpa using hf
      subst hk
      obtain ⟨n, rfl, _, hw⟩ := DataW.trod_int hu h
      exact ⟨n, rfl, hw⟩
    · cases hf
  | bool =>
    refine ⟨fun t fuel cs x _ hf h => ?_, fun _ _ _ h => by cases h⟩
    simp only [fitsB] at hf
    split at hf
    · rename_i hu
      obtain ⟨b, rfl, _⟩ := DataW.trod_bool hu h
      exact ⟨b, rfl⟩
    · cases hf
  | str =>
    refine ⟨fun t fuel cs x _ hf h => ?_, fun _ _ _ h => by cases h⟩
    simp only [fitsB] at hf
    split at hf
    · rename_i hu
      obtain ⟨s, rfl, _, hs⟩ := DataW.trod_string hu h
      exact ⟨s, rfl, hs⟩
    · cases hf
  | slice e ih =>
    refine ⟨fun t fuel cs x _ hf h => ?_, fun _ _ _ h => by cases h⟩
    simp only [fitsB] at hf
    split at hf
    · rename_i te hu
      simp only [Bool.and_eq_true, beq_iff_eq, Bool.not_eq_true'] at hf
      rcases open_slice hu h with ⟨h0, _⟩ | ⟨a, len, cap, m, n, D, Pl, rfl, hb, hl, hm, hmm, _, hx⟩
      · exact .inl h0
      · simp only [if_true] at hmm
        subst hmm
        refine .inr ⟨a, len, m, rfl, hl, hm, fun i hi => ?_⟩
        obtain ⟨cs', h1, h2⟩ := hx i hi
        rw [hf.2.1] at h1
        obtain ⟨_, hlen, hcell⟩ := World.cells?_some h1
        refine ⟨cs', hlen, fun j u hu' => ?_, ih.1 _ _ _ _ hf.1 hf.2.2 h2⟩
        have hj : j < e.size := by rw [← hlen]; exact (List.getElem?_eq_some_iff.1 hu').1
        have := hcell j hj
        rw [add_of_add] at this
        rw [this, hu']
    · cases hf
  | arr n e ih =>
    refine ⟨fun t fuel cs x _ hf h => ?_, fun _ _ _ h => by cases h⟩
    simp only [fitsB] at hf
    split at hf
    · rename_i n' te hu
      simp only [Bool.and_eq_true, beq_iff_eq, Bool.not_eq_true'] at hf
      obtain ⟨hc, rfl, hs, ht, hf⟩ := hf
      obtain ⟨ys, m, rfl, _, hl, hyl, hall⟩ := DataW.trod_array hu h
      refine ⟨by rw [hl, ht], fun i hi => ?_⟩
      have h1 := hall i hi
      rw [hs, List.getElem?_eq_getElem (by omega)] at h1
      exact ih.1 _ _ _ _ hc hf h1
    · cases hf
  | strct s ih =>
    refine ⟨fun t fuel cs x _ hf h => ?_, fun _ _ _ h => by cases h⟩
    simp only [fitsB] at hf
    split at hf
    · rename_i fs hu
      simp only [Bool.and_eq_true, beq_iff_eq] at hf
      obtain ⟨xs, n, rfl, _, hl, hxl, hall⟩ := DataW.trod_struct hu h
      have := ih.2 0 fs.toList cs hf.1 hf.2.2 (fun f hfm => by
        obtain ⟨i, hi, rfl⟩ := List.mem_iff_getElem.1 hfm
        have h1 := hall i _ (by simpa using Array.getElem?_eq_getElem (xs := fs) (by simpa using hi))
        rw [List.getElem?_eq_getElem (by rw [hxl]; simpa using hi)] at h1
        exact ⟨_, _, by simpa using h1⟩) (by rw [hl, hf.2.1]; omega)
      rw [List.drop_zero] at this
      exact this
    · cases hf
  | pair a b iha ihb =>
    refine ⟨fun _ _ _ _ h => by simp [Sh.chain] at h, fun off fs cs _ hf h hl => ?_⟩
    cases fs with
    | nil => simp [fitsB] at hf
    | cons f fs =>
      simp only [fitsB, Bool.and_eq_true, beq_iff_eq, Bool.not_eq_true'] at hf
      obtain ⟨hca, hcb, ho, hs, hfa, hfb⟩ := hf
      obtain ⟨x, n, h1⟩ := h f (by simp)
      rw [ho, hs] at h1
      simp only [Sh.size] at hl
      refine ⟨(cs.drop off).take a.size, cs.drop (off + a.size), ?_, ?_, iha.1 _ _ _ _ hca hfa h1, ihb.2 (off + a.size) fs cs hcb hfb (fun g hg => h g (by simp [hg])) (by omega)⟩
      · rw [← List.drop_drop, List.take_append_drop]
      · rw [List.length_take, List.length_drop]; omega
  | nil =>
    refine ⟨fun _ _ _ _ h => by simp [Sh.chain] at h, fun off fs cs _ hf h hl => ?_⟩
    simp only [Sh.size] at hl
    show cs.drop off = []
    rw [List.drop_of_length_le (by omega)]
theorem sees_of {sh : Sh} {t : TypeId} {v : Value} {d : DataW H} {p : List MemPlace} (hc : sh.chain = false) (hf : fitsB P sh t 0 [] = true) (h : DataW.Trod enc P w base (fun _ => true) true t v d p) : Sees w sh v.cells.toList := by
  obtain ⟨fuel, h⟩ := h
  exact (sees_both sh).1 _ _ _ _ hc hf h
end

/-! ### What was seen stays while what was there stays -/
theorem Sees.keep {w w' : World} : ∀ (sh : Sh) (cs : List Value), Sees w sh cs → Below w.heap.size w w' → Sees w' sh cs := by
  intro sh
  induction sh with
  | int k => intro cs h _; exact h
  | bool => intro cs h _; exact h
  | str => intro cs h _; exact h
  | slice e ih =>
    intro cs h hb
    rcases h with h | ⟨a, len, cap, h1, h2, h3, h4⟩
    · exact .inl h
    · refine .inr ⟨a, len, cap, h1, h2, h3, fun i hi => ?_⟩
      obtain ⟨cs', h5, h6, h7⟩ := h4 i hi
      exact ⟨cs', h5, fun j u hu => (hb.cell (World.block_lt_of_cell? w _ (h6 j u hu))).trans (h6 j u hu), ih _ h7 hb⟩
  | arr n e ih =>
    intro cs h hb
    exact ⟨h.1, fun i hi => ih _ (h.2 i hi) hb⟩
  | strct s ih =>
    intro cs h hb
    exact ih cs h hb
  | pair a b iha ihb =>
    intro cs h hb
    obtain ⟨x, y, h1, h2, h3, h4⟩ := h
    exact ⟨x, y, h1, h2, iha _ h3 hb, ihb _ h4 hb⟩
  | nil => intro cs h _; exact h

/-! ### Particular shapes -/
abbrev Sh.bytes : Sh := .slice (.int .u8)
/-- A slice of integers that is seen, as the shell tells it. -/
theorem Sees.ints {w : World} {k : IntKind} {v : Value} (h : Sees w (.slice (.int k)) [v]) : ∃ a len cap z, v = .slice a len cap ∧ ((a = none ∧ len = 0 ∧ cap = 0 ∧ z = []) ∨ ∃ x, a = some x ∧ len ≤ cap ∧ cap ≤ maxLen ∧ z.length = cap ∧ (∀ i, i < z.length → w.cell? (x.add i) = some (.int k (z.getD i 0))) ∧ ∀ n ∈ z, (Lit.int k n).wf = true) := by
  rcases h with h | ⟨a, len, cap, h1, h2, h3, h4⟩
  · injection h with h _
    exact ⟨none, 0, 0, [], h, .inl ⟨rfl, rfl, rfl, rfl⟩⟩
  · injection h1 with h1 _
    obtain ⟨D, hD⟩ := choose_lt (α := Int) (n := cap) (p := fun i n => w.cell? (a.add i) = some (.int k n) ∧ (Lit.int k n).wf = true) (fun i hi => by
      obtain ⟨cs', h5, h6, n, rfl, hw⟩ := h4 i hi
      refine ⟨n, ?_, hw⟩
      have := h6 0 (.int k n) rfl
      simpa [Sh.size] using this)
    refine ⟨some a, len, cap, (List.range cap).map D, h1, .inr ⟨a, rfl, h2, h3, by simp, fun i hi => ?_, fun n hn => ?_⟩⟩
    · have hi' : i < cap := by simpa using hi
      rw [(hD i hi').1]
      simp [List.getD_eq_getElem?_getD, hi']
    · simp only [List.mem_map, List.mem_range] at hn
      obtain ⟨i, hi, rfl⟩ := hn
      exact (hD i hi).2
/-- Bytes that are seen. -/
theorem Sees.bytes {w : World} {v : Value} (h : Sees w Sh.bytes [v]) : ∃ (a : Option Addr) (c : Nat) (l : List UInt8), v = .slice a l.length c ∧ l.length ≤ c ∧ c ≤ 9223372036854775807 ∧ Byt w w.heap.size a l := by
  obtain ⟨a, len, cap, z, rfl, hr⟩ := h.ints
  obtain ⟨l, rfl, h1, h2, h3⟩ := bytes_of hr
  exact ⟨a, cap, l, rfl, h1, h2, h3⟩
/-- A slice of whatever, element by element. -/
theorem Sees.elems {w : World} {e : Sh} {v : Value} (h : Sees w (.slice e) [v]) : ∃ (A : Option Addr) (len cap : Nat), v = .slice A len cap ∧ len ≤ cap ∧ cap ≤ 9223372036854775807 ∧
    ∀ i, i < len → ∃ a cs', A = some a ∧ cs'.length = e.size ∧ (∀ j u, cs'[j]? = some u → w.cell? (a.add (i * e.size + j)) = some u) ∧ Sees w e cs' := by
  rcases h with h | ⟨a, len, cap, h1, h2, h3, h4⟩
  · injection h with h _
    exact ⟨none, 0, 0, h, Nat.le_refl _, by omega, fun i hi => by omega⟩
  · injection h1 with h1 _
    refine ⟨some a, len, cap, h1, h2, by unfold maxLen at h3; omega, fun i hi => ?_⟩
    obtain ⟨cs', h5, h6, h7⟩ := h4 i (by omega)
    exact ⟨a, cs', rfl, h5, h6, h7⟩
end Go.Proofs.Ytabkjgklmibagaa.Words
