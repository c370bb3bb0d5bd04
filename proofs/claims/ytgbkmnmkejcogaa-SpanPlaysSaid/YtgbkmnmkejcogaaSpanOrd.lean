/-
  What SpanOrder and its like need: two sets that are seen from their first mark; gaps and slices of integers to be read.
-/
import Derived.Test.YtgbkmnmkejcogaaSpanTwo
set_option linter.unusedVariables false
set_option linter.unusedSimpArgs false
namespace Go.Proofs.Ytgbkmnmkejcogaa.Span
open Go.ChangeShapes Go.WideShapes Go.ChangeAt Go.RowKit Go.Proofs.Ytgbkmnmkejcogaa.Ser

theorem row_of {k : IntKind} {w : World} {a : Option Addr} {len cap : Nat} {z : List Int}
    (h : (a = none ∧ len = 0 ∧ cap = 0 ∧ z = []) ∨ ∃ x, a = some x ∧ len ≤ cap ∧ cap ≤ maxLen ∧ z.length = cap ∧ (∀ i, i < z.length → w.cell? (x.add i) = some (.int k (z.getD i 0))) ∧ ∀ n ∈ z, (Lit.int k n).wf = true) :
    len ≤ cap ∧ cap ≤ 9223372036854775807 ∧ ∀ i, i < len → ∃ x, a = some x ∧ x.block < w.heap.size ∧ w.cell? (x.add i) = some (.int k (z.getD i 0)) ∧ (Lit.int k (z.getD i 0)).wf = true := by
  rcases h with ⟨rfl, rfl, rfl, rfl⟩ | ⟨x, rfl, h1, h2, h3, h4, h5⟩
  · exact ⟨Nat.le_refl _, by omega, fun i hi => by omega⟩
  · refine ⟨h1, by unfold maxLen at h2; omega, fun i hi => ⟨x, rfl, ?_, h4 i (by omega), h5 _ ?_⟩⟩
    · have := World.block_lt_of_cell? w _ (h4 i (by omega))
      unfold Addr.add at this
      split at this <;> exact this
    · rw [List.getD_eq_getElem?_getD, List.getElem?_eq_getElem (by omega)]
      exact List.getElem_mem _
/-- The same of a cell, in a later world. -/
theorem row_later {w w' : World} {B : Nat} {x : Addr} {i : Nat} {u : Value} (hb : Below B w w') (hx : x.block < B) (h : w.cell? (x.add i) = some u) : w'.cell? (x.add i) = some u := by
  refine (hb.cell (p := x.add i) ?_).trans h
  unfold Addr.add
  split <;> exact hx

theorem gaps_read {w : World} {B p : Nat} {v : Value} {M : Int} {rs : List (Nat × Nat)} {lo : Nat} (h : SetAt w B p v M rs) (hg : Gp lo rs) (most : Int) (hmo : -9223372036854775808 ≤ most ∧ most ≤ 9223372036854775807) :
    Calls Try.prog 22 #[ptr p, .int .i64 most] w fun e w' => ∃ u, e = .returned u ∧ Hid (GapsAt w' u (rs.take (told rs most)) ∧ w'.ownsRow w.heap.size 58 2 u (told rs most) (gcells (rs.take (told rs most)))) ∧ Below w.heap.size w w' := by
  refine (gaps_any h hg most hmo).mono ?_
  rintro e w' ⟨u, rfl, ho, hb⟩
  have hl : (rs.take (told rs most)).length = told rs most := by unfold told; rw [List.length_take]; omega
  exact ⟨u, rfl, ⟨.of_own (by rw [hl]; exact ho), ho⟩, hb⟩

/-- Two sets that began at one mark; what each knows, seen from there. -/
def OSt (w wr : World) (pa pb : Nat) (a0 : Int) (SA SB : Nat → Prop) : Prop :=
  ∃ va ka ra vb kb rb, Two wr w.heap.size pa va (adr a0 ka) ra pb vb (adr a0 kb) rb ∧ Gp 2 ra ∧ Gp 2 rb ∧ (∀ y, 1 ≤ y → (absB ka ra y = true ↔ SA y)) ∧ (∀ y, 1 ≤ y → (absB kb rb y = true ↔ SB y)) ∧ Below w.heap.size w wr
theorem OSt.symm {w wr : World} {pa pb : Nat} {a0 : Int} {SA SB : Nat → Prop} (h : OSt w wr pa pb a0 SA SB) : OSt w wr pb pa a0 SB SA := by
  obtain ⟨va, ka, ra, vb, kb, rb, h1, h2, h3, h4, h5, h6⟩ := h
  exact ⟨vb, kb, rb, va, ka, ra, h1.symm, h3, h2, h5, h4, h6⟩
theorem OSt.congr {w wr : World} {pa pb : Nat} {a0 : Int} {SA SB SA' SB' : Nat → Prop} (h : OSt w wr pa pb a0 SA SB) (ha : ∀ y, SA y ↔ SA' y) (hb : ∀ y, SB y ↔ SB' y) : OSt w wr pa pb a0 SA' SB' := by
  obtain ⟨va, ka, ra, vb, kb, rb, h1, h2, h3, h4, h5, h6⟩ := h
  exact ⟨va, ka, ra, vb, kb, rb, h1, h2, h3, fun y hy => (h4 y hy).trans (ha y), fun y hy => (h5 y hy).trans (hb y), h6⟩
theorem OSt.below {w wr : World} {pa pb : Nat} {a0 : Int} {SA SB : Nat → Prop} (h : OSt w wr pa pb a0 SA SB) : Below w.heap.size w wr := by
  obtain ⟨va, ka, ra, vb, kb, rb, h1, h2, h3, h4, h5, h6⟩ := h
  exact h6
theorem OSt.addA {w wr : World} {pa pb : Nat} {a0 : Int} {SA SB : Nat → Prop} (h : OSt w wr pa pb a0 SA SB) (hM : 0 ≤ a0 ∧ a0 ≤ 4294967295) (hS : ∀ y, SA y → y ≤ 100) {x : Nat} (hx : x ≤ 100) :
    Calls Try.prog 19 #[ptr pa, .int .u32 (adr a0 x)] wr fun e w' => (∃ n, e = .returned (.int .i64 n)) ∧ OSt w w' pa pb a0 (fun y => SA y ∨ y = x) SB := by
  obtain ⟨va, ka, ra, vb, kb, rb, h1, h2, h3, h4, h5, h6⟩ := h
  have hka : ka ≤ 100 := by
    rcases Nat.eq_zero_or_pos ka with h0 | h0
    · omega
    · exact hS _ ((h4 ka h0).1 (abs_le (Nat.le_refl _)))
  refine (add_t h1.sa h2 (adr_bd a0 x) h6.size).mono ?_
  rintro e w' ⟨v', k, rs', rfl, hs, hg, hA, hk, T⟩
  have ha := add_abs hM (by omega) (by omega) h2 hA
  rw [adr_adr] at hs
  refine ⟨⟨_, rfl⟩, v', ka + k, rs', vb, kb, rb, h1.left T hs, hg, h3, fun y hy => ?_, h5, h6.trans (h1.sa.below_of T)⟩
  show _ ↔ (SA y ∨ y = x)
  rw [ha.1 y hy, ← h4 y hy]
  have hx2 : x ≤ ka + 4096 := by omega
  simp [hx2]
theorem OSt.addB {w wr : World} {pa pb : Nat} {a0 : Int} {SA SB : Nat → Prop} (h : OSt w wr pa pb a0 SA SB) (hM : 0 ≤ a0 ∧ a0 ≤ 4294967295) (hS : ∀ y, SB y → y ≤ 100) {x : Nat} (hx : x ≤ 100) :
    Calls Try.prog 19 #[ptr pb, .int .u32 (adr a0 x)] wr fun e w' => (∃ n, e = .returned (.int .i64 n)) ∧ OSt w w' pa pb a0 SA (fun y => SB y ∨ y = x) :=
  (h.symm.addA hM hS hx).mono fun _ _ ⟨he, h'⟩ => ⟨he, h'.symm⟩
/-- The same numbers: the same sets. -/
theorem OSt.same {w wr : World} {pa pb : Nat} {a0 : Int} {SA SB : Nat → Prop} (h : OSt w wr pa pb a0 SA SB) (hS : ∀ y, SA y ↔ SB y) : ∃ va vb M rs, Two wr w.heap.size pa va M rs pb vb M rs ∧ Gp 2 rs := by
  obtain ⟨va, ka, ra, vb, kb, rb, h1, h2, h3, h4, h5, h6⟩ := h
  obtain ⟨rfl, rfl⟩ := abs_inj h2 h3 (fun y hy => by rw [Bool.eq_iff_iff, h4 y hy, h5 y hy, hS])
  exact ⟨va, vb, _, _, h1, h2⟩
theorem OSt.new {w w1 : World} {pa pb : Nat} {a0 : Int} (hM : 0 ≤ a0 ∧ a0 ≤ 4294967295) (hb : Below w.heap.size w w1) (sa : SetAt w1 w.heap.size pa (.slice none 0 0) a0 []) (sb : SetAt w1 w.heap.size pb (.slice none 0 0) a0 []) (hne : pa ≠ pb) :
    OSt w w1 pa pb a0 (fun _ => False) (fun _ => False) := by
  have e : ∀ y, 1 ≤ y → (absB 0 [] y = true ↔ False) := fun y hy => by unfold absB; simp [knB_nil]; omega
  exact ⟨_, 0, [], _, 0, [], ⟨by rw [adr_zero a0 hM]; exact sa, by rw [adr_zero a0 hM]; exact sb, hne, fun g h => by simp [Value.ownBlock] at h⟩, gp_nil 2, gp_nil 2, e, e, hb⟩
end Go.Proofs.Ytgbkmnmkejcogaa.Span
