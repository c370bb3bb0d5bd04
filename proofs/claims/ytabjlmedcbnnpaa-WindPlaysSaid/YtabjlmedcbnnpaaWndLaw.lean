/-
  A script of acts that came in.
-/
import Derived.Test.YtabjlmedcbnnpaaWndRef
import Derived.Test.YtabjlmedcbnnpaaSees
import Derived.BigQuiet
set_option linter.unusedVariables false
set_option linter.unusedSimpArgs false
namespace Go.Proofs.Ytabjlmedcbnnpaa.Wnd
open Go.ChangeShapes Go.WideShapes Go.ChangeAt Go.RowKit Go.Proofs.Ytabjlmedcbnnpaa.Words

abbrev ActSh : Sh := .strct (.pair (.int .i64) (.pair (.int .i64) (.pair (.int .i64) (.pair .bool .nil))))
/-- The i-th act of a script. -/
def ActAt (w : World) (ad : Addr) (i : Nat) (K N F : Int) (b : Bool) : Prop :=
  w.cell? (ad.add (i * 4)) = some (.int .i64 K) ∧ w.cell? ⟨(ad.add (i * 4)).block, (ad.add (i * 4)).off + 1, none⟩ = some (.int .i64 N) ∧ w.cell? ⟨(ad.add (i * 4)).block, (ad.add (i * 4)).off + 2, none⟩ = some (.int .i64 F) ∧ w.cell? ⟨(ad.add (i * 4)).block, (ad.add (i * 4)).off + 3, none⟩ = some (.bool b) ∧
  (-9223372036854775808 ≤ K ∧ K ≤ 9223372036854775807) ∧ (-9223372036854775808 ≤ N ∧ N ≤ 9223372036854775807) ∧ (-9223372036854775808 ≤ F ∧ F ≤ 9223372036854775807)
theorem actAt_of {w : World} {A : Option Addr} {n : Nat} (h : ∀ i, i < n → ∃ a cs', A = some a ∧ cs'.length = ActSh.size ∧ (∀ j u, cs'[j]? = some u → w.cell? (a.add (i * ActSh.size + j)) = some u) ∧ Sees w ActSh cs') (i : Nat) (hi : i < n) :
    ∃ ad K N F b, A = some ad ∧ ActAt w ad i K N F b := by
  obtain ⟨a, cs, hA, hl, hc, hs⟩ := h i hi
  obtain ⟨c1, r1, rfl, h1, ⟨K, rfl, hK⟩, c2, r2, rfl, h2, ⟨N, rfl, hN⟩, c3, r3, rfl, h3, ⟨F, rfl, hF⟩, c4, r4, rfl, h4, ⟨b, rfl⟩, rfl⟩ := hs
  refine ⟨a, K, N, F, b, hA, ?_, ?_, ?_, ?_, bounds_i64 hK, bounds_i64 hN, bounds_i64 hF⟩
  · exact hc 0 _ rfl
  · have := hc 1 _ rfl
    rw [← add_of_add, add_lit _ (by omega)] at this
    exact this
  · have := hc 2 _ rfl
    rw [← add_of_add, add_lit _ (by omega)] at this
    exact this
  · have := hc 3 _ rfl
    rw [← add_of_add, add_lit _ (by omega)] at this
    exact this
theorem ActAt.keep {w w' : World} {ad : Addr} {i : Nat} {K N F : Int} {b : Bool} (h : ActAt w ad i K N F b) (hb : Below w.heap.size w w') : ActAt w' ad i K N F b := by
  obtain ⟨h1, h2, h3, h4, h5, h6, h7⟩ := h
  have k : ∀ {p : Addr} {u : Value}, w.cell? p = some u → w'.cell? p = some u := fun {p u} h => (hb.cell (World.block_lt_of_cell? w _ h)).trans h
  exact ⟨k h1, k h2, k h3, k h4, h5, h6, h7⟩
theorem S1.alloc {w wr : World} {p : Nat} {x : Wi} (h : S1 w wr p x) (o : Obj) : S1 w (wr.alloc o) p x := ⟨⟨h.e.blk.alloc _, Fr.refl _ _⟩, h.b.alloc h.b.size _, h.le⟩
/-- The same, with the act in a variable of the round's own, block g. -/
structure S1o (w wr : World) (p : Nat) (x : Wi) (g : Nat) (K N F : Int) (b : Bool) : Prop where
  s : S1 w wr p x
  o : Blk wr g 29 #[.int .i64 K, .int .i64 N, .int .i64 F, .bool b]
  ne : g ≠ p
  ge : w.heap.size ≤ g
theorem S1o.new {w wr : World} {p : Nat} {x : Wi} (h : S1 w wr p x) (K N F : Int) (b : Bool) : S1o w (wr.alloc (.cells #[.int .i64 K, .int .i64 N, .int .i64 F, .bool b] 29)) p x wr.heap.size K N F b :=
  ⟨h.alloc _, Blk.new _ _ _, by have := h.e.blk.lt; omega, h.b.size⟩
section
variable {w wr : World} {p g k : Nat} {x : Wi} {K N F : Int} {b : Bool}
theorem S1o.step {w' : World} {y : Wi} (h : S1o w wr p x g K N F b) (k : P_ wr w' p y) : S1o w w' p y g K N F b := ⟨h.s.step k, k.fr.blk h.o h.ne, h.ne, h.ge⟩
theorem S1o.acked (h : S1o w wr p x g K N F b) (ok : x.Ok k) (n f : Int) (hn : -9223372036854775808 ≤ n ∧ n ≤ 9223372036854775807) (on : Bool) : Calls Try.prog 10 #[ptr p, .int .i64 n, .int .i64 f, .bool on] wr fun e w' => e = .returned (.tuple #[]) ∧ Hid (S1o w w' p (ack x n f on) g K N F b) :=
  (acked_any h.s.e ok n f hn on).mono (by rintro e w' ⟨rfl, h1⟩; exact ⟨rfl, h.step h1⟩)
theorem S1o.lost (h : S1o w wr p x g K N F b) (ok : x.Ok k) : Calls Try.prog 12 #[ptr p] wr fun e w' => e = .returned (.tuple #[]) ∧ Hid (S1o w w' p (Wnd.lost x) g K N F b) :=
  (lost_any h.s.e ok).mono (by rintro e w' ⟨rfl, h1⟩; exact ⟨rfl, h.step h1⟩)

theorem S1o.late (h : S1o w wr p x g K N F b) (ok : x.Ok k) : Calls Try.prog 14 #[ptr p] wr fun e w' => e = .returned (.tuple #[]) ∧ Hid (S1o w w' p (Wnd.late x) g K N F b) :=
  (late_any h.s.e ok).mono (by rintro e w' ⟨rfl, h1⟩; exact ⟨rfl, h.step h1⟩)

theorem S1o.rest (h : S1o w wr p x g K N F b) (ok : x.Ok k) : Calls Try.prog 15 #[ptr p] wr fun e w' => e = .returned (.tuple #[]) ∧ Hid (S1o w w' p (Wnd.rest x) g K N F b) :=
  (rest_any h.s.e ok).mono (by rintro e w' ⟨rfl, h1⟩; exact ⟨rfl, h.step h1⟩)

theorem S1o.size (h : S1o w wr p x g K N F b) : Calls Try.prog 16 #[ptr p] wr fun e w' => e = .returned (.tuple #[.int .i64 x.s, .int .i64 x.t, .int .i64 x.c]) ∧ Hid (S1o w w' p x g K N F b) :=
  (size_any h.s.e).mono (by rintro e w' ⟨rfl, q, rfl⟩; exact ⟨rfl, h.s.drewN q, h.o.drewN q, h.ne, h.ge⟩)
end
end Go.Proofs.Ytabjlmedcbnnpaa.Wnd
