/-
  The document's set (flumeref02): settle, Add, Skip, Has.
-/
import Derived.Test.YtgbkmnmkejcogaaSpanRef
import Derived.Deep.LoopGhost
set_option linter.unusedVariables false
set_option linter.unusedSimpArgs false
namespace Go.Proofs.Ytgbkmnmkejcogaa.Span
open Go.ChangeShapes Go.WideShapes Go.ChangeAt Go.RowKit Go.Proofs.Ytgbkmnmkejcogaa.Ser

/-- Nothing is known but from 1 to 4096. -/
def Within (K : Nat → Bool) : Prop := ∀ d, K d = true → 1 ≤ d ∧ d ≤ 4096
theorem within_moved (K : Nat → Bool) (b : Nat) : Within (movedK K b) := by
  intro d h
  unfold movedK at h
  simp at h
  omega
theorem moved_zero {K : Nat → Bool} (h : Within K) : movedK K 0 = K := by
  funext d
  show (decide (1 ≤ d ∧ d + 0 ≤ 4096) && K d) = K d
  cases e : K d
  · simp
  · have := h d e
    simp [this]
theorem moved_moved (K : Nat → Bool) (a : Nat) : movedK (movedK K a) 1 = movedK K (a + 1) := by
  funext d
  unfold movedK
  rw [show d + 1 + a = d + (a + 1) by omega]
  cases K (d + (a + 1))
  · simp
  · rw [Bool.eq_iff_iff]; simp; omega
theorem moved_get {K : Nat → Bool} (h : Within K) {k x : Nat} (hx : 1 ≤ x) : movedK K k x = K (x + k) := by
  unfold movedK
  cases e : K (x + k)
  · simp
  · have := h _ e
    simp; omega
theorem OnlyQ.refl (q : Nat) (w : World) : OnlyQ q w w := World.grownBy.refl w _
theorem OnlyQ.trans {q : Nat} {a b c : World} (h : OnlyQ q a b) (k : OnlyQ q b c) : OnlyQ q a c :=
  ⟨k.os.trans h.os, k.tape.trans h.tape, k.output.trans h.output, Nat.le_trans h.size k.size, fun i hi hne => (k.block i (Nat.lt_of_lt_of_le hi h.size) hne).trans (h.block i hi hne)⟩

theorem RefAt.cell {w : World} {B q : Nat} {M : Int} {K : Nat → Bool} (h : RefAt w B q M K) (d : Nat) (hd : d < 4097) : w.cell? ⟨q, 1 + d, none⟩ = some (.bool (K d)) := by
  obtain ⟨h1, h2, cs, h3, h4⟩ := h
  rw [h3.cell, Nat.add_comm 1 d]
  exact h4.known d hd
theorem RefAt.mark {w : World} {B q : Nat} {M : Int} {K : Nat → Bool} (h : RefAt w B q M K) : w.cell? ⟨q, 0, none⟩ = some (.int .u32 M) := by
  obtain ⟨h1, h2, cs, h3, h4⟩ := h
  rw [h3.cell]
  exact h4.mark

set_option maxHeartbeats 1000000 in
theorem settle_any {w : World} {B q : Nat} {M : Int} {K : Nat → Bool} (h : RefAt w B q M K) (hN : Within K) :
    Calls Try.prog 40 #[ptr q] w fun e w' => e = .returned (.tuple #[]) ∧ Hid (∃ k, RefAt w' B q (adr M k) (movedK K k) ∧ Adv K k (movedK K k) ∧ OnlyQ q w w') := by
  have hM := h.hM
  have HR := Lib.hid h
  have HN := Lib.hid hN
  clear h hN
  go_enter Try.func40, Try.ntmps40
  go_wp2
  go_loopg [] 4097 (fun g wr => ∃ j : Nat, g + j = 4097 ∧ j ≤ 4096 ∧ Hid (RefAt wr B q (adr M j) (movedK K j) ∧ (∀ i, 1 ≤ i → i ≤ j → K i = true) ∧ OnlyQ q w wr))
  case atStart => exact ⟨0, rfl, by omega, by rw [moved_zero HN.out, adr_zero M hM]; exact HR.out, fun i h1 h2 => by omega, OnlyQ.refl q w⟩
  case round =>
    obtain ⟨j, hg, hj, hr⟩ := hrel
    have c0 : wr.cell? ⟨q, 2, none⟩ = some (.bool (movedK K j 1)) := hr.out.1.cell 1 (by omega)
    cases hv : movedK K j 1
    · rw [hv] at c0
      have H : Hid (∃ k, RefAt wr B q (adr M k) (movedK K k) ∧ Adv K k (movedK K k) ∧ OnlyQ q w wr) := by
        refine ⟨j, hr.out.1, ⟨hr.out.2.1, ?_, fun x hx => moved_get HN.out hx⟩, hr.out.2.2⟩
        rw [Nat.add_comm j 1, ← moved_get HN.out (Nat.le_refl 1)]
        exact hv
      clear hv
      go_wp2
      go_end0
      exact ⟨rfl, H⟩
    · rw [hv] at c0
      have hk1 : K (1 + j) = true := by rw [← moved_get HN.out (Nat.le_refl 1)]; exact hv
      have hj2 := HN.out _ hk1
      have HK := Lib.hid hk1
      clear hv hk1
      go_wp2_with fail
      refine (move_any (b := 1) hr.out.1 (by omega)).mono ?_
      rintro e w1 ⟨rfl, hs, ho⟩
      have HS : Hid (RefAt w1 B q (adr M (j + 1)) (movedK K (j + 1)) ∧ (∀ i, 1 ≤ i → i ≤ j + 1 → K i = true) ∧ OnlyQ q w w1) := by
        refine ⟨by rw [← adr_adr, ← moved_moved]; exact hs, fun i h1 h2 => ?_, hr.out.2.2.trans ho⟩
        rcases Nat.lt_or_ge j i with h | h
        · rw [show i = 1 + j by omega]; exact HK.out
        · exact hr.out.2.1 i h1 h
      clear hs ho c0
      go_wp2
      go_roundg (4097 - (j + 1))
      case measure => omega
      case rel => exact ⟨j + 1, by omega, by omega, HS⟩
end Go.Proofs.Ytgbkmnmkejcogaa.Span
