/-
  What SpanRound needs: two sets that are the same but moved on.
-/
import Derived.Test.YtgbkmnmkejcogaaSpanOrd
set_option linter.unusedVariables false
set_option linter.unusedSimpArgs false
namespace Go.Proofs.Ytgbkmnmkejcogaa.Span
open Go.ChangeShapes Go.WideShapes Go.ChangeAt Go.RowKit Go.Proofs.Ytgbkmnmkejcogaa.Ser

theorem dN_turn (M t by_ : Int) : dN ((M + by_) % 4294967296) ((t + by_) % 4294967296) = dN M t := by unfold dN; rw [dist_turn]
theorem canon2 {K : Nat → Bool} {k1 k2 : Nat} {r1 r2 : List (Nat × Nat)} (h1 : Adv K k1 (knB r1)) (h2 : Adv K k2 (knB r2)) (g1 : Gp 2 r1) (g2 : Gp 2 r2) : k1 = k2 ∧ r1 = r2 := by
  obtain ⟨rfl, hK⟩ := adv_unique h1 h2
  refine ⟨rfl, canon g1 g2 (fun x => ?_)⟩
  rcases Nat.eq_zero_or_pos x with rfl | hx
  · rw [kn_far g1 (by omega), kn_far g2 (by omega)]
  · exact hK x hx

/-- Two sets with the same rows, the second's mark moved on. -/
def RSt (w wr : World) (pa pb : Nat) (y : Int) : Prop :=
  ∃ va vb M rs, Two wr w.heap.size pa va M rs pb vb ((M + y) % 4294967296) rs ∧ Gp 2 rs ∧ Below w.heap.size w wr
/-- .. the first of which has met a call. -/
def RMid (w wr : World) (pa pb : Nat) (y : Int) (M : Int) (rs : List (Nat × Nat)) (K : Nat → Bool) (s : Nat) : Prop :=
  ∃ va vb k rs', Two wr w.heap.size pa va (adr M (s + k)) rs' pb vb ((M + y) % 4294967296) rs ∧ Gp 2 rs ∧ Gp 2 rs' ∧ Adv K k (knB rs') ∧ Below w.heap.size w wr
theorem RSt.below {w wr : World} {pa pb : Nat} {y : Int} (h : RSt w wr pa pb y) : Below w.heap.size w wr := by
  obtain ⟨va, vb, M, rs, h1, h2, h3⟩ := h
  exact h3
theorem RSt.new {w w1 : World} {pa pb : Nat} {M y : Int} (hb : Below w.heap.size w w1) (sa : SetAt w1 w.heap.size pa (.slice none 0 0) M []) (sb : SetAt w1 w.heap.size pb (.slice none 0 0) ((M + y) % 4294967296) []) (hne : pa ≠ pb) : RSt w w1 pa pb y :=
  ⟨_, _, M, [], ⟨sa, sb, hne, fun g h => by simp [Value.ownBlock] at h⟩, gp_nil 2, hb⟩

theorem RSt.add1 {w wr : World} {pa pb : Nat} {y t : Int} (h : RSt w wr pa pb y) (ht : 0 ≤ t ∧ t ≤ 4294967295) :
    ∃ M rs, Calls Try.prog 19 #[ptr pa, .int .u32 t] wr fun e w' => e = .returned (.int .i64 (newsOf rs (dN M t))) ∧ RMid w w' pa pb y M rs (addK rs (dN M t)) 0 := by
  obtain ⟨va, vb, M, rs, h1, h2, h3⟩ := h
  refine ⟨M, rs, (add_t h1.sa h2 ht h3.size).mono ?_⟩
  rintro e w' ⟨v', k, rs', rfl, hs, hg, hA, hk, T⟩
  exact ⟨rfl, v', vb, k, rs', by rw [Nat.zero_add]; exact h1.left T hs, h2, hg, hA, h3.trans (h1.sa.below_of T)⟩
theorem RMid.add2 {w wr : World} {pa pb : Nat} {y t : Int} {M : Int} {rs : List (Nat × Nat)} (h : RMid w wr pa pb y M rs (addK rs (dN M t)) 0) :
    Calls Try.prog 19 #[ptr pb, .int .u32 ((t + y) % 4294967296)] wr fun e w' => e = .returned (.int .i64 (newsOf rs (dN M t))) ∧ RSt w w' pa pb y := by
  obtain ⟨va, vb, k, rs', h1, h2, h3, h4, h5⟩ := h
  refine (add_t h1.sb h2 (by omega) h5.size).mono ?_
  rintro e w' ⟨v', k2, rs2, rfl, hs, hg, hA, hk, T⟩
  rw [dN_turn] at hA ⊢
  obtain ⟨rfl, rfl⟩ := canon2 h4 hA h3 hg
  refine ⟨rfl, va, v', adr M k, rs', ?_, hg, h5.trans (h1.sb.below_of T)⟩
  rw [Nat.zero_add] at h1
  rw [adr_shift] at hs
  exact h1.right T hs
theorem RSt.skip1 {w wr : World} {pa pb : Nat} {y t : Int} (h : RSt w wr pa pb y) (ht : 0 ≤ t ∧ t ≤ 4294967295) :
    ∃ M rs, Calls Try.prog 17 #[ptr pa, .int .u32 t] wr fun e w' => e = .returned (.bool (okB (dN M t))) ∧ RMid w w' pa pb y M rs (fun x => knB rs (x + skipS (dN M t))) (skipS (dN M t)) := by
  obtain ⟨va, vb, M, rs, h1, h2, h3⟩ := h
  refine ⟨M, rs, (skip_t h1.sa h2 ht).mono ?_⟩
  rintro e w' ⟨v', k, rs', rfl, hs, hg, hA, hk, T⟩
  exact ⟨rfl, v', vb, k, rs', h1.left T hs, h2, hg, hA, h3.trans (h1.sa.below_of T)⟩
theorem RMid.skip2 {w wr : World} {pa pb : Nat} {y t : Int} {M : Int} {rs : List (Nat × Nat)} (h : RMid w wr pa pb y M rs (fun x => knB rs (x + skipS (dN M t))) (skipS (dN M t))) :
    Calls Try.prog 17 #[ptr pb, .int .u32 ((t + y) % 4294967296)] wr fun e w' => e = .returned (.bool (okB (dN M t))) ∧ RSt w w' pa pb y := by
  obtain ⟨va, vb, k, rs', h1, h2, h3, h4, h5⟩ := h
  refine (skip_t h1.sb h2 (by omega)).mono ?_
  rintro e w' ⟨v', k2, rs2, rfl, hs, hg, hA, hk, T⟩
  rw [dN_turn] at hA hs ⊢
  obtain ⟨rfl, rfl⟩ := canon2 h4 hA h3 hg
  refine ⟨rfl, va, v', adr M (skipS (dN M t) + k), rs', ?_, hg, h5.trans (h1.sb.below_of T)⟩
  rw [adr_shift] at hs
  exact h1.right T hs
end Go.Proofs.Ytgbkmnmkejcogaa.Span
