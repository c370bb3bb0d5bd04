/-
  What SpanFill needs: one set that is seen from its first mark, and the greatest number that is known.
-/
import Derived.Test.YtmkbadkibjmpaaaSpanOrd
set_option linter.unusedVariables false
set_option linter.unusedSimpArgs false
namespace Go.Proofs.Ytmkbadkibjmpaaa.Span
open Go.ChangeShapes Go.WideShapes Go.ChangeAt Go.RowKit Go.Proofs.Ytmkbadkibjmpaaa.Ser

/-- One set: all that it knows is at most T from the first mark, T is known, all below j is. -/
def FSt (w wr : World) (p : Nat) (a0 : Int) (T j : Nat) : Prop :=
  ∃ v k rs, SetAt wr w.heap.size p v (adr a0 k) rs ∧ Gp 2 rs ∧ Below w.heap.size w wr ∧ (∀ y, 1 ≤ y → absB k rs y = true → y ≤ T) ∧ (T = 0 ∨ absB k rs T = true) ∧ ∀ y, 1 ≤ y → y < j → absB k rs y = true
theorem FSt.below {w wr : World} {p : Nat} {a0 : Int} {T j : Nat} (h : FSt w wr p a0 T j) : Below w.heap.size w wr := by
  obtain ⟨v, k, rs, h1, h2, h3, h4⟩ := h
  exact h3
theorem FSt.new {w w1 : World} {p : Nat} {a0 : Int} (hM : 0 ≤ a0 ∧ a0 ≤ 4294967295) (hb : Below w.heap.size w w1) (s : SetAt w1 w.heap.size p (.slice none 0 0) a0 []) : FSt w w1 p a0 0 1 :=
  ⟨_, 0, [], by rw [adr_zero a0 hM]; exact s, gp_nil 2, hb, fun y hy h => by unfold absB at h; simpa [knB_nil] using h, .inl rfl, fun y h1 h2 => by omega⟩
/-- What Add leaves. -/
def FNext (w w' : World) (p : Nat) (a0 : Int) (T j x : Nat) (e : Ending) : Prop :=
  ∃ n : Int, e = .returned (.int .i64 n) ∧ ((n = 0 ∧ FSt w w' p a0 (max T x) j) ∨ ((n == 0) = false ∧ FSt w w' p a0 T j))
theorem FSt.add {w wr : World} {p : Nat} {a0 : Int} {T j x : Nat} (h : FSt w wr p a0 T j) (hM : 0 ≤ a0 ∧ a0 ≤ 4294967295) (hT : T ≤ 65535) (hx : x ≤ 65535) :
    Calls Try.prog 13 #[ptr p, .int .u32 (adr a0 x)] wr fun e w' => FNext w w' p a0 T j x e := by
  obtain ⟨v, k, rs, h1, h2, h3, h4, h5, h6⟩ := h
  have hk : k ≤ T := by
    rcases Nat.eq_zero_or_pos k with h0 | h0
    · omega
    · exact h4 _ h0 (abs_le (Nat.le_refl _))
  refine (add_t h1 h2 (adr_bd a0 x) h3.size).mono ?_
  rintro e w' ⟨v', kk, rs', rfl, hs, hg, hA, _, Tn⟩
  obtain ⟨ha, hn⟩ := add_abs hM (by omega) (by omega) h2 hA
  rw [adr_adr] at hs
  have hb := h3.trans (h1.below_of Tn)
  refine ⟨_, rfl, ?_⟩
  have up : ∀ y, 1 ≤ y → absB k rs y = true → absB (k + kk) rs' y = true := fun y hy h => by rw [ha y hy, h]; rfl
  by_cases h0 : newsOf rs (dN (adr a0 k) (adr a0 x)) = 0
  · obtain ⟨hx0, hx1⟩ := hn.1 h0
    have hxk : 1 ≤ x := by
      rcases Nat.eq_zero_or_pos x with h | h
      · subst h; rw [abs_le (Nat.zero_le _)] at hx0; cases hx0
      · exact h
    refine .inl ⟨h0, v', k + kk, rs', hs, hg, hb, fun y hy h => ?_, .inr ?_, fun y y1 y2 => up y y1 (h6 y y1 y2)⟩
    · rw [ha y hy] at h
      cases e : absB k rs y
      · rw [e] at h
        have : y = x := by simp at h; exact h.1
        omega
      · have := h4 y hy e; omega
    · rcases Nat.le_total T x with hle | hle
      · rw [Nat.max_eq_right hle, ha x hxk]; simp [hx1]
      · rw [Nat.max_eq_left hle]
        rcases h5 with h | h
        · omega
        · exact up T (by omega) h
  · refine .inr ⟨by simpa using h0, v', k + kk, rs', hs, hg, hb, fun y hy h => ?_, h5.elim .inl fun h => ?_, fun y y1 y2 => up y y1 (h6 y y1 y2)⟩
    · rw [ha y hy] at h
      cases e : absB k rs y
      · rw [e] at h
        simp at h
        exact absurd (hn.2 ⟨by rw [← h.1]; exact e, h.2⟩) h0
      · exact h4 y hy e
    · rcases Nat.eq_zero_or_pos T with h0 | h0
      · exact .inl h0
      · exact .inr (up T h0 h)
/-- .. where the next one is filled in. -/
theorem FSt.fill {w wr : World} {p : Nat} {a0 : Int} {T j : Nat} (h : FSt w wr p a0 T j) (hM : 0 ≤ a0 ∧ a0 ≤ 4294967295) (hT : T ≤ 65535) (hj : 1 ≤ j) (hx : j ≤ T) :
    Calls Try.prog 13 #[ptr p, .int .u32 (adr a0 j)] wr fun e w' => (∃ n, e = .returned (.int .i64 n)) ∧ FSt w w' p a0 T (j + 1) := by
  obtain ⟨v, k, rs, h1, h2, h3, h4, h5, h6⟩ := h
  have hk : k ≤ T := by
    rcases Nat.eq_zero_or_pos k with h0 | h0
    · omega
    · exact h4 _ h0 (abs_le (Nat.le_refl _))
  have hkj : j ≤ k + 1 := by
    rcases Nat.lt_or_ge (k + 1) j with hl | hl
    · have := h6 (k + 1) (by omega) hl; rw [abs_end h2] at this; cases this
    · exact hl
  refine (add_t h1 h2 (adr_bd a0 j) h3.size).mono ?_
  rintro e w' ⟨v', kk, rs', rfl, hs, hg, hA, _, Tn⟩
  obtain ⟨ha, hn⟩ := add_abs hM (by omega) (by omega) h2 hA
  rw [adr_adr] at hs
  have hj2 : j ≤ k + 4096 := by omega
  refine ⟨⟨_, rfl⟩, v', k + kk, rs', hs, hg, h3.trans (h1.below_of Tn), fun y hy h => ?_, h5.elim .inl fun h => .inr (by rw [ha T (by omega), h]; rfl), fun y y1 y2 => ?_⟩
  · rw [ha y hy] at h
    cases e : absB k rs y
    · rw [e] at h
      simp at h
      omega
    · exact h4 y hy e
  · rw [ha y y1]
    rcases Nat.lt_or_ge y j with hl | hl
    · rw [h6 y y1 hl]; rfl
    · obtain rfl : y = j := by omega
      simp [hj2]
/-- .. all filled in. -/
theorem FSt.done {w wr : World} {p : Nat} {a0 : Int} {T : Nat} (h : FSt w wr p a0 T (T + 1)) : ∃ v, SetAt wr w.heap.size p v (adr a0 T) [] := by
  obtain ⟨v, k, rs, h1, h2, h3, h4, h5, h6⟩ := h
  obtain ⟨rfl, rfl⟩ := abs_inj (k' := T) (rs' := []) h2 (gp_nil 2) (fun y hy => by
    rw [Bool.eq_iff_iff]
    constructor
    · intro h; exact abs_le (h4 y hy h)
    · intro h
      have : y ≤ T := by unfold absB at h; simpa [knB_nil] using h
      exact h6 y hy (by omega))
  exact ⟨v, h1⟩
end Go.Proofs.Ytmkbadkibjmpaaa.Span
