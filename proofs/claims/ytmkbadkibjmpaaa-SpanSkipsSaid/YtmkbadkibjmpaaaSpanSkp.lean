/-
  What SpanSkips needs: Has and Skip, seen from the first mark.
-/
import Derived.Test.YtmkbadkibjmpaaaSpanOrd
set_option linter.unusedVariables false
set_option linter.unusedSimpArgs false
namespace Go.Proofs.Ytmkbadkibjmpaaa.Span
open Go.ChangeShapes Go.WideShapes Go.ChangeAt Go.RowKit Go.Proofs.Ytmkbadkibjmpaaa.Ser

theorem has_abs {M : Int} {k x : Nat} {rs : List (Nat × Nat)} (hM : 0 ≤ M ∧ M ≤ 4294967295) (hk : k ≤ 1000000) (hx : x ≤ 1000000) (hg : Gp 2 rs) : hasB rs (dN (adr M k) (adr M x)) = absB k rs x := by
  have hd := dist_abs M k x hM hk hx
  unfold hasB absB
  rcases Nat.lt_or_ge k x with hl | hl
  · rw [if_pos (by omega)] at hd
    rw [hd]
    have e1 : ¬ (x - k = 0 ∨ 2147483648 < x - k) := by omega
    have e2 : ¬ x ≤ k := by omega
    simp [e1, e2]
  · have e1 : dN (adr M k) (adr M x) = 0 ∨ 2147483648 < dN (adr M k) (adr M x) := by rw [hd]; split <;> omega
    simp only [e1, decide_true, Bool.true_or, hl]
theorem news_known {M : Int} {k x : Nat} {rs : List (Nat × Nat)} (hM : 0 ≤ M ∧ M ≤ 4294967295) (hk : k ≤ 1000000) (hx : x ≤ 1000000) (hg : Gp 2 rs) (h : absB k rs x = true) : newsOf rs (dN (adr M k) (adr M x)) = 1 := by
  have hd := dist_abs M k x hM hk hx
  unfold newsOf okB
  rw [if_neg]
  rintro ⟨h1, h2⟩
  have h1 := of_decide_eq_true h1
  unfold absB at h
  rcases Nat.lt_or_ge k x with hl | hl
  · rw [if_pos (by omega)] at hd
    rw [hd] at h2
    have e2 : ¬ x ≤ k := by omega
    simp [e2, h2] at h
  · split at hd <;> omega
theorem ok_abs {M : Int} {k x : Nat} (hM : 0 ≤ M ∧ M ≤ 4294967295) (hk : k ≤ 1000000) (hx : x ≤ 1000000) : okB (dN (adr M k) (adr M x)) = decide (k < x) := by
  have hd := dist_abs M k x hM hk hx
  unfold okB
  rw [decide_eq_decide]
  split at hd <;> omega
/-- Skip, seen from the first mark. -/
theorem skip_abs {M : Int} {k x kk : Nat} {rs rs' : List (Nat × Nat)} (hM : 0 ≤ M ∧ M ≤ 4294967295) (hk : k ≤ 1000000) (hx : x ≤ 1000000) (hg : Gp 2 rs)
    (hA : Adv (fun y => knB rs (y + skipS (dN (adr M k) (adr M x)))) kk (knB rs')) :
    ∃ k', k' = k + (skipS (dN (adr M k) (adr M x)) + kk) ∧ (∀ y, 1 ≤ y → absB k' rs' y = (decide (y ≤ x) || absB k rs y)) ∧ k + skipS (dN (adr M k) (adr M x)) ≤ max k x := by
  have hd := dist_abs M k x hM hk hx
  obtain ⟨s, es⟩ : ∃ s, s = skipS (dN (adr M k) (adr M x)) := ⟨_, rfl⟩
  have hs : s = if k < x then x - k else 0 := by
    rw [es]; unfold skipS; rw [ok_abs hM hk hx]
    by_cases h : k < x
    · simp only [h, decide_true, if_true]; rw [hd, if_pos (by omega)]
    · simp [h]
  rw [← es] at hA ⊢
  refine ⟨_, rfl, fun y hy => ?_, by split at hs <;> omega⟩
  rcases Nat.lt_or_ge (k + s) y with hl | hl
  · have e0 : ¬ y ≤ x ∧ ¬ y ≤ k := by split at hs <;> omega
    have e1 : absB k rs y = knB rs (y - k) := by unfold absB; simp [e0.2]
    simp only [e0.1, decide_false, Bool.false_or, e1]
    rcases Nat.lt_or_ge (k + (s + kk)) y with h2 | h2
    · unfold absB
      have e : ¬ y ≤ k + (s + kk) := by omega
      simp only [e, decide_false, Bool.false_or]
      rw [hA.2.2 _ (by omega)]
      show knB rs (y - (k + (s + kk)) + kk + s) = _
      rw [show y - (k + (s + kk)) + kk + s = y - k by omega]
    · rw [abs_le h2]
      have : knB rs (y - (k + s) + s) = true := hA.1 (y - (k + s)) (by omega) (by omega)
      rw [show y - (k + s) + s = y - k by omega] at this
      exact this.symm
  · rw [abs_le (by omega)]
    rcases Nat.lt_or_ge k y with h2 | h2
    · have : y ≤ x := by split at hs <;> omega
      simp [this]
    · rw [abs_le h2]; simp

theorem has_at {W : World} {B p k x : Nat} {v : Value} {M : Int} {rs : List (Nat × Nat)} (h : SetAt W B p v (adr M k) rs) (hg : Gp 2 rs) (hM : 0 ≤ M ∧ M ≤ 4294967295) (hk : k ≤ 1000000) (hx : x ≤ 1000000) :
    Calls Try.prog 18 #[ptr p, .int .u32 (adr M x)] W fun e w' => e = .returned (.bool (absB k rs x)) ∧ Below W.heap.size W w' :=
  (has_t h hg (adr_bd M x)).mono fun e w' ⟨he, hb⟩ => ⟨by rw [he, has_abs hM hk hx hg], hb⟩
theorem skip_at {W : World} {B p k x : Nat} {v : Value} {M : Int} {rs : List (Nat × Nat)} (h : SetAt W B p v (adr M k) rs) (hg : Gp 2 rs) (hM : 0 ≤ M ∧ M ≤ 4294967295) (hk : k ≤ 1000000) (hx : x ≤ 1000000) :
    Calls Try.prog 11 #[ptr p, .int .u32 (adr M x)] W fun e w' => e = .returned (.bool (decide (k < x))) ∧
      Hid (∃ v' k' rs', SetAt w' B p v' (adr M k') rs' ∧ Gp 2 rs' ∧ k' ≤ max k x + 4096 ∧ (∀ y, 1 ≤ y → absB k' rs' y = (decide (y ≤ x) || absB k rs y)) ∧ Turned W w' p v v') := by
  refine (skip_t h hg (adr_bd M x)).mono ?_
  rintro e w' ⟨v', kk, rs', rfl, hs, hg', hA, hkk, T⟩
  obtain ⟨k', ek, ha, hb⟩ := skip_abs hM hk hx hg hA
  rw [adr_adr, ← ek] at hs
  exact ⟨by rw [ok_abs hM hk hx], v', k', rs', hs, hg', by omega, ha, T⟩
theorem add_twice {W : World} {B p k x : Nat} {v : Value} {M : Int} {rs : List (Nat × Nat)} (h : SetAt W B p v (adr M k) rs) (hg : Gp 2 rs) (hM : 0 ≤ M ∧ M ≤ 4294967295) (hk : k ≤ 1000000) (hx : x ≤ 1000000) (hB : B ≤ W.heap.size) (ht : absB k rs x = true) :
    Calls Try.prog 13 #[ptr p, .int .u32 (adr M x)] W fun e w' => e = .returned (.int .i64 1) ∧
      Hid (∃ v' k' rs', SetAt w' B p v' (adr M k') rs' ∧ Gp 2 rs' ∧ k' ≤ k + 4096 ∧ (∀ y, 1 ≤ y → absB k' rs' y = absB k rs y) ∧ Turned W w' p v v') := by
  refine (add_t h hg (adr_bd M x) hB).mono ?_
  rintro e w' ⟨v', kk, rs', rfl, hs, hg', hA, hkk, T⟩
  have ha := (add_abs hM hk hx hg hA).1
  rw [adr_adr] at hs
  refine ⟨by rw [news_known hM hk hx hg ht], v', k + kk, rs', hs, hg', by omega, fun y hy => ?_, T⟩
  rw [ha y hy]
  by_cases e : y = x
  · subst e; rw [ht]; rfl
  · simp [e]
theorem Turned.blk {w w' : World} {p h : Nat} {v v' : Value} {t : TypeId} {cs : Array Value} (T : Turned w w' p v v') (hb : Blk w h t cs) (hp : h ≠ p) (hv : v.ownBlock ≠ some h) : Blk w' h t cs ∧ v'.ownBlock ≠ some h := by
  have hlt := hb.lt
  refine ⟨(T.block h hlt hp (fun e => hv e.symm)).trans hb, ?_⟩
  rcases T.row with e | e | ⟨g, e, hg⟩
  · rw [e]; exact hv
  · rw [e]; simp
  · rw [e]; intro e2; injection e2; omega
end Go.Proofs.Ytmkbadkibjmpaaa.Span
