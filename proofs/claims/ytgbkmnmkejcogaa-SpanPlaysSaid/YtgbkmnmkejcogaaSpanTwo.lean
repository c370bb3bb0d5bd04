/-
  Two sets side by side; flumeref02.Same; a set seen from its first mark.
-/
import Derived.Test.YtgbkmnmkejcogaaSpanLaw
set_option linter.unusedVariables false
set_option linter.unusedSimpArgs false
namespace Go.Proofs.Ytgbkmnmkejcogaa.Span
open Go.ChangeShapes Go.WideShapes Go.ChangeAt Go.RowKit Go.Proofs.Ytgbkmnmkejcogaa.Ser

/-- A slice of gaps, to be read. -/
def GapsAt (w : World) (v : Value) (l : List (Nat × Nat)) : Prop :=
  ∃ a cap, v = .slice a l.length cap ∧ (l = [] ∨ ∃ g, a = some ⟨g, 0, none⟩ ∧ g < w.heap.size ∧ ∀ k (h : k < l.length), w.cell? ⟨g, k * 2, none⟩ = some (.int .u16 (l[k].1 : Int)) ∧ w.cell? ⟨g, k * 2 + 1, none⟩ = some (.int .u16 (l[k].2 : Int)))
theorem gcells_get : ∀ (l : List (Nat × Nat)) (k : Nat) (h : k < l.length), (gcells l)[k * 2]? = some (.int .u16 (l[k].1 : Int)) ∧ (gcells l)[k * 2 + 1]? = some (.int .u16 (l[k].2 : Int))
  | r :: l, 0, _ => ⟨rfl, rfl⟩
  | r :: l, k + 1, h => by
    have := gcells_get l k (by simpa using h)
    rw [show (k + 1) * 2 = k * 2 + 1 + 1 by omega]
    simpa [gcells] using this
theorem GapsAt.of_own {w : World} {B : Nat} {v : Value} {l : List (Nat × Nat)} (h : w.ownsRow B 58 2 v l.length (gcells l)) : GapsAt w v l := by
  obtain ⟨a, cap, rfl⟩ := own_slice h
  refine ⟨a, cap, rfl, ?_⟩
  rcases Nat.eq_zero_or_pos l.length with h0 | h0
  · exact .inl (List.eq_nil_of_length_eq_zero h0)
  · right
    obtain ⟨g, c, hv, _, hg⟩ := h.form h0
    injection hv with e1 _ e3
    subst e1 e3
    refine ⟨g, rfl, hg, fun k hk => ?_⟩
    have := gcells_get l k hk
    exact ⟨(h.cellAt _ (by omega)).trans this.1, (h.cellAt _ (by omega)).trans this.2⟩
theorem GapsAt.below {w w' : World} {v : Value} {l : List (Nat × Nat)} (h : GapsAt w v l) (hb : Below w.heap.size w w') : GapsAt w' v l := by
  obtain ⟨a, cap, hv, h⟩ := h
  refine ⟨a, cap, hv, h.imp_right ?_⟩
  rintro ⟨g, ha, hg, hc⟩
  exact ⟨g, ha, Nat.lt_of_lt_of_le hg hb.size, fun k hk => ⟨(hb.cell (p := ⟨g, _, none⟩) hg).trans (hc k hk).1, (hb.cell (p := ⟨g, _, none⟩) hg).trans (hc k hk).2⟩⟩

set_option maxHeartbeats 1000000 in
theorem same_yes {w : World} {u v : Value} {l : List (Nat × Nat)} (hu : GapsAt w u l) (hv : GapsAt w v l) (hl : l.length ≤ 5000) :
    Calls Try.prog 27 #[u, v] w fun e w' => e = .returned (.bool true) ∧ Below w.heap.size w w' := by
  obtain ⟨a, ca, rfl, ha⟩ := hu
  obtain ⟨b, cb, rfl, hb⟩ := hv
  obtain ⟨n, hn⟩ : ∃ n, n = l.length := ⟨_, rfl⟩
  have HN := Lib.hid hn
  rw [← hn] at hl ⊢
  have HA := Lib.hid ha
  have HB := Lib.hid hb
  clear ha hb hn
  go_enter Try.func27, Try.ntmps27
  go_wp2
  go_loopw [13] (fun i wr => ∃ k : Nat, k ≤ n ∧ i = .int .i64 k ∧ ∃ q, wr = w.drewN q) (fun i _ => n - (intOf i).toNat)
  case atStart => exact ⟨0, Nat.zero_le _, rfl, 0, rfl⟩
  case round =>
    obtain ⟨k, hk, rfl, q, rfl⟩ := hrel
    by_cases hlt : k < n
    · have hk2 : k < l.length := by rw [← HN.out]; exact hlt
      rcases HA.out with h0 | ⟨g, ha, _, hca⟩
      · subst h0; simp at hk2
      rcases HB.out with h0 | ⟨g', hb, _, hcb⟩
      · subst h0; simp at hk2
      obtain ⟨c0, c1⟩ := hca k hk2
      obtain ⟨d0, d1⟩ := hcb k hk2
      obtain ⟨x, hx⟩ : ∃ x, x = l[k] := ⟨_, rfl⟩
      rw [← hx] at c0 c1 d0 d1
      clear hca hcb hx
      subst ha hb
      go_wp2
      go_quiet (fail)
      go_wp2
      go_roundw
      case rel => exact ⟨k + 1, by omega, by go_num, _, rfl⟩
      case measure => simp [intOf]; omega
    · obtain rfl : k = n := by omega
      go_wp2
      go_ret
      exact ⟨rfl, below_drewN (Below.refl _ _) _⟩

/-- Two sets side by side. -/
structure Two (w : World) (B pa : Nat) (va : Value) (Ma : Int) (ra : List (Nat × Nat)) (pb : Nat) (vb : Value) (Mb : Int) (rb : List (Nat × Nat)) : Prop where
  sa : SetAt w B pa va Ma ra
  sb : SetAt w B pb vb Mb rb
  ne : pa ≠ pb
  row : ∀ g, va.ownBlock = some g → vb.ownBlock ≠ some g
theorem SetAt.row_ne {w : World} {B p q : Nat} {v u : Value} {M N : Int} {rs qs : List (Nat × Nat)} (h : SetAt w B p v M rs) (k : SetAt w B q u N qs) : u.ownBlock ≠ some p := by
  intro e
  rcases k.own.2 with ⟨rfl, _⟩ | ⟨g, cap, cur, rfl, _, hh, _⟩
  · simp [Value.ownBlock] at e
  · have e2 : g = p := by simpa [Value.ownBlock] using e
    subst e2
    have hb := h.blk
    unfold Blk at hb
    rw [hh] at hb
    injection hb with hb
    injection hb with _ ht
    cases ht
theorem SetAt.turned {w w' : World} {B p q : Nat} {v u v' : Value} {M N : Int} {rs qs : List (Nat × Nat)} (hb : SetAt w B q u N qs) (ha : SetAt w B p v M rs) (T : Turned w w' p v v') (hne : p ≠ q) (hr : ∀ g, v.ownBlock = some g → u.ownBlock ≠ some g) : SetAt w' B q u N qs := by
  have hqb := hb.blk
  refine ⟨hb.hp, hb.hM, (T.block q hqb.lt (fun e => hne e.symm) (fun e => ?_)).trans hqb, ?_⟩
  · exact hb.row_ne ha e.symm
  · rcases hb.own.2 with hn | ⟨g, cap, cur, rfl, h1, h2, rest⟩
    · exact ⟨hb.own.1, .inl hn⟩
    · refine ⟨hb.own.1, .inr ⟨g, cap, cur, rfl, h1, (T.block g ?_ ?_ ?_).trans h2, rest⟩⟩
      · rcases Nat.lt_or_ge g w.heap.size with hlt | hge
        · exact hlt
        · rw [Array.getElem?_eq_none hge] at h2; cases h2
      · intro e; exact ha.row_ne hb (by simp [Value.ownBlock, e])
      · intro e; exact hr g e.symm (by simp [Value.ownBlock])
theorem Two.symm {w : World} {B pa pb : Nat} {va vb : Value} {Ma Mb : Int} {ra rb : List (Nat × Nat)} (h : Two w B pa va Ma ra pb vb Mb rb) : Two w B pb vb Mb rb pa va Ma ra :=
  ⟨h.sb, h.sa, fun e => h.ne e.symm, fun g e1 e2 => h.row g e2 e1⟩
theorem Two.left {w w' : World} {B pa pb : Nat} {va vb va' : Value} {Ma Mb Ma' : Int} {ra rb ra' : List (Nat × Nat)} (h : Two w B pa va Ma ra pb vb Mb rb) (T : Turned w w' pa va va') (s : SetAt w' B pa va' Ma' ra') : Two w' B pa va' Ma' ra' pb vb Mb rb := by
  refine ⟨s, h.sb.turned h.sa T h.ne h.row, h.ne, fun g e1 e2 => ?_⟩
  rcases T.row with e | e | ⟨g', e, hg⟩
  · exact h.row g (e ▸ e1) e2
  · rw [e] at e1; cases e1
  · rw [e] at e1
    injection e1 with e1
    have := (h.sb.own.lt g e2).2
    omega
theorem Two.right {w w' : World} {B pa pb : Nat} {va vb vb' : Value} {Ma Mb Mb' : Int} {ra rb rb' : List (Nat × Nat)} (h : Two w B pa va Ma ra pb vb Mb rb) (T : Turned w w' pb vb vb') (s : SetAt w' B pb vb' Mb' rb') : Two w' B pa va Ma ra pb vb' Mb' rb' :=
  (h.symm.left T s).symm
theorem Two.below {w w' : World} {B pa pb : Nat} {va vb : Value} {Ma Mb : Int} {ra rb : List (Nat × Nat)} (h : Two w B pa va Ma ra pb vb Mb rb) (hb : Below w.heap.size w w') : Two w' B pa va Ma ra pb vb Mb rb :=
  ⟨h.sa.below hb, h.sb.below hb, h.ne, h.row⟩

/-! ### a set seen from its first mark -/
/-- Is the number 'x' ahead of the first mark known, the mark being 'k' ahead of it? -/
def absB (k : Nat) (rs : List (Nat × Nat)) (x : Nat) : Bool := decide (x ≤ k) || knB rs (x - k)
theorem abs_end {k : Nat} {rs : List (Nat × Nat)} (hg : Gp 2 rs) : absB k rs (k + 1) = false := by
  unfold absB
  rw [show k + 1 - k = 1 by omega, kn_far hg (by omega)]
  simp
theorem abs_le {k x : Nat} {rs : List (Nat × Nat)} (h : x ≤ k) : absB k rs x = true := by unfold absB; simp [h]
theorem abs_ge {k x : Nat} {rs : List (Nat × Nat)} (hg : Gp 2 rs) (h : absB k rs x = true) : x ≤ k + 4096 := by
  unfold absB at h
  rcases Nat.lt_or_ge k x with hl | hl
  · have : knB rs (x - k) = true := by simpa [Nat.not_le.2 hl] using h
    have := kn_bd hg this
    omega
  · omega
theorem abs_inj {k k' : Nat} {rs rs' : List (Nat × Nat)} (hg : Gp 2 rs) (hg' : Gp 2 rs') (h : ∀ x, 1 ≤ x → absB k rs x = absB k' rs' x) : k = k' ∧ rs = rs' := by
  have hk : k = k' := by
    rcases Nat.lt_trichotomy k k' with hl | he | hl
    · have := h (k + 1) (by omega); rw [abs_end hg, abs_le (by omega)] at this; cases this
    · exact he
    · have := h (k' + 1) (by omega); rw [abs_end hg', abs_le (by omega)] at this; cases this
  subst hk
  refine ⟨rfl, canon hg hg' (fun x => ?_)⟩
  rcases Nat.eq_zero_or_pos x with rfl | hx
  · rw [kn_far hg (by omega), kn_far hg' (by omega)]
  · have := h (x + k) (by omega)
    unfold absB at this
    have e : ¬ (x + k ≤ k) := by omega
    simpa [e] using this

theorem dist_abs (M : Int) (k x : Nat) (hM : 0 ≤ M ∧ M ≤ 4294967295) (hk : k ≤ 1000000) (hx : x ≤ 1000000) : dN (adr M k) (adr M x) = if k ≤ x then x - k else 4294967296 - (k - x) := by
  unfold dN dist adr
  split <;> omega
/-- Add, seen from the first mark. -/
theorem add_abs {M : Int} {k x kk : Nat} {rs rs' : List (Nat × Nat)} (hM : 0 ≤ M ∧ M ≤ 4294967295) (hk : k ≤ 1000000) (hx : x ≤ 1000000) (hg : Gp 2 rs) (hA : Adv (addK rs (dN (adr M k) (adr M x))) kk (knB rs')) :
    (∀ y, 1 ≤ y → absB (k + kk) rs' y = (absB k rs y || (decide (y = x) && decide (x ≤ k + 4096)))) ∧
    (newsOf rs (dN (adr M k) (adr M x)) = 0 ↔ absB k rs x = false ∧ x ≤ k + 4096) := by
  have hd := dist_abs M k x hM hk hx
  obtain ⟨d, ed⟩ : ∃ d, d = dN (adr M k) (adr M x) := ⟨_, rfl⟩
  rw [← ed] at hd hA ⊢
  have hnews : newsOf rs d = 0 ↔ absB k rs x = false ∧ x ≤ k + 4096 := by
    unfold newsOf okB absB
    by_cases hkx : k < x
    · rw [if_pos (by omega)] at hd
      subst hd
      have e : ¬ x ≤ k := by omega
      cases hkn : knB rs (x - k)
      · by_cases hf : 4096 < x - k
        · simp [e, hf]
          rw [if_pos (by omega)]; simp; omega
        · simp [e, hf]
          omega
      · simp [e]
    · have e : x ≤ k := by omega
      have hno : ¬ (1 ≤ d ∧ d < 2147483648) := by split at hd <;> omega
      simp only [hno, decide_false, e, decide_true, Bool.true_or]
      simp
  refine ⟨fun y hy => ?_, hnews⟩
  have hrhs : ∀ z, y = k + z → 1 ≤ z → addK rs d z = (absB k rs y || (decide (y = x) && decide (x ≤ k + 4096))) := by
    intro z hz h1
    unfold addK
    have e1 : absB k rs y = knB rs z := by
      unfold absB
      have : ¬ y ≤ k := by omega
      rw [show y - k = z by omega]
      simp [this]
    rw [e1]
    cases hkn : knB rs z
    · simp only [Bool.false_or]
      rw [← Bool.decide_and, ← Bool.decide_and, decide_eq_decide, hnews]
      constructor
      · rintro ⟨h2, h3, h4⟩
        refine ⟨?_, h4⟩
        have : k < x := by
          rcases Nat.lt_or_ge k x with h | h
          · exact h
          · rw [abs_le h] at h3; cases h3
        split at hd <;> omega
      · rintro ⟨h2, h4⟩
        refine ⟨?_, ?_, h4⟩
        · split at hd <;> omega
        · rw [← h2, e1]; exact hkn
    · simp
  rcases Nat.lt_or_ge k y with hl | hl
  · have := hrhs (y - k) (by omega) (by omega)
    rw [← this]
    rcases Nat.lt_or_ge (k + kk) y with h2 | h2
    · unfold absB
      have e : ¬ y ≤ k + kk := by omega
      simp only [e, decide_false, Bool.false_or]
      rw [hA.2.2 _ (by omega), show y - (k + kk) + kk = y - k by omega]
    · rw [abs_le h2, hA.1 _ (by omega) (by omega)]
  · rw [abs_le (by omega), abs_le (by omega), Bool.true_or]
end Go.Proofs.Ytgbkmnmkejcogaa.Span
