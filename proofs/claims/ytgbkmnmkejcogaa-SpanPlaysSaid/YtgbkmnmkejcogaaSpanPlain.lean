/-
  Plain facts on sets of numbers that go round (no program text): rows of distances from the mark, what they know, what a number added or a mark moved does to them.
-/
import Derived.Test.YtgbkmnmkejcogaaSerPlain
set_option linter.unusedVariables false
namespace Go.Proofs.Ytgbkmnmkejcogaa.Span
open Go.Proofs.Ytgbkmnmkejcogaa.Ser

/-- The number that lies 'd' ahead of the mark. -/
def adr (M : Int) (d : Nat) : Int := (M + (d : Int)) % 4294967296
theorem adr_bd (M : Int) (d : Nat) : 0 ≤ adr M d ∧ adr M d ≤ 4294967295 := by unfold adr; omega
theorem adr_zero (M : Int) (h : 0 ≤ M ∧ M ≤ 4294967295) : adr M 0 = M := by unfold adr; omega
theorem adr_adr (M : Int) (a b : Nat) : adr (adr M a) b = adr M (a + b) := by unfold adr; omega
theorem adr_succ (M : Int) (d : Nat) : (adr M d + 1) % 4294967296 = adr M (d + 1) := by unfold adr; omega
theorem dist_adr (M : Int) (d : Nat) (h : 0 ≤ M ∧ M ≤ 4294967295) (hd : d < 4294967296) : dist M (adr M d) = d := by unfold dist adr; omega
theorem dist_adr2 (M : Int) (a b : Nat) (h : 0 ≤ M ∧ M ≤ 4294967295) (hab : a ≤ b) (hb : b < 4294967296) : dist (adr M a) (adr M b) = ((b - a : Nat) : Int) := by unfold dist adr; omega
theorem adr_of (M t : Int) (h : 0 ≤ M ∧ M ≤ 4294967295) (ht : 0 ≤ t ∧ t ≤ 4294967295) : ∃ d : Nat, d < 4294967296 ∧ t = adr M d ∧ dist M t = d := by
  refine ⟨(dist M t).toNat, ?_, ?_, ?_⟩ <;> (unfold dist; try unfold adr) <;> omega
theorem adr_inj (M : Int) (a b : Nat) (ha : a < 4294967296) (hb : b < 4294967296) (h : adr M a = adr M b) : a = b := by unfold adr at h; omega
theorem adr_shift (M c : Int) (d : Nat) : adr ((M + c) % 4294967296) d = (adr M d + c) % 4294967296 := by unfold adr; omega

/-- Rows: rising, apart; each from 'lo' on and no farther than numbers go. -/
def Gp (lo : Nat) (rs : List (Nat × Nat)) : Prop := rs.Pairwise (fun a b => a.2 + 1 < b.1) ∧ ∀ r ∈ rs, lo ≤ r.1 ∧ r.1 ≤ r.2 ∧ r.2 ≤ 4096
/-- Is a distance in a row? -/
def knB (rs : List (Nat × Nat)) (x : Nat) : Bool := rs.any fun r => decide (r.1 ≤ x) && decide (x ≤ r.2)
theorem knB_iff (rs : List (Nat × Nat)) (x : Nat) : knB rs x = true ↔ ∃ r ∈ rs, r.1 ≤ x ∧ x ≤ r.2 := by simp [knB]
theorem knB_nil (x : Nat) : knB [] x = false := rfl
theorem knB_cons (r : Nat × Nat) (rs : List (Nat × Nat)) (x : Nat) : knB (r :: rs) x = (decide (r.1 ≤ x) && decide (x ≤ r.2) || knB rs x) := by simp [knB]
theorem knB_append (a b : List (Nat × Nat)) (x : Nat) : knB (a ++ b) x = (knB a x || knB b x) := by simp [knB]

theorem gp_nil (lo : Nat) : Gp lo [] := ⟨.nil, by simp⟩
theorem gp_weak {lo lo' : Nat} {rs : List (Nat × Nat)} (h : Gp lo rs) (hl : lo' ≤ lo) : Gp lo' rs := ⟨h.1, fun r hr => by have := h.2 r hr; omega⟩
theorem gp_cons {lo : Nat} {r : Nat × Nat} {rs : List (Nat × Nat)} : Gp lo (r :: rs) ↔ (lo ≤ r.1 ∧ r.1 ≤ r.2 ∧ r.2 ≤ 4096) ∧ (∀ s ∈ rs, r.2 + 1 < s.1) ∧ Gp lo rs := by
  unfold Gp
  simp only [List.pairwise_cons, List.forall_mem_cons]
  constructor
  · rintro ⟨⟨a, b⟩, c, d⟩; exact ⟨c, a, b, d⟩
  · rintro ⟨c, a, b, d⟩; exact ⟨⟨a, b⟩, c, d⟩
theorem gp_append {lo : Nat} {a b : List (Nat × Nat)} : Gp lo (a ++ b) ↔ Gp lo a ∧ Gp lo b ∧ ∀ r ∈ a, ∀ s ∈ b, r.2 + 1 < s.1 := by
  unfold Gp
  simp only [List.pairwise_append, List.forall_mem_append]
  constructor
  · rintro ⟨⟨a, b, c⟩, d, e⟩; exact ⟨⟨a, d⟩, ⟨b, e⟩, c⟩
  · rintro ⟨⟨a, d⟩, ⟨b, e⟩, c⟩; exact ⟨⟨a, b, c⟩, d, e⟩
theorem kn_bd {lo : Nat} {rs : List (Nat × Nat)} (h : Gp lo rs) {x : Nat} (hx : knB rs x = true) : lo ≤ x ∧ x ≤ 4096 := by
  obtain ⟨r, hr, h1, h2⟩ := (knB_iff rs x).1 hx
  have := h.2 r hr
  omega
theorem kn_far {lo : Nat} {rs : List (Nat × Nat)} (h : Gp lo rs) {x : Nat} (hx : x < lo ∨ 4096 < x) : knB rs x = false := by
  cases e : knB rs x
  · rfl
  · have := kn_bd h e; omega

/-- The same numbers, the same rows. -/
theorem canon : ∀ {lo lo' : Nat} {a b : List (Nat × Nat)}, Gp lo a → Gp lo' b → (∀ x, knB a x = knB b x) → a = b
  | _, _, [], [], _, _, _ => rfl
  | _, _, [], r :: rs, _, hb, h => by
    have := h r.1
    have h2 := (gp_cons.1 hb).1
    simp [knB_nil, knB_cons, h2.2.1] at this
  | _, _, r :: rs, [], ha, _, h => by
    have := h r.1
    have h2 := (gp_cons.1 ha).1
    simp [knB_nil, knB_cons, h2.2.1] at this
  | lo, lo', r :: rs, s :: ss, ha, hb, h => by
    obtain ⟨r1, r2, r3⟩ := gp_cons.1 ha
    obtain ⟨s1, s2, s3⟩ := gp_cons.1 hb
    have least : ∀ {lo : Nat} {r : Nat × Nat} {rs : List (Nat × Nat)} {x : Nat}, Gp lo (r :: rs) → knB (r :: rs) x = true → r.1 ≤ x := by
      intro lo r rs x hg hx
      obtain ⟨g1, g2, g3⟩ := gp_cons.1 hg
      obtain ⟨q, hq, q1, q2⟩ := (knB_iff _ _).1 hx
      rcases List.mem_cons.1 hq with rfl | hq
      · exact q1
      · have := g2 q hq; omega
    have inn : ∀ {lo : Nat} {r : Nat × Nat} {rs : List (Nat × Nat)} {x : Nat}, Gp lo (r :: rs) → knB (r :: rs) x = true → x ≤ r.2 ∨ r.2 + 1 < x := by
      intro lo r rs x hg hx
      obtain ⟨g1, g2, g3⟩ := gp_cons.1 hg
      obtain ⟨q, hq, q1, q2⟩ := (knB_iff _ _).1 hx
      rcases List.mem_cons.1 hq with rfl | hq
      · omega
      · have := g2 q hq; omega
    have kr : ∀ x, r.1 ≤ x → x ≤ r.2 → knB (r :: rs) x = true := fun x h1 h2 => by simp [knB_cons, h1, h2]
    have ks : ∀ x, s.1 ≤ x → x ≤ s.2 → knB (s :: ss) x = true := fun x h1 h2 => by simp [knB_cons, h1, h2]
    have e1 : r.1 = s.1 := by
      have a1 := least hb ((h r.1).symm.trans (kr _ (Nat.le_refl _) r1.2.1))
      have a2 := least ha ((h s.1).trans (ks _ (Nat.le_refl _) s1.2.1))
      omega
    have e2 : r.2 = s.2 := by
      rcases Nat.lt_trichotomy r.2 s.2 with hl | he | hg
      · have := inn ha ((h (r.2 + 1)).trans (ks _ (by omega) (by omega))); omega
      · exact he
      · have := inn hb ((h (s.2 + 1)).symm.trans (kr _ (by omega) (by omega))); omega
    obtain rfl : r = s := Prod.ext e1 e2
    have ht : ∀ x, knB rs x = knB ss x := by
      intro x
      have hx := h x
      rw [knB_cons, knB_cons] at hx
      by_cases hin : r.1 ≤ x ∧ x ≤ r.2
      · have f1 : ∀ {q : List (Nat × Nat)}, (∀ s ∈ q, r.2 + 1 < s.1) → knB q x = false := by
          intro q hq
          cases e : knB q x
          · rfl
          · obtain ⟨t, ht, t1, t2⟩ := (knB_iff _ _).1 e
            have := hq t ht; omega
        rw [f1 r2, f1 s2]
      · have : (decide (r.1 ≤ x) && decide (x ≤ r.2)) = false := by
          rw [← Bool.decide_and]; exact decide_eq_false hin
        simpa [this] using hx
    rw [canon r3 s3 ht]

/-- No more rows than numbers. -/
theorem gp_length : ∀ {lo : Nat} {rs : List (Nat × Nat)}, Gp lo rs → rs.length + lo ≤ 4097 ∨ rs = []
  | _, [], _ => .inr rfl
  | lo, r :: rs, h => by
    obtain ⟨h1, h2, h3⟩ := gp_cons.1 h
    left
    have h4 : Gp (r.2 + 2) rs := ⟨h3.1, fun s hs => by have := h2 s hs; have := h3.2 s hs; omega⟩
    rcases gp_length h4 with h5 | h5
    · simp only [List.length_cons]; omega
    · subst h5; simp only [List.length_cons, List.length_nil]; omega
theorem gp_len {lo : Nat} {rs : List (Nat × Nat)} (h : Gp lo rs) : rs.length ≤ 4097 := by
  rcases gp_length h with h | h
  · omega
  · subst h; simp

/-- How many numbers the rows hold. -/
def cnt : List (Nat × Nat) → Nat
  | [] => 0
  | r :: rs => (r.2 - r.1 + 1) + cnt rs
theorem cnt_snoc : ∀ (rs : List (Nat × Nat)) (r : Nat × Nat), cnt (rs ++ [r]) = cnt rs + (r.2 - r.1 + 1)
  | [], r => by simp [cnt]
  | s :: rs, r => by simp [cnt, cnt_snoc rs r]; omega
theorem cnt_append : ∀ (a b : List (Nat × Nat)), cnt (a ++ b) = cnt a + cnt b
  | [], b => by simp [cnt]
  | s :: a, b => by simp [cnt, cnt_append a b]; omega
theorem cnt_le : ∀ {lo : Nat} {rs : List (Nat × Nat)}, Gp lo rs → cnt rs ≤ 4097
  | lo, rs, h => by
    have key : ∀ (rs : List (Nat × Nat)) (lo : Nat), lo ≤ 4097 → Gp lo rs → cnt rs + lo ≤ 4097 := by
      intro rs
      induction rs with
      | nil => intro lo hlo _; simpa [cnt] using hlo
      | cons r rs ih =>
        intro lo hlo hg
        obtain ⟨h1, h2, h3⟩ := gp_cons.1 hg
        have h4 : Gp (r.2 + 1) rs := ⟨h3.1, fun s hs => by have := h2 s hs; have := h3.2 s hs; omega⟩
        have := ih (r.2 + 1) (by omega) h4
        simp only [cnt]
        omega
    have h0 : Gp 0 rs := gp_weak h (by omega)
    have := key rs 0 (by omega) h0
    omega

/-! ### the split at a distance -/
/-- Where 'find' ends: all of A end ahead of 'd', none of B does. -/
def Split (rs A B : List (Nat × Nat)) (d : Nat) : Prop := rs = A ++ B ∧ (∀ r ∈ A, r.2 < d) ∧ ∀ r ∈ B, d ≤ r.2
/-- Does the first of them begin by 'd'? -/
def covB (B : List (Nat × Nat)) (d : Nat) : Bool := match B with | [] => false | r :: _ => decide (r.1 ≤ d)
theorem cov_knB {lo d : Nat} {rs A B : List (Nat × Nat)} (hg : Gp lo rs) (hs : Split rs A B d) : knB rs d = covB B d := by
  obtain ⟨rfl, hA, hB⟩ := hs
  obtain ⟨gA, gB, gAB⟩ := gp_append.1 hg
  have fA : knB A d = false := by
    cases e : knB A d
    · rfl
    · obtain ⟨r, hr, h1, h2⟩ := (knB_iff _ _).1 e
      have := hA r hr; omega
  rw [knB_append, fA, Bool.false_or]
  cases B with
  | nil => rfl
  | cons b B =>
    obtain ⟨b1, b2, b3⟩ := gp_cons.1 gB
    have hb := hB b (by simp)
    have fB : b.1 ≤ d ∨ knB B d = false := by
      by_cases hd : b.1 ≤ d
      · exact .inl hd
      · right
        cases e : knB B d
        · rfl
        · obtain ⟨r, hr, h1, h2⟩ := (knB_iff _ _).1 e
          have := b2 r hr; omega
    simp only [covB, knB_cons]
    rcases fB with h | h
    · simp [h, hb]
    · rw [h]; simp [hb]

/-- What the mark does next: it goes on over 'k' numbers that are known. -/
def Adv (K : Nat → Bool) (k : Nat) (K' : Nat → Bool) : Prop := (∀ j, 1 ≤ j → j ≤ k → K j = true) ∧ K (k + 1) = false ∧ ∀ x, 1 ≤ x → K' x = K (x + k)
theorem adv_unique {K K1 K2 : Nat → Bool} {k1 k2 : Nat} (h1 : Adv K k1 K1) (h2 : Adv K k2 K2) : k1 = k2 ∧ ∀ x, 1 ≤ x → K1 x = K2 x := by
  have e : k1 = k2 := by
    rcases Nat.lt_trichotomy k1 k2 with hl | he | hg
    · have := h2.1 (k1 + 1) (by omega) (by omega); rw [h1.2.1] at this; cases this
    · exact he
    · have := h1.1 (k2 + 1) (by omega) (by omega); rw [h2.2.1] at this; cases this
  subst e
  exact ⟨rfl, fun x hx => (h1.2.2 x hx).trans (h2.2.2 x hx).symm⟩
theorem adv_congr {K L K' : Nat → Bool} {k : Nat} (h : Adv K k K') (e : ∀ x, 1 ≤ x → K x = L x) : Adv L k K' :=
  ⟨fun j h1 h2 => (e j h1).symm.trans (h.1 j h1 h2), (e _ (by omega)).symm.trans h.2.1, fun x hx => (h.2.2 x hx).trans (e _ (by omega))⟩

/-- The rows seen from a mark that lies 'k' further on. -/
def shl (k : Nat) (rs : List (Nat × Nat)) : List (Nat × Nat) := rs.map fun r => (r.1 - k, r.2 - k)
theorem shl_zero (rs : List (Nat × Nat)) : shl 0 rs = rs := by simp [shl]
theorem shl_length (k : Nat) (rs : List (Nat × Nat)) : (shl k rs).length = rs.length := by simp [shl]
theorem gp_shl {lo k : Nat} {rs : List (Nat × Nat)} (h : Gp (k + lo) rs) : Gp lo (shl k rs) := by
  refine ⟨?_, ?_⟩
  · unfold shl
    rw [List.pairwise_map]
    refine h.1.imp_of_mem ?_
    intro a b ha hb hab
    have := h.2 a ha; have := h.2 b hb
    simp only
    omega
  · intro r hr
    obtain ⟨s, hs, rfl⟩ := List.mem_map.1 hr
    have := h.2 s hs
    simp only
    omega
theorem knB_shl {lo k : Nat} {rs : List (Nat × Nat)} (h : Gp (k + lo) rs) (x : Nat) (hlo : 1 ≤ lo) : knB (shl k rs) x = knB rs (x + k) := by
  rw [Bool.eq_iff_iff, knB_iff, knB_iff]
  constructor
  · rintro ⟨r, hr, h1, h2⟩
    obtain ⟨s, hs, rfl⟩ := List.mem_map.1 hr
    have := h.2 s hs
    simp only at h1 h2
    exact ⟨s, hs, by omega, by omega⟩
  · rintro ⟨s, hs, h1, h2⟩
    have := h.2 s hs
    exact ⟨(s.1 - k, s.2 - k), List.mem_map.2 ⟨s, hs, rfl⟩, by simp only; omega, by simp only; omega⟩

/-- The mark goes on over the first row, if that touches it. -/
theorem adv_none {rs : List (Nat × Nat)} (h : Gp 1 rs) (hf : ∀ r ∈ rs.head?, r.1 ≠ 1) : Gp 2 rs ∧ Adv (knB rs) 0 (knB rs) := by
  have g2 : Gp 2 rs := by
    cases rs with
    | nil => exact gp_nil 2
    | cons r rs =>
      obtain ⟨h1, h2, h3⟩ := gp_cons.1 h
      have hne : r.1 ≠ 1 := hf r (by simp)
      refine gp_cons.2 ⟨by omega, h2, ⟨h3.1, fun s hs => ?_⟩⟩
      have := h2 s hs; have := h3.2 s hs; omega
  exact ⟨g2, fun j h1 h2 => by omega, kn_far g2 (by omega), fun x _ => rfl⟩
theorem adv_some {r : Nat × Nat} {rs : List (Nat × Nat)} (h : Gp 1 (r :: rs)) (hf : r.1 = 1) : Gp 2 (shl r.2 rs) ∧ Adv (knB (r :: rs)) r.2 (knB (shl r.2 rs)) := by
  obtain ⟨h1, h2, h3⟩ := gp_cons.1 h
  have g : Gp (r.2 + 2) rs := ⟨h3.1, fun s hs => by have := h2 s hs; have := h3.2 s hs; omega⟩
  refine ⟨gp_shl g, fun j j1 j2 => by rw [knB_cons]; simp [j2]; left; omega, ?_, ?_⟩
  · rw [knB_cons, kn_far g (by omega)]; simp
  · intro x hx
    rw [knB_shl g x (by omega), knB_cons]
    have : ¬ (x + r.2 ≤ r.2) := by omega
    simp [this]

/-! ### a number is put into the rows -/
theorem put_core {lo d : Nat} {A B : List (Nat × Nat)} {ds : List (Nat × Nat)} (c : Nat × Nat) (hA : Gp lo A) (hB : Gp lo B) (hc : lo ≤ c.1 ∧ c.1 ≤ c.2 ∧ c.2 ≤ 4096)
    (h1 : ∀ r ∈ A, r.2 + 1 < c.1) (h2 : ∀ r ∈ B, c.2 + 1 < r.1) (hk : ∀ x, (knB A x || (decide (c.1 ≤ x) && decide (x ≤ c.2)) || knB B x) = (knB ds x || decide (x = d))) :
    Gp lo (A ++ c :: B) ∧ ∀ x, knB (A ++ c :: B) x = (knB ds x || decide (x = d)) := by
  refine ⟨gp_append.2 ⟨hA, gp_cons.2 ⟨hc, h2, hB⟩, ?_⟩, fun x => ?_⟩
  · intro r hr s hs
    rcases List.mem_cons.1 hs with rfl | hs
    · exact h1 r hr
    · have := h1 r hr; have := h2 s hs; omega
  · rw [knB_append, knB_cons, ← hk, Bool.or_assoc]

theorem put_none {d : Nat} {rs A B : List (Nat × Nat)} (hg : Gp 2 rs) (hs : Split rs A B d) (hc : covB B d = false) (hd : 1 ≤ d ∧ d ≤ 4096)
    (hl : ∀ r ∈ A.getLast?, r.2 + 1 ≠ d) (hn : ∀ r ∈ B.head?, d + 1 ≠ r.1) : Gp 1 (A ++ (d, d) :: B) ∧ ∀ x, knB (A ++ (d, d) :: B) x = (knB rs x || decide (x = d)) := by
  obtain ⟨rfl, hA, hB⟩ := hs
  obtain ⟨gA, gB, gAB⟩ := gp_append.1 (gp_weak hg (show 1 ≤ 2 by omega))
  refine put_core (d, d) gA gB (by simp only; omega) ?_ ?_ ?_
  · intro r hr
    rcases List.eq_nil_or_concat A with rfl | ⟨A0, a, rfl⟩
    · cases hr
    · have ha := hl a (by simp)
      have hd := hA a (by simp)
      rcases List.mem_append.1 (by simpa using hr : r ∈ A0 ++ [a]) with h | h
      · have := (gp_append.1 (by simpa using gA : Gp 1 (A0 ++ [a]))).2.2 r h a (by simp)
        have := gA.2 a (by simp)
        simp only; omega
      · have : r = a := by simpa using h
        subst this; simp only; omega
  · intro r hr
    cases B with
    | nil => cases hr
    | cons b B =>
      have hb := hn b (by simp)
      have hcd : ¬ b.1 ≤ d := by simpa [covB] using hc
      obtain ⟨b1, b2, b3⟩ := gp_cons.1 gB
      rcases List.mem_cons.1 hr with rfl | h
      · simp only; omega
      · have := b2 r h; simp only; omega
  · intro x
    rw [knB_append]
    have : (decide (d ≤ x) && decide (x ≤ d)) = decide (x = d) := by rw [Bool.eq_iff_iff]; simp; omega
    simp only [this]
    cases knB A x <;> cases knB B x <;> cases decide (x = d) <;> rfl

theorem put_last {d : Nat} {rs A B : List (Nat × Nat)} {a : Nat × Nat} (hg : Gp 2 rs) (hs : Split rs (A ++ [a]) B d) (hc : covB B d = false) (hd : 1 ≤ d ∧ d ≤ 4096)
    (hl : a.2 + 1 = d) (hn : ∀ r ∈ B.head?, d + 1 ≠ r.1) : Gp 1 (A ++ (a.1, d) :: B) ∧ ∀ x, knB (A ++ (a.1, d) :: B) x = (knB rs x || decide (x = d)) := by
  obtain ⟨rfl, hA, hB⟩ := hs
  obtain ⟨gA, gB, gAB⟩ := gp_append.1 (gp_weak hg (show 1 ≤ 2 by omega))
  obtain ⟨gA0, ga, gA1⟩ := gp_append.1 gA
  have haa := ga.2 a (by simp)
  refine put_core (a.1, d) gA0 gB (by simp only; omega) ?_ ?_ ?_
  · intro r hr; exact gA1 r hr a (by simp)
  · intro r hr
    cases B with
    | nil => cases hr
    | cons b B =>
      have hb := hn b (by simp)
      have hcd : ¬ b.1 ≤ d := by simpa [covB] using hc
      obtain ⟨b1, b2, b3⟩ := gp_cons.1 gB
      rcases List.mem_cons.1 hr with rfl | h
      · simp only; omega
      · have := b2 r h; simp only; omega
  · intro x
    rw [knB_append, knB_append, knB_cons, knB_nil]
    have : (decide (a.1 ≤ x) && decide (x ≤ d)) = ((decide (a.1 ≤ x) && decide (x ≤ a.2)) || decide (x = d)) := by rw [Bool.eq_iff_iff]; simp; omega
    simp only [this]
    cases knB A x <;> cases knB B x <;> cases decide (x = d) <;> cases (decide (a.1 ≤ x) && decide (x ≤ a.2)) <;> rfl

theorem put_next {d : Nat} {rs A B : List (Nat × Nat)} {b : Nat × Nat} (hg : Gp 2 rs) (hs : Split rs A (b :: B) d) (hd : 1 ≤ d ∧ d ≤ 4096)
    (hl : ∀ r ∈ A.getLast?, r.2 + 1 ≠ d) (hn : d + 1 = b.1) : Gp 1 (A ++ (d, b.2) :: B) ∧ ∀ x, knB (A ++ (d, b.2) :: B) x = (knB rs x || decide (x = d)) := by
  obtain ⟨rfl, hA, hB⟩ := hs
  obtain ⟨gA, gB, gAB⟩ := gp_append.1 (gp_weak hg (show 1 ≤ 2 by omega))
  obtain ⟨b1, b2, b3⟩ := gp_cons.1 gB
  refine put_core (d, b.2) gA b3 (by simp only; omega) ?_ (fun r hr => b2 r hr) ?_
  · intro r hr
    rcases List.eq_nil_or_concat A with rfl | ⟨A0, a, rfl⟩
    · cases hr
    · have ha := hl a (by simp)
      have hd := hA a (by simp)
      rcases List.mem_append.1 (by simpa using hr : r ∈ A0 ++ [a]) with h | h
      · have := (gp_append.1 (by simpa using gA : Gp 1 (A0 ++ [a]))).2.2 r h a (by simp)
        have := gA.2 a (by simp)
        simp only; omega
      · have : r = a := by simpa using h
        subst this; simp only; omega
  · intro x
    rw [knB_append, knB_cons]
    have : (decide (d ≤ x) && decide (x ≤ b.2)) = ((decide (b.1 ≤ x) && decide (x ≤ b.2)) || decide (x = d)) := by rw [Bool.eq_iff_iff]; simp; omega
    simp only [this]
    cases knB A x <;> cases knB B x <;> cases decide (x = d) <;> cases (decide (b.1 ≤ x) && decide (x ≤ b.2)) <;> rfl

theorem put_both {d : Nat} {rs A B : List (Nat × Nat)} {a b : Nat × Nat} (hg : Gp 2 rs) (hs : Split rs (A ++ [a]) (b :: B) d) (hd : 1 ≤ d ∧ d ≤ 4096)
    (hl : a.2 + 1 = d) (hn : d + 1 = b.1) : Gp 1 (A ++ (a.1, b.2) :: B) ∧ ∀ x, knB (A ++ (a.1, b.2) :: B) x = (knB rs x || decide (x = d)) := by
  obtain ⟨rfl, hA, hB⟩ := hs
  obtain ⟨gA, gB, gAB⟩ := gp_append.1 (gp_weak hg (show 1 ≤ 2 by omega))
  obtain ⟨gA0, ga, gA1⟩ := gp_append.1 gA
  obtain ⟨b1, b2, b3⟩ := gp_cons.1 gB
  have haa := ga.2 a (by simp)
  refine put_core (a.1, b.2) gA0 b3 (by simp only; omega) (fun r hr => gA1 r hr a (by simp)) (fun r hr => b2 r hr) ?_
  intro x
  rw [knB_append, knB_append, knB_cons, knB_nil, knB_cons]
  have : (decide (a.1 ≤ x) && decide (x ≤ b.2)) = ((decide (a.1 ≤ x) && decide (x ≤ a.2)) || decide (x = d) || (decide (b.1 ≤ x) && decide (x ≤ b.2))) := by rw [Bool.eq_iff_iff]; simp; omega
  simp only [this]
  cases knB A x <;> cases knB B x <;> cases decide (x = d) <;> cases (decide (a.1 ≤ x) && decide (x ≤ a.2)) <;> cases (decide (b.1 ≤ x) && decide (x ≤ b.2)) <;> rfl

/-! ### the mark skips -/
theorem skip_cut {lo d : Nat} {rs A B : List (Nat × Nat)} {b : Nat × Nat} (hg : Gp lo rs) (hs : Split rs A (b :: B) (d + 1)) (hc : b.1 ≤ d) (hd : 1 ≤ d) :
    Gp (d + 1) ((d + 1, b.2) :: B) ∧ ∀ x, 1 ≤ x → knB ((d + 1, b.2) :: B) (x + d) = knB rs (x + d) := by
  obtain ⟨rfl, hA, hB⟩ := hs
  obtain ⟨gA, gB, gAB⟩ := gp_append.1 hg
  obtain ⟨b1, b2, b3⟩ := gp_cons.1 gB
  have hb := hB b (by simp)
  refine ⟨gp_cons.2 ⟨by simp only; omega, b2, ⟨b3.1, fun s hs => by have := b2 s hs; have := b3.2 s hs; omega⟩⟩, fun x hx => ?_⟩
  have fA : knB A (x + d) = false := by
    cases e : knB A (x + d)
    · rfl
    · obtain ⟨r, hr, h1, h2⟩ := (knB_iff _ _).1 e
      have := hA r hr; omega
  rw [knB_append, fA, knB_cons, knB_cons, Bool.false_or]
  congr 1
  rw [Bool.eq_iff_iff]; simp; omega
theorem skip_plain {lo d : Nat} {rs A B : List (Nat × Nat)} (hg : Gp lo rs) (hs : Split rs A B (d + 1)) (hc : covB B d = false) :
    Gp (d + 1) B ∧ ∀ x, 1 ≤ x → knB B (x + d) = knB rs (x + d) := by
  obtain ⟨rfl, hA, hB⟩ := hs
  obtain ⟨gA, gB, gAB⟩ := gp_append.1 hg
  refine ⟨⟨gB.1, fun r hr => ?_⟩, fun x hx => ?_⟩
  · cases B with
    | nil => cases hr
    | cons b B =>
      have hcd : ¬ b.1 ≤ d := by simpa [covB] using hc
      obtain ⟨b1, b2, b3⟩ := gp_cons.1 gB
      rcases List.mem_cons.1 hr with rfl | h
      · omega
      · have := b2 r h; have := b3.2 r h; omega
  · have fA : knB A (x + d) = false := by
      cases e : knB A (x + d)
      · rfl
      · obtain ⟨r, hr, h1, h2⟩ := (knB_iff _ _).1 e
        have := hA r hr; omega
    rw [knB_append, fA, Bool.false_or]

end Go.Proofs.Ytgbkmnmkejcogaa.Span
