/-
  Of the texts SerPlain, SpanPlain, Ser, SpanMem, SpanFind, SpanRows: what the laws reach.
-/
import Derived.IntWalk
import Derived.OpenShut
import Derived.Test.YtioddokjogbmnaaRows
import Derived.WalkKit
import Derived.ProofKit
import Derived.Below
import Derived.Lib.Hide
import Derived.Laws.OwnMore
import Derived.Laws.CopyOwn
import Derived.Deep.Draws
import Derived.Deep.QuietTactic
import Derived.BigQuiet
import Derived.Deep.AppendLies
import Derived.Deep.RegionLaw
import Derived.Lib.Overlaps
import Derived.Laws.IdiomCopy

namespace Go.Proofs.Ytioddokjogbmnaa.Ser
set_option linter.unusedVariables false
open Go Go.ChangeShapes Go.WideShapes
/-- from a up to b, round the end -/
def dist (a b : Int) : Int := (b - a) % 4294967296
def lessB (a b : Int) : Bool := decide (1 ≤ dist a b ∧ dist a b ≤ 2147483647)
def inB (x s t : Int) : Bool := decide (dist s x ≤ dist s t)
theorem dist_bd (a b : Int) : 0 ≤ dist a b ∧ dist a b ≤ 4294967295 := by unfold dist; omega
theorem lessB_mk0 {a b : Int} (h : ¬ (1 ≤ dist a b ∧ dist a b ≤ 2147483647)) : lessB a b = false := decide_eq_false h
end Go.Proofs.Ytioddokjogbmnaa.Ser

set_option linter.unusedVariables false
namespace Go.Proofs.Ytioddokjogbmnaa.Span
open Go.Proofs.Ytioddokjogbmnaa.Ser
/-- The number that lies 'd' ahead of the mark. -/
def adr (M : Int) (d : Nat) : Int := (M + (d : Int)) % 4294967296
theorem adr_bd (M : Int) (d : Nat) : 0 ≤ adr M d ∧ adr M d ≤ 4294967295 := by unfold adr; omega
theorem adr_zero (M : Int) (h : 0 ≤ M ∧ M ≤ 4294967295) : adr M 0 = M := by unfold adr; omega
theorem adr_adr (M : Int) (a b : Nat) : adr (adr M a) b = adr M (a + b) := by unfold adr; omega
theorem adr_succ (M : Int) (d : Nat) : (adr M d + 1) % 4294967296 = adr M (d + 1) := by unfold adr; omega
theorem dist_adr (M : Int) (d : Nat) (h : 0 ≤ M ∧ M ≤ 4294967295) (hd : d < 4294967296) : dist M (adr M d) = d := by unfold dist adr; omega
theorem adr_inj (M : Int) (a b : Nat) (ha : a < 4294967296) (hb : b < 4294967296) (h : adr M a = adr M b) : a = b := by unfold adr at h; omega
/-- Rows: rising, apart; each from 'lo' on and no farther than numbers go. -/
def Gp (lo : Nat) (rs : List (Nat × Nat)) : Prop := rs.Pairwise (fun a b => a.2 + 1 < b.1) ∧ ∀ r ∈ rs, lo ≤ r.1 ∧ r.1 ≤ r.2 ∧ r.2 ≤ 4096
/-- Is a distance in a row? -/
def knB (rs : List (Nat × Nat)) (x : Nat) : Bool := rs.any fun r => decide (r.1 ≤ x) && decide (x ≤ r.2)
theorem knB_iff (rs : List (Nat × Nat)) (x : Nat) : knB rs x = true ↔ ∃ r ∈ rs, r.1 ≤ x ∧ x ≤ r.2 := by simp [knB]
theorem knB_nil (x : Nat) : knB [] x = false := rfl
theorem knB_cons (r : Nat × Nat) (rs : List (Nat × Nat)) (x : Nat) : knB (r :: rs) x = (decide (r.1 ≤ x) && decide (x ≤ r.2) || knB rs x) := by simp [knB]
theorem knB_append (a b : List (Nat × Nat)) (x : Nat) : knB (a ++ b) x = (knB a x || knB b x) := by simp [knB]
theorem gp_nil (lo : Nat) : Gp lo [] := ⟨.nil, by simp⟩
theorem gp_weak {lo lo' : Nat} {rs : List (Nat × Nat)} (h : Gp lo rs) (hl : lo' ≤ lo) : Gp lo' rs := ⟨h.1, fun r hr => by have := h.2 r hr; omega⟩
theorem gp_cons {lo : Nat} {r : Nat × Nat} {rs : List (Nat × Nat)} : Gp lo (r :: rs) ↔ (lo ≤ r.1 ∧ r.1 ≤ r.2 ∧ r.2 ≤ 4096) ∧ (∀ s ∈ rs, r.2 + 1 < s.1) ∧ Gp lo rs := by
  unfold Gp
  simp only [List.pairwise_cons, List.forall_mem_cons]
  constructor
  · rintro ⟨⟨a, b⟩, c, d⟩; exact ⟨c, a, b, d⟩
  · rintro ⟨c, a, b, d⟩; exact ⟨⟨a, b⟩, c, d⟩
theorem gp_append {lo : Nat} {a b : List (Nat × Nat)} : Gp lo (a ++ b) ↔ Gp lo a ∧ Gp lo b ∧ ∀ r ∈ a, ∀ s ∈ b, r.2 + 1 < s.1 := by
  unfold Gp
  simp only [List.pairwise_append, List.forall_mem_append]
  constructor
  · rintro ⟨⟨a, b, c⟩, d, e⟩; exact ⟨⟨a, d⟩, ⟨b, e⟩, c⟩
  · rintro ⟨⟨a, d⟩, ⟨b, e⟩, c⟩; exact ⟨⟨a, b, c⟩, d, e⟩
theorem kn_bd {lo : Nat} {rs : List (Nat × Nat)} (h : Gp lo rs) {x : Nat} (hx : knB rs x = true) : lo ≤ x ∧ x ≤ 4096 := by
  obtain ⟨r, hr, h1, h2⟩ := (knB_iff rs x).1 hx
  have := h.2 r hr
  omega
theorem kn_far {lo : Nat} {rs : List (Nat × Nat)} (h : Gp lo rs) {x : Nat} (hx : x < lo ∨ 4096 < x) : knB rs x = false := by
  cases e : knB rs x
  · rfl
  · have := kn_bd h e; omega
/-- The same numbers, the same rows. -/
theorem canon : ∀ {lo lo' : Nat} {a b : List (Nat × Nat)}, Gp lo a → Gp lo' b → (∀ x, knB a x = knB b x) → a = b
  | _, _, [], [], _, _, _ => rfl
  | _, _, [], r :: rs, _, hb, h => by
    have := h r.1
    have h2 := (gp_cons.1 hb).1
    simp [knB_nil, knB_cons, h2.2.1] at this
  | _, _, r :: rs, [], ha, _, h => by
    have := h r.1
    have h2 := (gp_cons.1 ha).1
    simp [knB_nil, knB_cons, h2.2.1] at this
  | lo, lo', r :: rs, s :: ss, ha, hb, h => by
    obtain ⟨r1, r2, r3⟩ := gp_cons.1 ha
    obtain ⟨s1, s2, s3⟩ := gp_cons.1 hb
    have least : ∀ {lo : Nat} {r : Nat × Nat} {rs : List (Nat × Nat)} {x : Nat}, Gp lo (r :: rs) → knB (r :: rs) x = true → r.1 ≤ x := by
      intro lo r rs x hg hx
      obtain ⟨g1, g2, g3⟩ := gp_cons.1 hg
      obtain ⟨q, hq, q1, q2⟩ := (knB_iff _ _).1 hx
      rcases List.mem_cons.1 hq with rfl | hq
      · exact q1
      · have := g2 q hq; omega
    have inn : ∀ {lo : Nat} {r : Nat × Nat} {rs : List (Nat × Nat)} {x : Nat}, Gp lo (r :: rs) → knB (r :: rs) x = true → x ≤ r.2 ∨ r.2 + 1 < x := by
      intro lo r rs x hg hx
      obtain ⟨g1, g2, g3⟩ := gp_cons.1 hg
      obtain ⟨q, hq, q1, q2⟩ := (knB_iff _ _).1 hx
      rcases List.mem_cons.1 hq with rfl | hq
      · omega
      · have := g2 q hq; omega
    have kr : ∀ x, r.1 ≤ x → x ≤ r.2 → knB (r :: rs) x = true := fun x h1 h2 => by simp [knB_cons, h1, h2]
    have ks : ∀ x, s.1 ≤ x → x ≤ s.2 → knB (s :: ss) x = true := fun x h1 h2 => by simp [knB_cons, h1, h2]
    have e1 : r.1 = s.1 := by
      have a1 := least hb ((h r.1).symm.trans (kr _ (Nat.le_refl _) r1.2.1))
      have a2 := least ha ((h s.1).trans (ks _ (Nat.le_refl _) s1.2.1))
      omega
    have e2 : r.2 = s.2 := by
      rcases Nat.lt_trichotomy r.2 s.2 with hl | he | hg
      · have := inn ha ((h (r.2 + 1)).trans (ks _ (by omega) (by omega))); omega
      · exact he
      · have := inn hb ((h (s.2 + 1)).symm.trans (kr _ (by omega) (by omega))); omega
    obtain rfl : r = s := Prod.ext e1 e2
    have ht : ∀ x, knB rs x = knB ss x := by
      intro x
      have hx := h x
      rw [knB_cons, knB_cons] at hx
      by_cases hin : r.1 ≤ x ∧ x ≤ r.2
      · have f1 : ∀ {q : List (Nat × Nat)}, (∀ s ∈ q, r.2 + 1 < s.1) → knB q x = false := by
          intro q hq
          cases e : knB q x
          · rfl
          · obtain ⟨t, ht, t1, t2⟩ := (knB_iff _ _).1 e
            have := hq t ht; omega
        rw [f1 r2, f1 s2]
      · have : (decide (r.1 ≤ x) && decide (x ≤ r.2)) = false := by
          rw [← Bool.decide_and]; exact decide_eq_false hin
        simpa [this] using hx
    rw [canon r3 s3 ht]
/-- No more rows than numbers. -/
theorem gp_length : ∀ {lo : Nat} {rs : List (Nat × Nat)}, Gp lo rs → rs.length + lo ≤ 4097 ∨ rs = []
  | _, [], _ => .inr rfl
  | lo, r :: rs, h => by
    obtain ⟨h1, h2, h3⟩ := gp_cons.1 h
    left
    have h4 : Gp (r.2 + 2) rs := ⟨h3.1, fun s hs => by have := h2 s hs; have := h3.2 s hs; omega⟩
    rcases gp_length h4 with h5 | h5
    · simp only [List.length_cons]; omega
    · subst h5; simp only [List.length_cons, List.length_nil]; omega
theorem gp_len {lo : Nat} {rs : List (Nat × Nat)} (h : Gp lo rs) : rs.length ≤ 4097 := by
  rcases gp_length h with h | h
  · omega
  · subst h; simp
/-- How many numbers the rows hold. -/
def cnt : List (Nat × Nat) → Nat
  | [] => 0
  | r :: rs => (r.2 - r.1 + 1) + cnt rs
/-- Where 'find' ends: all of A end ahead of 'd', none of B does. -/
def Split (rs A B : List (Nat × Nat)) (d : Nat) : Prop := rs = A ++ B ∧ (∀ r ∈ A, r.2 < d) ∧ ∀ r ∈ B, d ≤ r.2
/-- Does the first of them begin by 'd'? -/
def covB (B : List (Nat × Nat)) (d : Nat) : Bool := match B with | [] => false | r :: _ => decide (r.1 ≤ d)
theorem cov_knB {lo d : Nat} {rs A B : List (Nat × Nat)} (hg : Gp lo rs) (hs : Split rs A B d) : knB rs d = covB B d := by
  obtain ⟨rfl, hA, hB⟩ := hs
  obtain ⟨gA, gB, gAB⟩ := gp_append.1 hg
  have fA : knB A d = false := by
    cases e : knB A d
    · rfl
    · obtain ⟨r, hr, h1, h2⟩ := (knB_iff _ _).1 e
      have := hA r hr; omega
  rw [knB_append, fA, Bool.false_or]
  cases B with
  | nil => rfl
  | cons b B =>
    obtain ⟨b1, b2, b3⟩ := gp_cons.1 gB
    have hb := hB b (by simp)
    have fB : b.1 ≤ d ∨ knB B d = false := by
      by_cases hd : b.1 ≤ d
      · exact .inl hd
      · right
        cases e : knB B d
        · rfl
        · obtain ⟨r, hr, h1, h2⟩ := (knB_iff _ _).1 e
          have := b2 r hr; omega
    simp only [covB, knB_cons]
    rcases fB with h | h
    · simp [h, hb]
    · rw [h]; simp [hb]
/-- What the mark does next: it goes on over 'k' numbers that are known. -/
def Adv (K : Nat → Bool) (k : Nat) (K' : Nat → Bool) : Prop := (∀ j, 1 ≤ j → j ≤ k → K j = true) ∧ K (k + 1) = false ∧ ∀ x, 1 ≤ x → K' x = K (x + k)
theorem adv_unique {K K1 K2 : Nat → Bool} {k1 k2 : Nat} (h1 : Adv K k1 K1) (h2 : Adv K k2 K2) : k1 = k2 ∧ ∀ x, 1 ≤ x → K1 x = K2 x := by
  have e : k1 = k2 := by
    rcases Nat.lt_trichotomy k1 k2 with hl | he | hg
    · have := h2.1 (k1 + 1) (by omega) (by omega); rw [h1.2.1] at this; cases this
    · exact he
    · have := h1.1 (k2 + 1) (by omega) (by omega); rw [h2.2.1] at this; cases this
  subst e
  exact ⟨rfl, fun x hx => (h1.2.2 x hx).trans (h2.2.2 x hx).symm⟩
theorem adv_congr {K L K' : Nat → Bool} {k : Nat} (h : Adv K k K') (e : ∀ x, 1 ≤ x → K x = L x) : Adv L k K' :=
  ⟨fun j h1 h2 => (e j h1).symm.trans (h.1 j h1 h2), (e _ (by omega)).symm.trans h.2.1, fun x hx => (h.2.2 x hx).trans (e _ (by omega))⟩
/-- The rows seen from a mark that lies 'k' further on. -/
def shl (k : Nat) (rs : List (Nat × Nat)) : List (Nat × Nat) := rs.map fun r => (r.1 - k, r.2 - k)
theorem shl_length (k : Nat) (rs : List (Nat × Nat)) : (shl k rs).length = rs.length := by simp [shl]
theorem gp_shl {lo k : Nat} {rs : List (Nat × Nat)} (h : Gp (k + lo) rs) : Gp lo (shl k rs) := by
  refine ⟨?_, ?_⟩
  · unfold shl
    rw [List.pairwise_map]
    refine h.1.imp_of_mem ?_
    intro a b ha hb hab
    have := h.2 a ha; have := h.2 b hb
    simp only
    omega
  · intro r hr
    obtain ⟨s, hs, rfl⟩ := List.mem_map.1 hr
    have := h.2 s hs
    simp only
    omega
theorem knB_shl {lo k : Nat} {rs : List (Nat × Nat)} (h : Gp (k + lo) rs) (x : Nat) (hlo : 1 ≤ lo) : knB (shl k rs) x = knB rs (x + k) := by
  rw [Bool.eq_iff_iff, knB_iff, knB_iff]
  constructor
  · rintro ⟨r, hr, h1, h2⟩
    obtain ⟨s, hs, rfl⟩ := List.mem_map.1 hr
    have := h.2 s hs
    simp only at h1 h2
    exact ⟨s, hs, by omega, by omega⟩
  · rintro ⟨s, hs, h1, h2⟩
    have := h.2 s hs
    exact ⟨(s.1 - k, s.2 - k), List.mem_map.2 ⟨s, hs, rfl⟩, by simp only; omega, by simp only; omega⟩
/-- The mark goes on over the first row, if that touches it. -/
theorem adv_none {rs : List (Nat × Nat)} (h : Gp 1 rs) (hf : ∀ r ∈ rs.head?, r.1 ≠ 1) : Gp 2 rs ∧ Adv (knB rs) 0 (knB rs) := by
  have g2 : Gp 2 rs := by
    cases rs with
    | nil => exact gp_nil 2
    | cons r rs =>
      obtain ⟨h1, h2, h3⟩ := gp_cons.1 h
      have hne : r.1 ≠ 1 := hf r (by simp)
      refine gp_cons.2 ⟨by omega, h2, ⟨h3.1, fun s hs => ?_⟩⟩
      have := h2 s hs; have := h3.2 s hs; omega
  exact ⟨g2, fun j h1 h2 => by omega, kn_far g2 (by omega), fun x _ => rfl⟩
theorem adv_some {r : Nat × Nat} {rs : List (Nat × Nat)} (h : Gp 1 (r :: rs)) (hf : r.1 = 1) : Gp 2 (shl r.2 rs) ∧ Adv (knB (r :: rs)) r.2 (knB (shl r.2 rs)) := by
  obtain ⟨h1, h2, h3⟩ := gp_cons.1 h
  have g : Gp (r.2 + 2) rs := ⟨h3.1, fun s hs => by have := h2 s hs; have := h3.2 s hs; omega⟩
  refine ⟨gp_shl g, fun j j1 j2 => by rw [knB_cons]; simp [j2]; left; omega, ?_, ?_⟩
  · rw [knB_cons, kn_far g (by omega)]; simp
  · intro x hx
    rw [knB_shl g x (by omega), knB_cons]
    have : ¬ (x + r.2 ≤ r.2) := by omega
    simp [this]
theorem put_core {lo d : Nat} {A B : List (Nat × Nat)} {ds : List (Nat × Nat)} (c : Nat × Nat) (hA : Gp lo A) (hB : Gp lo B) (hc : lo ≤ c.1 ∧ c.1 ≤ c.2 ∧ c.2 ≤ 4096)
    (h1 : ∀ r ∈ A, r.2 + 1 < c.1) (h2 : ∀ r ∈ B, c.2 + 1 < r.1) (hk : ∀ x, (knB A x || (decide (c.1 ≤ x) && decide (x ≤ c.2)) || knB B x) = (knB ds x || decide (x = d))) :
    Gp lo (A ++ c :: B) ∧ ∀ x, knB (A ++ c :: B) x = (knB ds x || decide (x = d)) := by
  refine ⟨gp_append.2 ⟨hA, gp_cons.2 ⟨hc, h2, hB⟩, ?_⟩, fun x => ?_⟩
  · intro r hr s hs
    rcases List.mem_cons.1 hs with rfl | hs
    · exact h1 r hr
    · have := h1 r hr; have := h2 s hs; omega
  · rw [knB_append, knB_cons, ← hk, Bool.or_assoc]
theorem put_none {d : Nat} {rs A B : List (Nat × Nat)} (hg : Gp 2 rs) (hs : Split rs A B d) (hc : covB B d = false) (hd : 1 ≤ d ∧ d ≤ 4096)
    (hl : ∀ r ∈ A.getLast?, r.2 + 1 ≠ d) (hn : ∀ r ∈ B.head?, d + 1 ≠ r.1) : Gp 1 (A ++ (d, d) :: B) ∧ ∀ x, knB (A ++ (d, d) :: B) x = (knB rs x || decide (x = d)) := by
  obtain ⟨rfl, hA, hB⟩ := hs
  obtain ⟨gA, gB, gAB⟩ := gp_append.1 (gp_weak hg (show 1 ≤ 2 by omega))
  refine put_core (d, d) gA gB (by simp only; omega) ?_ ?_ ?_
  · intro r hr
    rcases List.eq_nil_or_concat A with rfl | ⟨A0, a, rfl⟩
    · cases hr
    · have ha := hl a (by simp)
      have hd := hA a (by simp)
      rcases List.mem_append.1 (by simpa using hr : r ∈ A0 ++ [a]) with h | h
      · have := (gp_append.1 (by simpa using gA : Gp 1 (A0 ++ [a]))).2.2 r h a (by simp)
        have := gA.2 a (by simp)
        simp only; omega
      · have : r = a := by simpa using h
        subst this; simp only; omega
  · intro r hr
    cases B with
    | nil => cases hr
    | cons b B =>
      have hb := hn b (by simp)
      have hcd : ¬ b.1 ≤ d := by simpa [covB] using hc
      obtain ⟨b1, b2, b3⟩ := gp_cons.1 gB
      rcases List.mem_cons.1 hr with rfl | h
      · simp only; omega
      · have := b2 r h; simp only; omega
  · intro x
    rw [knB_append]
    have : (decide (d ≤ x) && decide (x ≤ d)) = decide (x = d) := by rw [Bool.eq_iff_iff]; simp; omega
    simp only [this]
    cases knB A x <;> cases knB B x <;> cases decide (x = d) <;> rfl
theorem put_last {d : Nat} {rs A B : List (Nat × Nat)} {a : Nat × Nat} (hg : Gp 2 rs) (hs : Split rs (A ++ [a]) B d) (hc : covB B d = false) (hd : 1 ≤ d ∧ d ≤ 4096)
    (hl : a.2 + 1 = d) (hn : ∀ r ∈ B.head?, d + 1 ≠ r.1) : Gp 1 (A ++ (a.1, d) :: B) ∧ ∀ x, knB (A ++ (a.1, d) :: B) x = (knB rs x || decide (x = d)) := by
  obtain ⟨rfl, hA, hB⟩ := hs
  obtain ⟨gA, gB, gAB⟩ := gp_append.1 (gp_weak hg (show 1 ≤ 2 by omega))
  obtain ⟨gA0, ga, gA1⟩ := gp_append.1 gA
  have haa := ga.2 a (by simp)
  refine put_core (a.1, d) gA0 gB (by simp only; omega) ?_ ?_ ?_
  · intro r hr; exact gA1 r hr a (by simp)
  · intro r hr
    cases B with
    | nil => cases hr
    | cons b B =>
      have hb := hn b (by simp)
      have hcd : ¬ b.1 ≤ d := by simpa [covB] using hc
      obtain ⟨b1, b2, b3⟩ := gp_cons.1 gB
      rcases List.mem_cons.1 hr with rfl | h
      · simp only; omega
      · have := b2 r h; simp only; omega
  · intro x
    rw [knB_append, knB_append, knB_cons, knB_nil]
    have : (decide (a.1 ≤ x) && decide (x ≤ d)) = ((decide (a.1 ≤ x) && decide (x ≤ a.2)) || decide (x = d)) := by rw [Bool.eq_iff_iff]; simp; omega
    simp only [this]
    cases knB A x <;> cases knB B x <;> cases decide (x = d) <;> cases (decide (a.1 ≤ x) && decide (x ≤ a.2)) <;> rfl
theorem put_next {d : Nat} {rs A B : List (Nat × Nat)} {b : Nat × Nat} (hg : Gp 2 rs) (hs : Split rs A (b :: B) d) (hd : 1 ≤ d ∧ d ≤ 4096)
    (hl : ∀ r ∈ A.getLast?, r.2 + 1 ≠ d) (hn : d + 1 = b.1) : Gp 1 (A ++ (d, b.2) :: B) ∧ ∀ x, knB (A ++ (d, b.2) :: B) x = (knB rs x || decide (x = d)) := by
  obtain ⟨rfl, hA, hB⟩ := hs
  obtain ⟨gA, gB, gAB⟩ := gp_append.1 (gp_weak hg (show 1 ≤ 2 by omega))
  obtain ⟨b1, b2, b3⟩ := gp_cons.1 gB
  refine put_core (d, b.2) gA b3 (by simp only; omega) ?_ (fun r hr => b2 r hr) ?_
  · intro r hr
    rcases List.eq_nil_or_concat A with rfl | ⟨A0, a, rfl⟩
    · cases hr
    · have ha := hl a (by simp)
      have hd := hA a (by simp)
      rcases List.mem_append.1 (by simpa using hr : r ∈ A0 ++ [a]) with h | h
      · have := (gp_append.1 (by simpa using gA : Gp 1 (A0 ++ [a]))).2.2 r h a (by simp)
        have := gA.2 a (by simp)
        simp only; omega
      · have : r = a := by simpa using h
        subst this; simp only; omega
  · intro x
    rw [knB_append, knB_cons]
    have : (decide (d ≤ x) && decide (x ≤ b.2)) = ((decide (b.1 ≤ x) && decide (x ≤ b.2)) || decide (x = d)) := by rw [Bool.eq_iff_iff]; simp; omega
    simp only [this]
    cases knB A x <;> cases knB B x <;> cases decide (x = d) <;> cases (decide (b.1 ≤ x) && decide (x ≤ b.2)) <;> rfl
theorem put_both {d : Nat} {rs A B : List (Nat × Nat)} {a b : Nat × Nat} (hg : Gp 2 rs) (hs : Split rs (A ++ [a]) (b :: B) d) (hd : 1 ≤ d ∧ d ≤ 4096)
    (hl : a.2 + 1 = d) (hn : d + 1 = b.1) : Gp 1 (A ++ (a.1, b.2) :: B) ∧ ∀ x, knB (A ++ (a.1, b.2) :: B) x = (knB rs x || decide (x = d)) := by
  obtain ⟨rfl, hA, hB⟩ := hs
  obtain ⟨gA, gB, gAB⟩ := gp_append.1 (gp_weak hg (show 1 ≤ 2 by omega))
  obtain ⟨gA0, ga, gA1⟩ := gp_append.1 gA
  obtain ⟨b1, b2, b3⟩ := gp_cons.1 gB
  have haa := ga.2 a (by simp)
  refine put_core (a.1, b.2) gA0 b3 (by simp only; omega) (fun r hr => gA1 r hr a (by simp)) (fun r hr => b2 r hr) ?_
  intro x
  rw [knB_append, knB_append, knB_cons, knB_nil, knB_cons]
  have : (decide (a.1 ≤ x) && decide (x ≤ b.2)) = ((decide (a.1 ≤ x) && decide (x ≤ a.2)) || decide (x = d) || (decide (b.1 ≤ x) && decide (x ≤ b.2))) := by rw [Bool.eq_iff_iff]; simp; omega
  simp only [this]
  cases knB A x <;> cases knB B x <;> cases decide (x = d) <;> cases (decide (a.1 ≤ x) && decide (x ≤ a.2)) <;> cases (decide (b.1 ≤ x) && decide (x ≤ b.2)) <;> rfl
theorem skip_cut {lo d : Nat} {rs A B : List (Nat × Nat)} {b : Nat × Nat} (hg : Gp lo rs) (hs : Split rs A (b :: B) (d + 1)) (hc : b.1 ≤ d) (hd : 1 ≤ d) :
    Gp (d + 1) ((d + 1, b.2) :: B) ∧ ∀ x, 1 ≤ x → knB ((d + 1, b.2) :: B) (x + d) = knB rs (x + d) := by
  obtain ⟨rfl, hA, hB⟩ := hs
  obtain ⟨gA, gB, gAB⟩ := gp_append.1 hg
  obtain ⟨b1, b2, b3⟩ := gp_cons.1 gB
  have hb := hB b (by simp)
  refine ⟨gp_cons.2 ⟨by simp only; omega, b2, ⟨b3.1, fun s hs => by have := b2 s hs; have := b3.2 s hs; omega⟩⟩, fun x hx => ?_⟩
  have fA : knB A (x + d) = false := by
    cases e : knB A (x + d)
    · rfl
    · obtain ⟨r, hr, h1, h2⟩ := (knB_iff _ _).1 e
      have := hA r hr; omega
  rw [knB_append, fA, knB_cons, knB_cons, Bool.false_or]
  congr 1
  rw [Bool.eq_iff_iff]; simp; omega
theorem skip_plain {lo d : Nat} {rs A B : List (Nat × Nat)} (hg : Gp lo rs) (hs : Split rs A B (d + 1)) (hc : covB B d = false) :
    Gp (d + 1) B ∧ ∀ x, 1 ≤ x → knB B (x + d) = knB rs (x + d) := by
  obtain ⟨rfl, hA, hB⟩ := hs
  obtain ⟨gA, gB, gAB⟩ := gp_append.1 hg
  refine ⟨⟨gB.1, fun r hr => ?_⟩, fun x hx => ?_⟩
  · cases B with
    | nil => cases hr
    | cons b B =>
      have hcd : ¬ b.1 ≤ d := by simpa [covB] using hc
      obtain ⟨b1, b2, b3⟩ := gp_cons.1 gB
      rcases List.mem_cons.1 hr with rfl | h
      · omega
      · have := b2 r h; have := b3.2 r h; omega
  · have fA : knB A (x + d) = false := by
      cases e : knB A (x + d)
      · rfl
      · obtain ⟨r, hr, h1, h2⟩ := (knB_iff _ _).1 e
        have := hA r hr; omega
    rw [knB_append, fA, Bool.false_or]
end Go.Proofs.Ytioddokjogbmnaa.Span

namespace Go.Proofs.Ytioddokjogbmnaa.Ser
open Go.ChangeShapes Go.WideShapes Go.ChangeAt Go.RowKit
theorem ret_int {k : IntKind} {a b : Int} (h : a = b) : Ending.returned (.int k a) = .returned (.int k b) := by rw [h]
theorem ret_bool {a b : Bool} (h : a = b) : Ending.returned (.bool a) = .returned (.bool b) := by rw [h]
set_option maxHeartbeats 400000 in
theorem dist_any (a b : Int) (w : World) :
    Calls Try.prog 58 #[.int .u32 a, .int .u32 b] w fun e w' => e = .returned (.int .u32 (dist a b)) ∧ w = w' := by
  go_enter Try.func58, Try.ntmps58
  go_wp2_with fail
  go_ret
  exact ⟨rfl, rfl⟩
set_option maxHeartbeats 400000 in
theorem less_any (a b : Int) (w : World) :
    Calls Try.prog 54 #[.int .u32 a, .int .u32 b] w fun e w' => e = .returned (.bool (lessB a b)) ∧ w = w' := by
  have hb := dist_bd a b
  go_enter Try.func54, Try.ntmps54
  go_wp2_with (go_at_call 58; refine (dist_any _ _ _).mono ?_; rintro e w' ⟨rfl, rfl⟩)
  all_goals go_ret
  · exact ⟨ret_bool (lessB_mk0 (by omega)).symm, rfl⟩
  · exact ⟨ret_bool (by unfold lessB; rw [Bool.eq_iff_iff]; simp; omega), rfl⟩
set_option maxHeartbeats 400000 in
theorem in_any (x s t : Int) (w : World) :
    Calls Try.prog 87 #[.int .u32 x, .int .u32 s, .int .u32 t] w fun e w' => e = .returned (.bool (inB x s t)) ∧ w = w' := by
  go_enter Try.func87, Try.ntmps87
  go_wp2_with (go_at_call 58; refine (dist_any _ _ _).mono ?_; rintro e w' ⟨rfl, rfl⟩)
  go_ret
  exact ⟨ret_bool rfl, rfl⟩
end Go.Proofs.Ytioddokjogbmnaa.Ser

set_option linter.unusedVariables false
set_option linter.unusedSimpArgs false
set_option maxRecDepth 100000
namespace Go.Proofs.Ytioddokjogbmnaa.Span
open Go.ChangeShapes Go.WideShapes Go.ChangeAt Go.RowKit Go.Proofs.Ytioddokjogbmnaa.Ser
/-- The cells of the rows of a set with this mark. -/
def flat (M : Int) : List (Nat × Nat) → List Value
  | [] => []
  | r :: rs => .int .u32 (adr M r.1) :: .int .u32 (adr M r.2) :: flat M rs
theorem flat_append (M : Int) : ∀ (a b : List (Nat × Nat)), flat M (a ++ b) = flat M a ++ flat M b
  | [], _ => rfl
  | r :: a, b => by simp [flat, flat_append M a b]
theorem flat_length (M : Int) : ∀ (a : List (Nat × Nat)), (flat M a).length = 2 * a.length
  | [] => rfl
  | r :: a => by simp [flat, flat_length M a]; omega
theorem flat_shl (M : Int) (k : Nat) : ∀ (a : List (Nat × Nat)), (∀ r ∈ a, k ≤ r.1 ∧ k ≤ r.2) → flat (adr M k) (shl k a) = flat M a
  | [], _ => rfl
  | r :: a, h => by
    have hr := h r (by simp)
    have := flat_shl M k a (fun s hs => h s (by simp [hs]))
    simp only [shl, List.map_cons, flat, adr_adr] at this ⊢
    rw [this, show k + (r.1 - k) = r.1 by omega, show k + (r.2 - k) = r.2 by omega]
theorem flat_get (M : Int) (rs : List (Nat × Nat)) (i : Nat) (h : i < rs.length) : (flat M rs)[2 * i]? = some (.int .u32 (adr M rs[i].1)) ∧ (flat M rs)[2 * i + 1]? = some (.int .u32 (adr M rs[i].2)) := by
  have e : rs = rs.take i ++ rs[i] :: rs.drop (i + 1) := by rw [List.getElem_cons_drop]; simp
  have hl : (flat M (rs.take i)).length = 2 * i := by rw [flat_length, List.length_take]; omega
  constructor
  · conv => lhs; rw [e, flat_append, List.getElem?_append_right (by omega), hl]
    simp [flat]
  · conv => lhs; rw [e, flat_append, List.getElem?_append_right (by omega), hl]
    simp [flat]
/-- The cells of a set's struct. -/
def Blk (w : World) (g : Nat) (t : TypeId) (cs : Array Value) : Prop := w.heap[g]? = some (.cells cs t (0, 0))
/-- A set behind the pointer to block p, from block B on: mark M, these rows, v its slice. -/
structure SetAt (w : World) (B p : Nat) (v : Value) (M : Int) (rs : List (Nat × Nat)) : Prop where
  hp : B ≤ p
  hM : 0 ≤ M ∧ M ≤ 4294967295
  blk : Blk w p 132 #[.int .u32 M, v]
  own : w.ownsRow B 134 2 v rs.length (flat M rs)
abbrev ptr (p : Nat) : Value := .pointer (some ⟨p, 0, none⟩)
theorem Blk.lt {w : World} {g : Nat} {t : TypeId} {cs : Array Value} (h : Blk w g t cs) : g < w.heap.size := by
  rcases Nat.lt_or_ge g w.heap.size with hlt | hge
  · exact hlt
  · unfold Blk at h; rw [Array.getElem?_eq_none hge] at h; cases h
theorem Blk.cell {w : World} {g : Nat} {t : TypeId} {cs : Array Value} (h : Blk w g t cs) (i : Nat) : w.cell? ⟨g, i, none⟩ = cs[i]? := cell_of_row w g i cs t (0, 0) h
theorem Blk.frozen {w : World} {g : Nat} {t : TypeId} {cs : Array Value} (h : Blk w g t cs) (i : Nat) : w.frozen? ⟨g, i, none⟩ = false := by
  unfold Blk at h
  simp [World.frozen?, h]
theorem Blk.below {B : Nat} {w w' : World} {g : Nat} {t : TypeId} {cs : Array Value} (h : Blk w g t cs) (hb : Below B w w') (hg : g < B) : Blk w' g t cs := (hb.block g hg).trans h
theorem SetAt.mark {w : World} {B p : Nat} {v : Value} {M : Int} {rs : List (Nat × Nat)} (h : SetAt w B p v M rs) : w.cell? ⟨p, 0, none⟩ = some (.int .u32 M) := h.blk.cell 0
theorem SetAt.rows {w : World} {B p : Nat} {v : Value} {M : Int} {rs : List (Nat × Nat)} (h : SetAt w B p v M rs) : w.cell? ⟨p, 1, none⟩ = some v := h.blk.cell 1
theorem mark_any {w : World} {B p : Nat} {v : Value} {M : Int} {rs : List (Nat × Nat)} (h : SetAt w B p v M rs) :
    Calls Try.prog 52 #[ptr p] w fun e w' => e = .returned (.int .u32 M) ∧ w = w' := by
  have h0 := h.mark
  clear h
  go_enter Try.func52, Try.ntmps52
  go_wp2
  go_ret
  exact ⟨rfl, rfl⟩
theorem new_any (M : Int) (hM : 0 ≤ M ∧ M ≤ 4294967295) (B : Nat) (w : World) (hB : B ≤ w.heap.size) :
    Calls Try.prog 49 #[.int .u32 M] w fun e w' => e = .returned (ptr w.heap.size) ∧ SetAt w' B w.heap.size (.slice none 0 0) M [] ∧ Below w.heap.size w w' := by
  go_enter Try.func49, Try.ntmps49
  go_wp2
  go_ret
  refine ⟨rfl, ⟨hB, hM, heap_alloc_new w _, World.ownsRow_nil _ _ _ _⟩, (Below.refl _ _).alloc (Nat.le_refl _) _⟩
end Go.Proofs.Ytioddokjogbmnaa.Span

set_option linter.unusedVariables false
set_option linter.unusedSimpArgs false
set_option maxRecDepth 100000
namespace Go.Proofs.Ytioddokjogbmnaa.Span
open Go.ChangeShapes Go.WideShapes Go.ChangeAt Go.RowKit Go.Proofs.Ytioddokjogbmnaa.Ser
theorem dist_at (M : Int) (x : Nat) (hM : 0 ≤ M ∧ M ≤ 4294967295) (hx : x < 4294967296) (w : World) :
    Calls Try.prog 58 #[.int .u32 M, .int .u32 (adr M x)] w fun e w' => e = .returned (.int .u32 (x : Int)) ∧ w' = w :=
  (dist_any _ _ w).mono fun e w' ⟨he, hw⟩ => ⟨by rw [he, dist_adr M x hM hx], hw.symm⟩
theorem SetAt.at_ {w : World} {B p : Nat} {v : Value} {M : Int} {rs : List (Nat × Nat)} (h : SetAt w B p v M rs) {k : Nat} (hk : k < rs.length) :
    ∃ g cap, v = .slice (some ⟨g, 0, none⟩) rs.length cap ∧ B ≤ g ∧ g < w.heap.size ∧ w.cell? ⟨g, k * 2, none⟩ = some (.int .u32 (adr M rs[k].1)) ∧ w.cell? ⟨g, k * 2 + 1, none⟩ = some (.int .u32 (adr M rs[k].2)) := by
  obtain ⟨g, cap, hv, hb, hg⟩ := h.own.form (by omega)
  have hc := h.own
  rw [hv] at hc
  have c0 := hc.cellAt (k * 2) (by omega)
  have c1 := hc.cellAt (k * 2 + 1) (by omega)
  have hf := flat_get M rs k hk
  rw [Nat.mul_comm] at hf
  exact ⟨g, cap, hv, hb, hg, c0.trans hf.1, c1.trans hf.2⟩
set_option maxHeartbeats 400000 in
theorem fc_any {w : World} {B p ps pt d : Nat} {v : Value} {M : Int} {rs : List (Nat × Nat)} {lo : Nat} (h : SetAt w B p v M rs) (hg : Gp lo rs) (hd : d < 4294967296) (k : Nat) (hk : k < rs.length)
    (hps : w.cell? ⟨ps, 0, none⟩ = some (ptr p)) (hpt : w.cell? ⟨pt, 0, none⟩ = some (.int .u32 (adr M d))) :
    Calls Try.prog 86 #[.int .i64 (k : Int), ptr ps, ptr pt] w fun e w' => e = .returned (.bool (decide (d ≤ rs[k].2))) ∧ ∃ n, w' = w.drewN n := by
  have hM := h.hM
  have h0 := h.mark
  have h1 := h.rows
  obtain ⟨g, cap, rfl, hb, hgl, c0, c1⟩ := h.at_ hk
  have hr := hg.2 _ (List.getElem_mem hk)
  obtain ⟨x, hx⟩ : ∃ x, x = rs[k].2 := ⟨_, rfl⟩
  rw [← hx] at c1 hr ⊢
  obtain ⟨n, hn⟩ : ∃ n, n = rs.length := ⟨_, rfl⟩
  rw [← hn] at h1 hk
  have hl := gp_len hg
  rw [← hn] at hl
  clear hx hn hg h c0 hb hgl
  go_enter Try.func86, Try.ntmps86
  go_wp2
  go_quiet ((go_at_call 58; exact Calls.quiet_of_same (dist_at M _ hM (by omega) _)))
  go_wp2
  go_ret
  exact ⟨rfl, _, rfl⟩
theorem SetAt.drewN {w : World} {B p : Nat} {v : Value} {M : Int} {rs : List (Nat × Nat)} (h : SetAt w B p v M rs) (n : Nat) : SetAt (w.drewN n) B p v M rs := ⟨h.hp, h.hM, h.blk, h.own⟩
/-- How far the search has come. -/
def Sought (rs : List (Nat × Nat)) (d a b : Nat) : Prop := a ≤ b ∧ b ≤ rs.length ∧ (∀ k (h : k < rs.length), k < a → rs[k].2 < d) ∧ ∀ k (h : k < rs.length), b ≤ k → d ≤ rs[k].2
theorem sought_no {lo : Nat} {rs : List (Nat × Nat)} {d a b h : Nat} (hg : Gp lo rs) (hs : Sought rs d a b) (h1 : a ≤ h) (h2 : h < b) (hl : h < rs.length) (hd : ¬ d ≤ rs[h].2) : Sought rs d (h + 1) b := by
  refine ⟨by omega, hs.2.1, fun k hk hkh => ?_, hs.2.2.2⟩
  rcases Nat.lt_or_ge k h with hlt | hge
  · have h3 := List.pairwise_iff_getElem.1 hg.1 k h hk hl hlt
    have h4 := hg.2 _ (List.getElem_mem hl)
    omega
  · obtain rfl : k = h := by omega
    omega
theorem sought_yes {lo : Nat} {rs : List (Nat × Nat)} {d a b h : Nat} (hg : Gp lo rs) (hs : Sought rs d a b) (h1 : a ≤ h) (h2 : h < b) (hl : h < rs.length) (hd : d ≤ rs[h].2) : Sought rs d a h := by
  refine ⟨by omega, by omega, hs.2.2.1, fun k hk hkh => ?_⟩
  rcases Nat.lt_or_ge h k with hlt | hge
  · have h3 := List.pairwise_iff_getElem.1 hg.1 h k hl hk hlt
    have h4 := hg.2 _ (List.getElem_mem hk)
    omega
  · obtain rfl : k = h := by omega
    omega
theorem sought_end {rs : List (Nat × Nat)} {d a : Nat} (hs : Sought rs d a a) : Split rs (rs.take a) (rs.drop a) d := by
  obtain ⟨_, h1, h2, h3⟩ := hs
  refine ⟨by simp, fun r hr => ?_, fun r hr => ?_⟩
  · obtain ⟨i, hi, rfl⟩ := List.getElem_of_mem hr
    simp only [List.length_take] at hi
    rw [List.getElem_take]
    exact h2 i (by omega) (by omega)
  · obtain ⟨i, hi, rfl⟩ := List.getElem_of_mem hr
    simp only [List.length_drop] at hi
    rw [List.getElem_drop]
    exact h3 _ (by omega) (by omega)
/-- What find's search leaves. -/
def Found (rs : List (Nat × Nat)) (d : Nat) (e : Ending) : Prop := ∃ A B, Split rs A B d ∧ e = .returned (.int .i64 (A.length : Int))
set_option maxHeartbeats 400000 in
theorem search_any {w : World} {B p ps pt d : Nat} {v : Value} {M : Int} {rs : List (Nat × Nat)} {lo : Nat} (h : SetAt w B p v M rs) (hg : Gp lo rs) (hd : d < 4294967296)
    (hps : w.cell? ⟨ps, 0, none⟩ = some (ptr p)) (hpt : w.cell? ⟨pt, 0, none⟩ = some (.int .u32 (adr M d))) :
    Calls Try.prog 85 #[.int .i64 rs.length, .func (.func 86) #[] #[ptr ps, ptr pt]] w fun e w' => Found rs d e ∧ ∃ n, w' = w.drewN n := by
  have hl := gp_len hg
  have start : Sought rs d 0 rs.length := ⟨Nat.zero_le _, Nat.le_refl _, fun k _ h => absurd h (Nat.not_lt_zero k), fun k h h' => by omega⟩
  have HS : Hid (SetAt w B p v M rs) := Lib.hid h
  have HG : Hid (Gp lo rs) := Lib.hid hg
  have H1 := Lib.hid hps
  have H2 := Lib.hid hpt
  have H3 := Lib.hid start
  clear h hg hps hpt start
  go_enter Try.func85, Try.ntmps85
  go_wp2
  go_loopw [5, 6] (fun i j wr => ∃ a b : Nat, Hid (Sought rs d a b) ∧ a ≤ b ∧ b ≤ 4097 ∧ i = .int .i64 a ∧ j = .int .i64 b ∧ ∃ q, wr = w.drewN q) (fun i j _ => ((intOf j).toNat - (intOf i).toNat))
  case atStart => exact ⟨0, rs.length, H3, Nat.zero_le _, hl, rfl, rfl, 0, rfl⟩
  case round =>
    obtain ⟨a, b, hs, hab, hb, rfl, rfl, q, rfl⟩ := hrel
    by_cases hlt : a < b
    · have hh : (a + b) / 2 < rs.length := by have := hs.out.2.1; omega
      have C := fc_any (HS.out.drewN q) HG.out hd ((a + b) / 2) hh H1.out H2.out
      rw [show (((a + b) / 2 : Nat) : Int) = ((a : Int) + (b : Int)) / 2 by omega] at C
      cases hq : decide (d ≤ rs[(a + b) / 2].2)
      · rw [hq] at C
        have HC := Lib.hid C
        have HQ := Lib.hid hq
        clear hq C
        go_wp2_with (go_at_call 86; refine (HC.out).mono ?_; rintro e w' ⟨rfl, q', rfl⟩)
        go_roundw
        case rel => exact ⟨(a + b) / 2 + 1, b, Lib.hid (sought_no HG.out hs.out (by omega) (by omega) hh (of_decide_eq_false HQ.out)), by omega, hb, by go_num, rfl, _, rfl⟩
        case measure => simp [intOf]; omega
      · rw [hq] at C
        have HC := Lib.hid C
        have HQ := Lib.hid hq
        clear hq C
        go_wp2_with (go_at_call 86; refine (HC.out).mono ?_; rintro e w' ⟨rfl, q', rfl⟩)
        go_roundw
        case rel => exact ⟨a, (a + b) / 2, Lib.hid (sought_yes HG.out hs.out (by omega) (by omega) hh (of_decide_eq_true HQ.out)), by omega, by omega, rfl, by go_num, _, rfl⟩
        case measure => simp [intOf]; omega
    · go_wp2
      go_ret
      obtain rfl : a = b := by omega
      refine ⟨⟨_, _, sought_end hs.out, ?_⟩, q, rfl⟩
      have := hs.out.2.1
      exact ret_int (by simp; omega)
theorem own_slice {w : World} {B : Nat} {e : TypeId} {size n : Nat} {v : Value} {xs : List Value} (h : w.ownsRow B e size v n xs) : ∃ a cap, v = .slice a n cap := by
  rcases h.2 with ⟨rfl, rfl⟩ | ⟨g, cap, cur, rfl, _⟩
  · exact ⟨_, _, rfl⟩
  · exact ⟨_, _, rfl⟩
theorem SetAt.below {w w' : World} {B p : Nat} {v : Value} {M : Int} {rs : List (Nat × Nat)} (h : SetAt w B p v M rs) (hb : Below w.heap.size w w') : SetAt w' B p v M rs :=
  ⟨h.hp, h.hM, h.blk.below hb h.blk.lt, h.own.kept (row := none) ⟨hb.os, hb.tape, hb.output, hb.size, fun k hk _ => hb.block k hk⟩ (by cases hv : v.ownBlock <;> simp)⟩
theorem below_drewN {B : Nat} {a w : World} (h : Below B a w) (n : Nat) : Below B a (w.drewN n) := ⟨h.os, h.tape, h.output, h.size, h.block⟩
set_option maxHeartbeats 400000 in
theorem find_any {w : World} {B p d : Nat} {v : Value} {M : Int} {rs : List (Nat × Nat)} {lo : Nat} (h : SetAt w B p v M rs) (hg : Gp lo rs) (hd : d < 4294967296) :
    Calls Try.prog 74 #[ptr p, .int .u32 (adr M d)] w fun e w' => Found rs d e ∧ Below w.heap.size w w' := by
  have h1 := h.rows
  have hpl := h.blk.lt
  have HB := Lib.hid (((Below.refl w.heap.size w).alloc (Nat.le_refl _) (.cells #[ptr p] 114)).alloc (by simp) (.cells #[.int .u32 (adr M d)] 33))
  have hc1 : ((w.alloc (.cells #[ptr p] 114)).alloc (.cells #[.int .u32 (adr M d)] 33)).cell? ⟨w.heap.size, 0, none⟩ = some (ptr p) := by go_simp
  have hc2 : ((w.alloc (.cells #[ptr p] 114)).alloc (.cells #[.int .u32 (adr M d)] 33)).cell? ⟨w.heap.size + 1, 0, none⟩ = some (.int .u32 (adr M d)) := by go_simp
  have C := search_any (h.below HB.out) hg hd hc1 hc2
  obtain ⟨a, cap, rfl⟩ := own_slice h.own
  have HC := Lib.hid C
  clear hc1 hc2 C h hg
  go_enter Try.func74, Try.ntmps74
  go_wp2_with (go_at_call 85; refine HC.out.mono ?_; rintro e w' ⟨⟨A, B, hs, rfl⟩, q, rfl⟩)
  go_ret
  exact ⟨⟨A, B, hs, rfl⟩, below_drewN HB.out q⟩
theorem in_at (M : Int) (d a b : Nat) (hab : a ≤ b) (hd : d ≤ b) (hb : b < 2147483648) (w : World) :
    Calls Try.prog 87 #[.int .u32 (adr M d), .int .u32 (adr M a), .int .u32 (adr M b)] w fun e w' => e = .returned (.bool (decide (a ≤ d))) ∧ w' = w :=
  (in_any _ _ _ w).mono fun e w' ⟨he, hw⟩ => ⟨by rw [he]; apply ret_bool; unfold inB dist adr; rw [Bool.eq_iff_iff]; simp; omega, hw.symm⟩
set_option maxHeartbeats 400000 in
theorem covers_any {w : World} {B p d d' : Nat} {v : Value} {M : Int} {rs X Y : List (Nat × Nat)} {lo : Nat} (h : SetAt w B p v M rs) (hg : Gp lo rs) (hs : Split rs X Y d') (hd : d ≤ d') :
    Calls Try.prog 75 #[ptr p, .int .i64 (X.length : Int), .int .u32 (adr M d)] w fun e w' => e = .returned (.bool (covB Y d)) ∧ Below w.heap.size w w' := by
  have h1 := h.rows
  have hl := gp_len hg
  have el : rs.length = X.length + Y.length := by rw [hs.1, List.length_append]
  cases Y with
  | nil =>
    obtain ⟨a, cap, rfl⟩ := own_slice h.own
    have hc : decide (X.length < rs.length) = false := by simp [el]
    clear h hg hs el
    go_enter Try.func75, Try.ntmps75
    go_wp2
    go_quiet (fail)
    go_wp2
    go_ret
    exact ⟨rfl, below_drewN (Below.refl _ _) _⟩
  | cons y Y =>
    simp only [List.length_cons] at el
    have hk : X.length < rs.length := by omega
    have hgy : rs[X.length] = y := by have := hs.1; subst this; simp
    obtain ⟨g, cap, rfl, hb, hgl, c0, c1⟩ := h.at_ hk
    have hr := hg.2 _ (List.getElem_mem hk)
    rw [hgy] at c0 c1 hr
    have hy := hs.2.2 y (by simp)
    have hc : decide (X.length < rs.length) = true := by simp [el]
    have HC := Lib.hid (in_at M d y.1 y.2 (by omega) (by omega) (by omega))
    clear h hg hs hgy
    have HE := Lib.hid el
    clear el hb hgl
    go_enter Try.func75, Try.ntmps75
    go_wp2
    go_quiet ((go_at_call 87; exact Calls.quiet_of_same (HC.out _)))
    go_wp2
    go_ret
    exact ⟨rfl, below_drewN (Below.refl _ _) _⟩
set_option maxHeartbeats 400000 in
theorem ahead_any {w : World} {B p d : Nat} {v : Value} {M : Int} {rs : List (Nat × Nat)} {lo : Nat} (h : SetAt w B p v M rs) (hg : Gp lo rs) (hd : d < 4294967296) :
    Calls Try.prog 70 #[ptr p, .int .u32 (adr M d)] w fun e w' => e = .returned (.bool (knB rs d)) ∧ Below w.heap.size w w' := by
  have HS := Lib.hid h
  have HG := Lib.hid hg
  clear h hg
  go_enter Try.func70, Try.ntmps70
  go_wp2_with (first
    | (go_at_call 74; refine (find_any HS.out HG.out hd).mono ?_; rintro e w1 ⟨⟨X, Y, hs, rfl⟩, hb1⟩; have HX := Lib.hid hs; clear hs)
    | (go_at_call 75; refine (covers_any (HS.out.below hb1) HG.out HX.out (Nat.le_refl _)).mono ?_; rintro e w2 ⟨rfl, hb2⟩))
  go_ret
  exact ⟨ret_bool (cov_knB HG.out HX.out).symm, hb1.trans (hb2.mono hb1.size)⟩
/-- What Has answers of a number 'd' ahead of the mark. -/
def hasB (rs : List (Nat × Nat)) (d : Nat) : Bool := decide (d = 0 ∨ 2147483648 < d) || knB rs d
theorem less_to (M : Int) (d : Nat) (hM : 0 ≤ M ∧ M ≤ 4294967295) (hd : d < 4294967296) (w : World) :
    Calls Try.prog 54 #[.int .u32 (adr M d), .int .u32 M] w fun e w' => e = .returned (.bool (decide (2147483648 < d))) ∧ w = w' :=
  (less_any _ _ w).mono fun e w' ⟨he, hw⟩ => ⟨by rw [he]; apply ret_bool; unfold lessB dist adr; rw [Bool.eq_iff_iff]; simp; omega, hw⟩
theorem less_from (M : Int) (d : Nat) (hM : 0 ≤ M ∧ M ≤ 4294967295) (hd : d < 4294967296) (w : World) :
    Calls Try.prog 54 #[.int .u32 M, .int .u32 (adr M d)] w fun e w' => e = .returned (.bool (decide (1 ≤ d ∧ d < 2147483648))) ∧ w = w' :=
  (less_any _ _ w).mono fun e w' ⟨he, hw⟩ => ⟨by rw [he]; apply ret_bool; unfold lessB dist adr; rw [Bool.eq_iff_iff]; simp; omega, hw⟩
set_option maxHeartbeats 400000 in
theorem has_any {w : World} {B p d : Nat} {v : Value} {M : Int} {rs : List (Nat × Nat)} {lo : Nat} (h : SetAt w B p v M rs) (hg : Gp lo rs) (hd : d < 4294967296) :
    Calls Try.prog 83 #[ptr p, .int .u32 (adr M d)] w fun e w' => e = .returned (.bool (hasB rs d)) ∧ Below w.heap.size w w' := by
  have hM := h.hM
  have h0 := h.mark
  have HS := Lib.hid h
  have HG := Lib.hid hg
  clear h hg
  by_cases d0 : d = 0
  · have ea : (adr M d == M) = true := by subst d0; rw [adr_zero M hM]; simp
    have HE := Lib.hid d0
    clear d0
    go_enter Try.func83, Try.ntmps83
    go_wp2
    go_ret
    exact ⟨ret_bool (by unfold hasB; rw [HE.out]; rfl), Below.refl _ _⟩
  · have ea : (adr M d == M) = false := by
      rw [beq_eq_false_iff_ne]; unfold adr; omega
    cases hl : decide (2147483648 < d)
    · have C := less_to M d hM hd w
      rw [hl] at C
      have HC := Lib.hid C
      have HL := Lib.hid hl
      have HD := Lib.hid d0
      clear C hl d0
      go_enter Try.func83, Try.ntmps83
      go_wp2_with (first
        | (go_at_call 54; refine HC.out.mono ?_; rintro e w1 ⟨rfl, rfl⟩)
        | (go_at_call 70; refine (ahead_any HS.out HG.out hd).mono ?_; rintro e w2 ⟨rfl, hb2⟩))
      go_ret
      have hl := HL.out
      have hd := HD.out
      exact ⟨ret_bool (by unfold hasB; rw [show decide (d = 0 ∨ 2147483648 < d) = false by simpa [hd] using hl]; rfl), hb2⟩
    · have C := less_to M d hM hd w
      rw [hl] at C
      have HC := Lib.hid C
      have HL := Lib.hid hl
      clear C hl d0
      go_enter Try.func83, Try.ntmps83
      go_wp2_with (first
        | (go_at_call 54; refine HC.out.mono ?_; rintro e w1 ⟨rfl, rfl⟩))
      go_ret
      have hl := HL.out
      exact ⟨ret_bool (by unfold hasB; rw [show decide (d = 0 ∨ 2147483648 < d) = true by simp at hl ⊢; omega]; rfl), Below.refl _ _⟩
end Go.Proofs.Ytioddokjogbmnaa.Span

set_option linter.unusedVariables false
set_option linter.unusedSimpArgs false
set_option maxRecDepth 100000
namespace Go.Proofs.Ytioddokjogbmnaa.Span
open Go.ChangeShapes Go.WideShapes Go.ChangeAt Go.RowKit Go.Proofs.Ytioddokjogbmnaa.Ser
/-- append, its run known by an equation, as one step of a region that draws. -/
theorem step_append_run {P : Program} {ops : Array Oper} {o : Oper} {a : Act} {w : World} {K : Act → World → Prop} {Q : Exit → Act → World → Prop} {E : Prop}
    (hg : o.guard = none) (d x : Operand) (dT sT : TypeId) (hop : o.op = Op.call { callee := Callee.builtin Builtin.append, args := #[d, x], argTypes := #[dT, sT] })
    (v u : Value) (hd : a.eval d = v) (hx : a.eval x = u) {v' : Value} {w' : World} (hr : (Builtin.append_ #[dT, sT] o.type #[v, u]).run P w = .ok v' w') (hK : K (a.put o.dst v') w') :
    if Region.wanted o (yielded ops a.tmps) = true then Oper.wp P o a w K Q else E := by
  have hw : Region.wanted o (yielded ops a.tmps) = true := by simp [Region.wanted, hg]
  rw [if_pos hw]
  unfold Oper.wp
  simp [execOp, hop, resolve, invoke, builtin, hd, hx, hr, Result.andThen]
  exact hK
/-- Some cells laid over others from a place on. -/
def over (cur : Array Value) (o : Nat) (cs : List Value) : Array Value := (cur.toList.take o ++ cs ++ cur.toList.drop (o + cs.length)).toArray
theorem over_size (cur : Array Value) (o : Nat) (cs : List Value) (h : o + cs.length ≤ cur.size) : (over cur o cs).size = cur.size := by
  unfold over; simp; omega
theorem over_take (cur : Array Value) (o : Nat) (cs : List Value) (h : o + cs.length ≤ cur.size) : (over cur o cs).toList.take (o + cs.length) = cur.toList.take o ++ cs := by
  unfold over
  have hl : (cur.toList.take o ++ cs).length = o + cs.length := by simp; omega
  rw [← hl]
  exact List.take_left
theorem over_take_le (cur : Array Value) (o k : Nat) (cs : List Value) (h : o + cs.length ≤ cur.size) (hk : k ≤ o) : (over cur o cs).toList.take k = cur.toList.take k := by
  unfold over
  simp only [List.append_assoc]
  rw [List.take_append_of_le_length (by simp; omega), List.take_take, Nat.min_eq_left hk]
/-- clear at elements of some cells, over a block that is known whole. -/
theorem run_clear_row {P : Program} (w : World) (t e ty : TypeId) (z : Value) (ht : P.underlying t = some (.slice e)) (hv : ∀ w, (zeroValue e).run P w = .ok z w) (h1 : ∀ v ∈ z.cells, v.oneCell' = true) (hz0 : 0 < z.cells.size)
    (g o n c : Nat) (cur : Array Value) (T : TypeId) (hg : w.heap[g]? = some (.cells cur T (0, 0))) (hn : 0 < n) (hfit : o + n * z.cells.size ≤ cur.size) :
    (Builtin.clear_ #[t] ty #[.slice (some ⟨g, o, none⟩) n c]).run P w = .ok (.tuple #[]) (w.setRow g (over cur o (Builtin.zeroCells z.cells n).toList)) := by
  have hl : (Builtin.zeroCells z.cells n).toList.length = n * z.cells.size := by rw [Array.length_toList, size_zeroCells]
  have hst := run_storeCells_at P g o T (Builtin.zeroCells z.cells n).toList 0 cur w hg (by rw [hl]; omega) (by
    intro v hv'
    have : v ∈ Builtin.zeroCells z.cells n := by simpa using hv'
    unfold Builtin.zeroCells at this
    obtain ⟨i, hi, rfl⟩ := Array.mem_map.1 this
    have hlt : i % z.cells.size < z.cells.size := Nat.mod_lt _ hz0
    rw [getElem!_pos z.cells _ hlt]
    exact h1 _ (Array.getElem_mem hlt))
  simp only [Nat.add_zero] at hst
  obtain ⟨m, rfl⟩ : ∃ m, n = m + 1 := ⟨n - 1, by omega⟩
  simp [Builtin.clear_, run_underlying ht, hv, hst, over]
theorem row_info : (Try.prog.info? 134).map (fun i => (i.zero, i.size, i.bytes)) = some (some (.agg #[.int .u32 0, .int .u32 0]), 2, 8) := by kernel_rfl
theorem row_zero : ∀ w, (zeroValue 134).run Try.prog w = .ok (.agg #[.int .u32 0, .int .u32 0]) w := fun _ => by kernel_rfl
/-- What Delete leaves. -/
def Deleted (w : World) (B : Nat) (v : Value) (n : Nat) (xs : List Value) (e : Ending) (w' : World) : Prop :=
  ∃ v', e = .returned v' ∧ w'.ownsRow B 134 2 v' n xs ∧ w.grownBy w' v.ownBlock ∧ v'.ownBlock = v.ownBlock
set_option maxHeartbeats 1000000 in
theorem delete_core {w : World} {B n i j m : Nat} {v : Value} {xs ys : List Value} (own : w.ownsRow B 134 2 v n xs) (h1 : ∀ u ∈ xs, u.oneCell' = true) (hij : i ≤ j) (hj : j ≤ n) (hn : n ≤ 5000)
    (HM : Hid (m = n - (j - i) ∧ ys = xs.take (2 * i) ++ xs.drop (2 * j))) :
    Calls Try.prog 76 #[v, .int .i64 (i : Int), .int .i64 (j : Int)] w (Deleted w B v m ys) := by
  obtain ⟨i0, hi0, hz0, hz1, hz2⟩ := info_parts row_info
  rcases own.2 with ⟨rfl, rfl⟩ | ⟨g, cap, cur, rfl, hbg, hg, hnc, hcm, hcs, htake⟩
  · obtain rfl : i = 0 := by omega
    obtain rfl : j = 0 := by omega
    have H : Hid (Deleted w B (.slice none 0 0) m ys (.returned (.slice none 0 0)) w) := ⟨_, rfl, by rw [HM.out.1, HM.out.2]; simpa using own, World.grownBy.refl w _, rfl⟩
    clear own
    go_enter Try.func76, Try.ntmps76
    go_wp2
    go_ret
    exact H.out
  · by_cases heq : i = j
    · subst heq
      have H : Hid (Deleted w B (.slice (some ⟨g, 0, none⟩) n cap) m ys (.returned (.slice (some ⟨g, 0, none⟩) n cap)) w) := ⟨_, rfl, by rw [HM.out.1, HM.out.2]; simpa using own, World.grownBy.refl w _, rfl⟩
      clear own hg hcs htake
      unfold maxLen at hcm
      go_enter Try.func76, Try.ntmps76
      go_wp2
      all_goals (go_ret; first | exact H.out | (have e : n = i := (by omega); subst e; exact H.out))
    · have hlt : i < j := by omega
      have hxl := own.1
      have hic : i ≤ cap := by omega
      have hjc : j ≤ cap := by omega
      have hcn : ¬ cap = i + (n - j) := by omega
      have hcm' := hcm
      unfold maxLen at hcm
      obtain ⟨news, hnews⟩ : ∃ news, news = xs.drop (2 * j) := ⟨_, rfl⟩
      have hnl : news.length = (n - j) * 2 := by rw [hnews, List.length_drop, hxl]; omega
      have hcx : ∀ k, k < n * 2 → cur.toList[k]? = xs[k]? := fun k hk => by rw [← htake, List.getElem?_take, if_pos hk]
      obtain ⟨A, hA, hsrc⟩ : ∃ A : Addr, (if cap = j then (some (⟨g, 0, none⟩ : Addr)) else some ⟨g, j * 2, none⟩) = some A ∧ ∀ t u, news[t]? = some u → w.drew.cell? (A.add t) = some u := by
        by_cases h : cap = j
        · refine ⟨⟨g, 0, none⟩, by simp [h], fun t u hu => ?_⟩
          have h0 : news.length = 0 := by rw [hnl]; omega
          rw [List.length_eq_zero_iff.1 h0] at hu
          simp at hu
        · refine ⟨⟨g, j * 2, none⟩, by simp [h], fun t u hu => ?_⟩
          have ht : t < (n - j) * 2 := by
            have := (List.getElem?_eq_some_iff.1 hu).1
            rwa [hnl] at this
          rw [Addr.add_lit, cell_of_row w.drew g (j * 2 + t) cur _ (0, 0) hg, ← Array.getElem?_toList, hcx _ (by omega), ← hu, hnews, List.getElem?_drop, Nat.mul_comm]
      have hf1 : i * 2 + news.length ≤ cur.size := by rw [hnl, hcs]; omega
      have hr : ∀ ty, (Builtin.append_ #[130, 130] ty #[.slice (some ⟨g, 0, none⟩) i cap, .slice (some A) (n - j) (cap - j)]).run Try.prog w.drew = .ok (.slice (some ⟨g, 0, none⟩) (i + (n - j)) cap) (w.drew.setRow g (over cur (i * 2) news)) := fun ty => by
        have := run_append_room (P := Try.prog) w.drew 130 ty 134 i0 Try.underlying130 hi0 g i cap cur hg A (n - j) (cap - j) news (by rw [hz1]; exact hnl) hsrc (by rw [hnews]; exact fun u hu => h1 u (List.mem_of_mem_drop hu)) (by omega) (by rw [hz1]; exact hf1)
        rw [hz1] at this
        exact this
      obtain ⟨W1, hW1⟩ : ∃ W1, W1 = w.drew.setRow g (over cur (i * 2) news) := ⟨_, rfl⟩
      rw [← hW1] at hr
      have hg1 : W1.heap[g]? = some (.cells (over cur (i * 2) news) 134 (0, 0)) := by rw [hW1]; exact setRow_heap w.drew g cur _ _ _ hg
      have hs1 := over_size cur (i * 2) news hf1
      have hcl : ∀ ty c, (Builtin.clear_ #[130] ty #[.slice (some ⟨g, (i + (n - j)) * 2, none⟩) (n - (i + (n - j))) c]).run Try.prog W1 = .ok (.tuple #[]) (W1.setRow g (over (over cur (i * 2) news) ((i + (n - j)) * 2) (Builtin.zeroCells #[.int .u32 0, .int .u32 0] (n - (i + (n - j)))).toList)) := fun ty c =>
        run_clear_row W1 130 134 ty (.agg #[.int .u32 0, .int .u32 0]) Try.underlying130 row_zero (by simp [Value.cells, Value.oneCell']) (by simp [Value.cells]) g _ _ c _ _ hg1 (by omega) (by rw [hs1, hcs]; simp [Value.cells]; omega)
      obtain ⟨W2, hW2⟩ : ∃ W2, W2 = W1.setRow g (over (over cur (i * 2) news) ((i + (n - j)) * 2) (Builtin.zeroCells #[.int .u32 0, .int .u32 0] (n - (i + (n - j)))).toList) := ⟨_, rfl⟩
      rw [← hW2] at hcl
      have H : Hid (Deleted w B (.slice (some ⟨g, 0, none⟩) n cap) m ys (.returned (.slice (some ⟨g, 0, none⟩) (i + (n - j)) cap)) W2) := by
        have zl : (Builtin.zeroCells #[Value.int .u32 0, Value.int .u32 0] (n - (i + (n - j)))).toList.length = (n - (i + (n - j))) * 2 := by rw [Array.length_toList, size_zeroCells]; rfl
        have hf2 : (i + (n - j)) * 2 + (Builtin.zeroCells #[Value.int .u32 0, Value.int .u32 0] (n - (i + (n - j)))).toList.length ≤ (over cur (i * 2) news).size := by rw [zl, hs1, hcs]; omega
        refine ⟨_, rfl, ?_, ?_, rfl⟩
        · rw [HM.out.1, HM.out.2]
          have en : n - (j - i) = i + (n - j) := by omega
          rw [en]
          refine ⟨by rw [List.length_append, List.length_take, List.length_drop, hxl]; omega, .inr ⟨g, cap, _, rfl, hbg, by rw [hW2]; exact setRow_heap W1 g _ _ _ _ hg1, by omega, hcm', by rw [over_size _ _ _ hf2, hs1, hcs], ?_⟩⟩
          rw [over_take_le _ _ _ _ hf2 (Nat.le_refl _), show (i + (n - j)) * 2 = i * 2 + news.length by rw [hnl]; omega, over_take _ _ _ hf1, hnews, ← htake, List.take_take]
          congr 2
          omega
        · refine ⟨by rw [hW2, hW1]; rfl, by rw [hW2, hW1]; rfl, by rw [hW2, hW1]; rfl, by rw [hW2, hW1]; simp [World.setRow], fun k hk hne => ?_⟩
          have hkg : k ≠ g := fun e => hne (by simp [Value.ownBlock, e])
          rw [hW2, setRow_other _ _ _ _ hkg, hW1, setRow_other _ _ _ _ hkg]
          rfl
      have HR := Lib.hid hr
      clear own hg hcs htake hxl hnews hnl hcx hsrc hf1 hr hW1 hg1 hs1 hW2 hi0 hz0 hz1 hz2 hcm'
      have HA := Lib.hid hA
      go_enter Try.func76, Try.ntmps76
      go_wp2_with fail
      go_region_law (refine step_append_run rfl (.tmp 22) (.tmp 25) 130 130 rfl _ _ (by simp [Act.eval, Act.put]) (by simp [Act.eval, Act.put, hA]) (HR.out _) ?_)
      go_wp2
      go_ret
      exact H.out
end Go.Proofs.Ytioddokjogbmnaa.Span
