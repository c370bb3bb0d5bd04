/-
  Of the texts JoA: what the laws reach.
-/
import Derived.Test.YtioddokjogbmnaaP3
import Derived.Test.YtioddokjogbmnaaP8
import Derived.BigQuiet
import Derived.Test.YtioddokjogbmnaaP4
import Derived.Maps.OwnOps
import Derived.Maps.Views

set_option linter.unusedVariables false
set_option linter.unusedSimpArgs false
namespace Go.Proofs.Ytioddokjogbmnaa.Jo
structure Pc where
  bg : Bool
  en : Bool
  lo : Bool
  tsn : Nat
  st : Nat
  mid : Nat
  pp : Nat
  fr : Nat
  body : List UInt8
structure Ms where
  st : Nat
  lo : Bool
  mid : Nat
  pp : Nat
  body : List UInt8
def same (inter : Bool) (a b : Pc) : Prop := a.st = b.st ∧ a.lo = b.lo ∧ (a.mid = b.mid ∨ (inter = false ∧ a.lo = true))
/-- All the pieces of one message, in their order. -/
structure Whole (inter : Bool) (L : List Pc) : Prop where
  ne : 0 < L.length
  first : ∀ p, L[0]? = some p → p.bg = true
  later : ∀ k p q, L[k]? = some p → L[k + 1]? = some q → p.en = false ∧ q.bg = false ∧ (inter = true → q.fr = p.fr + 1) ∧ (inter = false → q.tsn = (p.tsn + 1) % 4294967296) ∧ same inter p q
  last : ∀ p, L[L.length - 1]? = some p → p.en = true
/-- What the pieces make. -/
def msgOf : List Pc → Ms
  | [] => ⟨0, false, 0, 0, []⟩
  | p :: r => ⟨p.st, p.lo, p.mid, p.pp, (p :: r).flatMap (·.body)⟩
/-- Messages that are sent one behind the other, in pieces with numbers one behind the other. -/
structure Sent (inter lo : Bool) (st0 N T : Nat) (k off : Nat → Nat) (P : Nat → Nat → Pc) : Prop where
  k1 : ∀ j, j < N → 1 ≤ k j
  off0 : off 0 = 0
  off1 : ∀ j, j < N → off (j + 1) = off j + k j
  small : off N ≤ 60000
  few : N ≤ 30000
  bg : ∀ j f, j < N → f < k j → (P j f).bg = decide (f = 0)
  en : ∀ j f, j < N → f < k j → (P j f).en = decide (f + 1 = k j)
  lo_ : ∀ j f, j < N → f < k j → (P j f).lo = lo
  st : ∀ j f, j < N → f < k j → (P j f).st = st0
  mid : ∀ j f, j < N → f < k j → (P j f).mid = j
  fr : ∀ j f, j < N → f < k j → inter = true → (P j f).fr = f
  tsn : ∀ j f, j < N → f < k j → inter = false → (P j f).tsn = (T + (off j + f)) % 4294967296
section
variable {inter lo : Bool} {st0 N T : Nat} {k off : Nat → Nat} {P : Nat → Nat → Pc}
theorem Sent.off_mono (h : Sent inter lo st0 N T k off P) : ∀ {i j : Nat}, i ≤ j → j ≤ N → off i ≤ off j
  | i, 0, hij, _ => by rw [show i = 0 by omega]; exact Nat.le_refl _
  | i, j + 1, hij, hj => by
    rcases Nat.lt_or_ge i (j + 1) with h1 | h1
    · have := h.off_mono (show i ≤ j by omega) (by omega)
      have := h.off1 j (by omega)
      omega
    · rw [show i = j + 1 by omega]; exact Nat.le_refl _
theorem Sent.off_lt (h : Sent inter lo st0 N T k off P) {j f : Nat} (hj : j < N) (hf : f < k j) : off j + f < 60000 := by
  have h1 := h.off1 j hj
  have h2 := h.off_mono (show j + 1 ≤ N by omega) (Nat.le_refl _)
  have h3 := h.small
  omega
/-- A piece's place says which piece it is. -/
theorem Sent.place (h : Sent inter lo st0 N T k off P) {j f j' f' : Nat} (hj : j < N) (hf : f < k j) (hj' : j' < N) (hf' : f' < k j') (e : off j + f = off j' + f') : j = j' ∧ f = f' := by
  rcases Nat.lt_trichotomy j j' with h1 | h1 | h1
  · have := h.off1 j hj
    have := h.off_mono (show j + 1 ≤ j' by omega) (by omega)
    omega
  · subst h1; omega
  · have := h.off1 j' hj'
    have := h.off_mono (show j' + 1 ≤ j by omega) (by omega)
    omega
theorem Sent.tsn_inj (h : Sent inter lo st0 N T k off P) {j f j' f' : Nat} (hj : j < N) (hf : f < k j) (hj' : j' < N) (hf' : f' < k j') (hI : inter = false) (e : (P j f).tsn = (P j' f').tsn) : j = j' ∧ f = f' := by
  rw [h.tsn j f hj hf hI, h.tsn j' f' hj' hf' hI] at e
  have := h.off_lt hj hf
  have := h.off_lt hj' hf'
  exact h.place hj hf hj' hf' (by omega)
/-- All pieces of one message. -/
def all (k : Nat → Nat) (P : Nat → Nat → Pc) (j : Nat) : List Pc := (List.range (k j)).map (P j)
theorem all_length (j : Nat) : (all k P j).length = k j := by unfold all; simp
theorem all_at {j i : Nat} (h : i < k j) : (all k P j)[i]? = some (P j i) := by unfold all; rw [List.getElem?_map, List.getElem?_range h]; rfl
theorem Sent.whole (h : Sent inter lo st0 N T k off P) {j : Nat} (hj : j < N) : Whole inter (all k P j) := by
  have hk := h.k1 j hj
  refine ⟨by rw [all_length]; exact hk, fun p hp => ?_, fun i p q hp hq => ?_, fun p hp => ?_⟩
  · rw [all_at hk] at hp
    injection hp with hp
    rw [← hp, h.bg j 0 hj hk]
    rfl
  · have hi : i + 1 < k j := by have := (List.getElem?_eq_some_iff.1 hq).1; rwa [all_length] at this
    rw [all_at (by omega)] at hp
    rw [all_at hi] at hq
    injection hp with hp
    injection hq with hq
    subst hp hq
    have hi' : i < k j := by omega
    refine ⟨by rw [h.en j i hj hi']; exact decide_eq_false (by omega), by rw [h.bg j _ hj hi]; exact decide_eq_false (by omega), fun hI => by rw [h.fr j _ hj hi hI, h.fr j _ hj hi' hI], fun hI => ?_, ?_⟩
    · rw [h.tsn j _ hj hi hI, h.tsn j _ hj hi' hI]
      omega
    · exact ⟨by rw [h.st j _ hj hi, h.st j _ hj hi'], by rw [h.lo_ j _ hj hi, h.lo_ j _ hj hi'], .inl (by rw [h.mid j _ hj hi, h.mid j _ hj hi'])⟩
  · rw [all_length, all_at (by omega)] at hp
    injection hp with hp
    rw [← hp, h.en j _ hj (by omega)]
    exact decide_eq_true (by omega)
/-- What is whole among pieces that were sent are all the pieces of one message. -/
theorem Sent.only (h : Sent inter lo st0 N T k off P) {L : List Pc} (hL : Whole inter L) (hs : ∀ p ∈ L, ∃ j f, j < N ∧ f < k j ∧ p = P j f) : ∃ j, j < N ∧ L = all k P j := by
  have hne := hL.ne
  obtain ⟨j, f, hj, hf, e0⟩ := hs L[0] (List.getElem_mem _)
  have hf0 : f = 0 := by
    have := hL.first _ (List.getElem?_eq_getElem hne)
    rw [e0, h.bg j f hj hf] at this
    exact of_decide_eq_true this
  subst hf0
  have key : ∀ i, i < L.length → i < k j ∧ L[i]? = some (P j i) := by
    intro i
    induction i with
    | zero => intro _; exact ⟨hf, by rw [List.getElem?_eq_getElem hne, e0]⟩
    | succ i ih =>
      intro hi
      obtain ⟨h1, h2⟩ := ih (by omega)
      have h3 := List.getElem?_eq_getElem hi
      obtain ⟨a1, a2, a3, a4, a5⟩ := hL.later i _ _ h2 h3
      obtain ⟨j', f', hj', hf', e'⟩ := hs L[i + 1] (List.getElem_mem _)
      rw [e'] at a2 a3 a4 a5
      have hen : i + 1 < k j := by
        rw [h.en j i hj h1] at a1
        have := of_decide_eq_false a1
        omega
      have hjf : j = j' ∧ i + 1 = f' := by
        cases hI : inter
        · have := a4 hI
          rw [h.tsn j' f' hj' hf' hI, h.tsn j i hj h1 hI] at this
          have := h.off_lt hj' hf'
          have := h.off_lt hj hen
          exact h.place hj hen hj' hf' (by omega)
        · have e1 := a3 hI
          rw [h.fr j' f' hj' hf' hI, h.fr j i hj h1 hI] at e1
          have e2 := a5.2.2
          rw [h.mid j i hj h1, h.mid j' f' hj' hf'] at e2
          rcases e2 with e2 | e2
          · exact ⟨e2, e1.symm⟩
          · rw [hI] at e2; cases e2.1
      obtain ⟨rfl, rfl⟩ := hjf
      exact ⟨hen, by rw [h3, e']⟩
  have hlen : L.length = k j := by
    obtain ⟨h1, h2⟩ := key (L.length - 1) (by omega)
    have h3 := hL.last _ h2
    rw [h.en j _ hj h1] at h3
    have := of_decide_eq_true h3
    omega
  refine ⟨j, hj, List.ext_getElem? fun i => ?_⟩
  by_cases hi : i < L.length
  · rw [(key i hi).2, all_at (by omega)]
  · rw [List.getElem?_eq_none (by omega), List.getElem?_eq_none (by rw [all_length]; omega)]
end
instance {inter : Bool} {a b : Pc} : Decidable (same inter a b) := by unfold same; infer_instance
structure JS where
  pcs : List Pc
  wait : List Ms
  ready : List Ms
  next : Nat → Nat
def modN (inter : Bool) : Nat := if inter = true then 4294967296 else 65536
def lessN (inter : Bool) (a b : Nat) : Prop := 0 < (b + modN inter - a) % modN inter ∧ (b + modN inter - a) % modN inter < modN inter / 2
theorem lessN_not {inter : Bool} {a b : Nat} (h : b ≤ a) (ha : a ≤ 30000) : ¬ lessN inter a b := by
  unfold lessN modN
  cases inter <;> simp <;> omega
def Refused (inter : Bool) (s : JS) (c : Pc) : Prop :=
  c.body = [] ∨ (c.lo = false ∧ (lessN inter c.mid (s.next c.st) ∨ ∃ m ∈ s.wait, m.st = c.st ∧ m.mid = c.mid)) ∨
  (inter = true ∧ (c.bg ≠ decide (c.fr = 0) ∨ 65535 < c.fr ∨ ∃ p ∈ s.pcs, same true p c ∧ p.fr = c.fr)) ∨ (inter = false ∧ ∃ p ∈ s.pcs, p.tsn = c.tsn)
/-- As long as the message with the next number waits, it becomes ready. -/
def Goes (inter : Bool) (st : Nat) (w w' rd rd' : List Ms) (nx nx' : Nat) : Prop :=
  ∃ ms : List Ms, rd' = rd ++ ms ∧ w.Perm (ms ++ w') ∧ (∀ i m, ms[i]? = some m → m.st = st ∧ m.mid = (nx + i) % modN inter) ∧ nx' = (nx + ms.length) % modN inter ∧ ∀ m ∈ w', ¬ (m.st = st ∧ m.mid = nx')
structure Alike (s s' : JS) : Prop where
  wait : s'.wait.Perm s.wait
  ready : s'.ready = s.ready
  next : s'.next = s.next
/-- What Put answers, and leaves. -/
def PutR (inter : Bool) (s : JS) (c : Pc) (r : Bool) (s' : JS) : Prop :=
  (Refused inter s c ∧ r = false ∧ s'.pcs.Perm s.pcs ∧ Alike s s') ∨
  (¬ Refused inter s c ∧ r = true ∧ (∀ L, Whole inter L → (∀ p ∈ L, p ∈ c :: s.pcs) → c ∈ L → False) ∧ s'.pcs.Perm (c :: s.pcs) ∧ Alike s s') ∨
  (¬ Refused inter s c ∧ r = true ∧ ∃ L rest, Whole inter L ∧ c ∈ L ∧ (c :: s.pcs).Perm (L ++ rest) ∧ s'.pcs.Perm (if inter = true then rest.filter (fun p => !decide (same true p c)) else rest) ∧
    ((c.lo = true ∧ s'.ready = s.ready ++ [msgOf L] ∧ s'.wait.Perm s.wait ∧ s'.next = s.next) ∨
     (c.lo = false ∧ Goes inter c.st (s.wait ++ [msgOf L]) s'.wait s.ready s'.ready (s.next c.st) (s'.next c.st) ∧ ∀ t, t ≠ c.st → s'.next t = s.next t)))
def Comp (k : Nat → Nat) (S : Nat → Nat → Bool) (j : Nat) : Prop := ∀ f, f < k j → S j f = true
def put1 (S : Nat → Nat → Bool) (j f : Nat) : Nat → Nat → Bool := fun a b => if a = j ∧ b = f then true else S a b
theorem put1_at (S : Nat → Nat → Bool) (j f : Nat) : put1 S j f j f = true := by simp [put1]
theorem put1_of {S : Nat → Nat → Bool} {j f a b : Nat} (h : S a b = true) : put1 S j f a b = true := by
  unfold put1
  split
  · rfl
  · exact h
theorem put1_inv {S : Nat → Nat → Bool} {j f a b : Nat} (h : put1 S j f a b = true) : (a = j ∧ b = f) ∨ S a b = true := by
  unfold put1 at h
  split at h
  · exact .inl (by assumption)
  · exact .inr h
theorem comp_mono {k : Nat → Nat} {S : Nat → Nat → Bool} {j f i : Nat} (h : Comp k S i) : Comp k (put1 S j f) i := fun b hb => put1_of (h b hb)
theorem comp_other {k : Nat → Nat} {S : Nat → Nat → Bool} {j f i : Nat} (h : Comp k (put1 S j f) i) (hi : i ≠ j) : Comp k S i := fun b hb => by
  rcases put1_inv (h b hb) with ⟨e, _⟩ | e
  · exact absurd e hi
  · exact e
/-- The pieces that wait for others. -/
structure Pcs (N : Nat) (k : Nat → Nat) (P : Nat → Nat → Pc) (S : Nat → Nat → Bool) (ps : List Pc) : Prop where
  mem : ∀ p, p ∈ ps ↔ ∃ j f, j < N ∧ f < k j ∧ S j f = true ∧ ¬ Comp k S j ∧ p = P j f
  nd : ps.Nodup
section
variable {inter lo : Bool} {st0 N T : Nat} {k off : Nat → Nat} {P : Nat → Nat → Pc} {S : Nat → Nat → Bool}
theorem Sent.inj (h : Sent inter lo st0 N T k off P) {j f j' f' : Nat} (hj : j < N) (hf : f < k j) (hj' : j' < N) (hf' : f' < k j') (e : P j f = P j' f') : j = j' ∧ f = f' := by
  cases hI : inter
  · exact h.tsn_inj hj hf hj' hf' hI (by rw [e])
  · exact ⟨by rw [← h.mid j f hj hf, ← h.mid j' f' hj' hf', e], by rw [← h.fr j f hj hf hI, ← h.fr j' f' hj' hf' hI, e]⟩
theorem Pcs.perm {ps ps' : List Pc} (h : Pcs N k P S ps) (e : ps'.Perm ps) : Pcs N k P S ps' := ⟨fun p => e.mem_iff.trans (h.mem p), e.nodup_iff.2 h.nd⟩
theorem Pcs.fresh (h : Sent inter lo st0 N T k off P) {ps : List Pc} (hp : Pcs N k P S ps) {j f : Nat} (hj : j < N) (hf : f < k j) (hS : S j f = false) : P j f ∉ ps := fun hm => by
  obtain ⟨j', f', h1, h2, h3, _, e⟩ := (hp.mem _).1 hm
  obtain ⟨rfl, rfl⟩ := h.inj hj hf h1 h2 e
  rw [hS] at h3; cases h3
/-- A piece comes that makes nothing whole. -/
theorem Pcs.more (h : Sent inter lo st0 N T k off P) {ps : List Pc} (hp : Pcs N k P S ps) {j f : Nat} (hj : j < N) (hf : f < k j) (hS : S j f = false) (hc : ¬ Comp k (put1 S j f) j) : Pcs N k P (put1 S j f) (P j f :: ps) := by
  refine ⟨fun p => ?_, List.nodup_cons.2 ⟨hp.fresh h hj hf hS, hp.nd⟩⟩
  rw [List.mem_cons, hp.mem]
  constructor
  · rintro (rfl | ⟨j', f', h1, h2, h3, h4, rfl⟩)
    · exact ⟨j, f, hj, hf, put1_at _ _ _, hc, rfl⟩
    · refine ⟨j', f', h1, h2, put1_of h3, fun h5 => ?_, rfl⟩
      by_cases e : j' = j
      · subst e; exact hc h5
      · exact h4 (comp_other h5 e)
  · rintro ⟨j', f', h1, h2, h3, h4, rfl⟩
    rcases put1_inv h3 with ⟨rfl, rfl⟩ | h3
    · exact .inl rfl
    · exact .inr ⟨j', f', h1, h2, h3, fun h5 => h4 (comp_mono h5), rfl⟩
/-- All that is whole with the piece that comes. -/
theorem Pcs.whole_of (h : Sent inter lo st0 N T k off P) {ps : List Pc} (hp : Pcs N k P S ps) {j f : Nat} (hj : j < N) (hf : f < k j) {L : List Pc} (hL : Whole inter L) (hs : ∀ p ∈ L, p ∈ P j f :: ps) (hc : P j f ∈ L) : L = all k P j ∧ Comp k (put1 S j f) j := by
  have hs' : ∀ p ∈ L, ∃ j' f', j' < N ∧ f' < k j' ∧ p = P j' f' := fun p hpL => by
    rcases List.mem_cons.1 (hs p hpL) with rfl | hm
    · exact ⟨j, f, hj, hf, rfl⟩
    · obtain ⟨j', f', h1, h2, _, _, e⟩ := (hp.mem _).1 hm
      exact ⟨j', f', h1, h2, e⟩
  obtain ⟨i, hi, rfl⟩ := h.only hL hs'
  have hij : i = j := by
    unfold all at hc
    obtain ⟨b, hb, e⟩ := List.mem_map.1 hc
    exact (h.inj hi (List.mem_range.1 hb) hj hf e).1
  subst hij
  refine ⟨rfl, fun b hb => ?_⟩
  rcases List.mem_cons.1 (hs (P i b) (List.mem_map.2 ⟨b, List.mem_range.2 hb, rfl⟩)) with e | hm
  · obtain ⟨_, rfl⟩ := h.inj hi hb hi hf e
    exact put1_at _ _ _
  · obtain ⟨j', f', h1, h2, h3, _, e⟩ := (hp.mem _).1 hm
    obtain ⟨rfl, rfl⟩ := h.inj hi hb h1 h2 e
    exact put1_of h3
/-- What is whole is there to be found. -/
theorem Pcs.found (h : Sent inter lo st0 N T k off P) {ps : List Pc} (hp : Pcs N k P S ps) {j f : Nat} (hj : j < N) (hf : f < k j) (hS : S j f = false) (hc : Comp k (put1 S j f) j) : Whole inter (all k P j) ∧ (∀ p ∈ all k P j, p ∈ P j f :: ps) ∧ P j f ∈ all k P j := by
  refine ⟨h.whole hj, fun p hpm => ?_, List.mem_map.2 ⟨f, List.mem_range.2 hf, rfl⟩⟩
  unfold all at hpm
  obtain ⟨b, hb, rfl⟩ := List.mem_map.1 hpm
  have hb := List.mem_range.1 hb
  rcases put1_inv (hc b hb) with ⟨_, rfl⟩ | h1
  · exact List.mem_cons_self
  · exact List.mem_cons_of_mem _ ((hp.mem _).2 ⟨j, b, hj, hb, h1, (fun h2 => by rw [h2 f hf] at hS; cases hS), rfl⟩)
/-- A piece comes that makes its message whole. -/
theorem Pcs.less_ (h : Sent inter lo st0 N T k off P) {ps rest ps' : List Pc} (hp : Pcs N k P S ps) {j f : Nat} (hj : j < N) (hf : f < k j) (hS : S j f = false) (hc : Comp k (put1 S j f) j) (e : (P j f :: ps).Perm (all k P j ++ rest))
    (e' : ps'.Perm (if inter = true then rest.filter (fun p => !decide (same true p (P j f))) else rest)) : Pcs N k P (put1 S j f) ps' := by
  have hnd : (all k P j ++ rest).Nodup := e.nodup_iff.1 (List.nodup_cons.2 ⟨hp.fresh h hj hf hS, hp.nd⟩)
  obtain ⟨_, hr, hdis⟩ := List.nodup_append.1 hnd
  have hrest : ∀ p, p ∈ rest ↔ ∃ j' f', j' < N ∧ f' < k j' ∧ put1 S j f j' f' = true ∧ ¬ Comp k (put1 S j f) j' ∧ p = P j' f' := fun p => by
    constructor
    · intro hm
      have h1 : p ∈ P j f :: ps := e.mem_iff.2 (List.mem_append_right _ hm)
      have h2 : p ∉ all k P j := fun hx => hdis p hx p hm rfl
      rcases List.mem_cons.1 h1 with rfl | h1
      · exact absurd (List.mem_map.2 ⟨f, List.mem_range.2 hf, rfl⟩) h2
      · obtain ⟨j', f', a1, a2, a3, a4, rfl⟩ := (hp.mem _).1 h1
        refine ⟨j', f', a1, a2, put1_of a3, fun h5 => ?_, rfl⟩
        by_cases ej : j' = j
        · subst ej; exact h2 (List.mem_map.2 ⟨f', List.mem_range.2 a2, rfl⟩)
        · exact a4 (comp_other h5 ej)
    · rintro ⟨j', f', a1, a2, a3, a4, rfl⟩
      have ej : j' ≠ j := fun ej => by subst ej; exact a4 hc
      have h3 : S j' f' = true := by
        rcases put1_inv a3 with ⟨x, _⟩ | x
        · exact absurd x ej
        · exact x
      have h1 : P j' f' ∈ P j f :: ps := List.mem_cons_of_mem _ ((hp.mem _).2 ⟨j', f', a1, a2, h3, fun h5 => a4 (comp_mono h5), rfl⟩)
      rcases List.mem_append.1 (e.mem_iff.1 h1) with h2 | h2
      · unfold all at h2
        obtain ⟨b, hb, eb⟩ := List.mem_map.1 h2
        exact absurd (h.inj hj (List.mem_range.1 hb) a1 a2 eb).1.symm ej
      · exact h2
  refine Pcs.perm ⟨fun p => ?_, ?_⟩ e'
  · cases inter
    · exact hrest p
    · rw [if_pos rfl, List.mem_filter, hrest]
      constructor
      · exact fun hx => hx.1
      · rintro ⟨j', f', a1, a2, a3, a4, rfl⟩
        refine ⟨⟨j', f', a1, a2, a3, a4, rfl⟩, ?_⟩
        simp only [Bool.not_eq_true', decide_eq_false_iff_not]
        intro hsame
        have ej : j' ≠ j := fun ej => by subst ej; exact a4 hc
        have := hsame.2.2
        rw [h.mid j' f' a1 a2, h.mid j f hj hf] at this
        rcases this with x | x
        · exact ej x
        · cases x.1
  · cases inter
    · exact hr
    · rw [if_pos rfl]; exact hr.filter _
/-- Of a piece that wasn't there nothing is refused. -/
theorem Sent.taken (h : Sent inter lo st0 N T k off P) {s : JS} (hp : Pcs N k P S s.pcs) {j f : Nat} (hj : j < N) (hf : f < k j) (hS : S j f = false) (hb : (P j f).body ≠ [])
    (ho : lo = false → ¬ lessN inter j (s.next st0) ∧ ∀ m ∈ s.wait, m.st = st0 → m.mid ≠ j) : ¬ Refused inter s (P j f) := by
  rintro (h1 | ⟨h0, h1⟩ | ⟨hI, h1⟩ | ⟨hI, p, hpm, h1⟩)
  · exact hb h1
  · rw [h.lo_ j f hj hf] at h0
    obtain ⟨h2, h3⟩ := ho h0
    rw [h.mid j f hj hf, h.st j f hj hf] at h1
    rcases h1 with h1 | ⟨m, hm, h4, h5⟩
    · exact h2 h1
    · exact h3 m hm h4 h5
  · rcases h1 with h1 | h1 | ⟨p, hpm, h1, h2⟩
    · rw [h.bg j f hj hf, h.fr j f hj hf hI] at h1
      exact h1 rfl
    · rw [h.fr j f hj hf hI] at h1
      have := h.off_lt hj hf
      omega
    · obtain ⟨j', f', a1, a2, a3, a4, rfl⟩ := (hp.mem _).1 hpm
      have hm := h1.2.2
      rw [h.mid j' f' a1 a2, h.mid j f hj hf] at hm
      rw [h.fr j' f' a1 a2 hI, h.fr j f hj hf hI] at h2
      rcases hm with hm | hm
      · subst hm h2
        rw [hS] at a3
        cases a3
      · cases hm.1
  · obtain ⟨j', f', a1, a2, a3, a4, rfl⟩ := (hp.mem _).1 hpm
    obtain ⟨rfl, rfl⟩ := h.tsn_inj a1 a2 hj hf hI h1
    rw [hS] at a3
    cases a3
/-- The message that all the pieces of j make. -/
def M (k : Nat → Nat) (P : Nat → Nat → Pc) (j : Nat) : Ms := msgOf (all k P j)
theorem Sent.msg (h : Sent inter lo st0 N T k off P) {j : Nat} (hj : j < N) : (M k P j).st = st0 ∧ (M k P j).mid = j ∧ (M k P j).lo = lo := by
  have hk := h.k1 j hj
  have h0 : (all k P j)[0]? = some (P j 0) := all_at hk
  unfold M
  cases hL : all k P j with
  | nil => rw [hL] at h0; simp at h0
  | cons p r =>
    rw [hL] at h0
    simp only [List.getElem?_cons_zero, Option.some.injEq] at h0
    subst h0
    exact ⟨h.st j 0 hj hk, h.mid j 0 hj hk, h.lo_ j 0 hj hk⟩
/-- Where a joiner stands: what has arrived (S), which messages were taken (tk) and have become ready (a). -/
structure Inv (inter : Bool) (st0 N : Nat) (k : Nat → Nat) (P : Nat → Nat → Pc) (S : Nat → Nat → Bool) (tk a : Nat) (s : JS) : Prop where
  led : ∀ j, j < a → Comp k S j
  le : a ≤ N
  gap : a < N → ¬ Comp k S a
  pcs : Pcs N k P S s.pcs
  wait : ∀ m, m ∈ s.wait ↔ ∃ j, a ≤ j ∧ j < N ∧ Comp k S j ∧ m = M k P j
  wnd : s.wait.Nodup
  tka : tk ≤ a
  ready : s.ready = (List.range' tk (a - tk)).map (M k P)
  next : s.next st0 = a
theorem Inv.put (h : Sent inter false st0 N T k off P) {tk a : Nat} {s s' : JS} {r : Bool} (hi : Inv inter st0 N k P S tk a s) {j f : Nat} (hj : j < N) (hf : f < k j) (hS : S j f = false) (hb : (P j f).body ≠ []) (hr : PutR inter s (P j f) r s') :
    r = true ∧ ∃ a', Inv inter st0 N k P (put1 S j f) tk a' s' := by
  have hfew := h.few
  have hjc : ¬ Comp k S j := fun hx => by rw [hx f hf] at hS; cases hS
  have haj : a ≤ j := by
    rcases Nat.lt_or_ge j a with h1 | h1
    · exact absurd (hi.led j h1) hjc
    · exact h1
  have hnr : ¬ Refused inter s (P j f) := h.taken hi.pcs hj hf hS hb (fun _ => ⟨by rw [hi.next]; exact lessN_not haj (by omega), fun m hm h1 h2 => by
    obtain ⟨i, h3, h4, h5, rfl⟩ := (hi.wait m).1 hm
    rw [(h.msg h4).2.1] at h2
    subst h2
    exact hjc h5⟩)
  rcases hr with ⟨h1, _⟩ | ⟨_, rfl, h1, h2, h3⟩ | ⟨_, rfl, L, rest, h1, h2, h3, h4, h5⟩
  · exact absurd h1 hnr
  · have hc : ¬ Comp k (put1 S j f) j := fun hc => by
      obtain ⟨a1, a2, a3⟩ := hi.pcs.found h hj hf hS hc
      exact h1 _ a1 a2 a3
    have hcc : ∀ i, Comp k (put1 S j f) i ↔ Comp k S i := fun i => ⟨fun hx => by
      by_cases e : i = j
      · subst e; exact absurd hx hc
      · exact comp_other hx e, comp_mono⟩
    refine ⟨rfl, a, fun i hi' => (hcc i).2 (hi.led i hi'), hi.le, fun hx hy => hi.gap hx ((hcc a).1 hy), (hi.pcs.more h hj hf hS hc).perm h2, fun m => ?_, h3.wait.nodup_iff.2 hi.wnd, hi.tka, by rw [h3.ready]; exact hi.ready, by rw [h3.next]; exact hi.next⟩
    rw [h3.wait.mem_iff, hi.wait]
    exact ⟨fun ⟨i, b1, b2, b3, b4⟩ => ⟨i, b1, b2, (hcc i).2 b3, b4⟩, fun ⟨i, b1, b2, b3, b4⟩ => ⟨i, b1, b2, (hcc i).1 b3, b4⟩⟩
  · obtain ⟨rfl, hc⟩ := hi.pcs.whole_of h hj hf h1 (fun p hp => h3.mem_iff.2 (List.mem_append_left _ hp)) h2
    have hlo := h.lo_ j f hj hf
    rcases h5 with ⟨h5, _⟩ | ⟨_, ⟨ms, g1, g2, g3, g4, g5⟩, _⟩
    · rw [hlo] at h5; cases h5
    rw [h.st j f hj hf, hi.next] at g3 g4
    rw [h.st j f hj hf] at g5
    -- what waits now
    have hw : ∀ m, m ∈ ms ++ s'.wait ↔ ∃ i, a ≤ i ∧ i < N ∧ Comp k (put1 S j f) i ∧ m = M k P i := fun m => by
      rw [← g2.mem_iff, List.mem_append, hi.wait, List.mem_singleton]
      constructor
      · rintro (⟨i, b1, b2, b3, b4⟩ | rfl)
        · exact ⟨i, b1, b2, comp_mono b3, b4⟩
        · exact ⟨j, haj, hj, hc, rfl⟩
      · rintro ⟨i, b1, b2, b3, b4⟩
        by_cases e : i = j
        · subst e; exact .inr b4
        · exact .inl ⟨i, b1, b2, comp_other b3 e, b4⟩
    have hnd : (ms ++ s'.wait).Nodup := g2.nodup_iff.1 (by
      rw [List.nodup_append]
      refine ⟨hi.wnd, (List.nodup_cons.2 ⟨by simp, List.nodup_nil⟩), fun x hx y hy e => ?_⟩
      simp only [List.mem_singleton] at hy
      subst hy e
      obtain ⟨i, b1, b2, b3, b4⟩ := (hi.wait _).1 hx
      have e1 := (h.msg hj).2.1
      have e2 : (M k P j).mid = i := by rw [show M k P j = M k P i from b4]; exact (h.msg b2).2.1
      have : i = j := by omega
      subst this
      exact hjc b3)
    have hmod : 60000 < modN inter := by unfold modN; split <;> omega
    -- each that goes is the next one
    have hgo : ∀ i, i < ms.length → a + i < N ∧ Comp k (put1 S j f) (a + i) ∧ ms[i]? = some (M k P (a + i)) := by
      intro i
      induction i with
      | zero =>
        intro hil
        have hx := List.getElem?_eq_getElem hil
        obtain ⟨c1, c2⟩ := g3 0 _ hx
        obtain ⟨i', b1, b2, b3, b4⟩ := (hw _).1 (List.mem_append_left _ (List.getElem_mem hil))
        rw [b4, (h.msg b2).2.1] at c2
        have : i' = a := by rw [Nat.add_zero, Nat.mod_eq_of_lt (by have := hi.le; omega)] at c2; omega
        subst this
        exact ⟨b2, b3, by rw [hx, b4]; rfl⟩
      | succ i ih =>
        intro hil
        obtain ⟨d1, _, _⟩ := ih (by omega)
        have hx := List.getElem?_eq_getElem hil
        obtain ⟨c1, c2⟩ := g3 (i + 1) _ hx
        obtain ⟨i', b1, b2, b3, b4⟩ := (hw _).1 (List.mem_append_left _ (List.getElem_mem hil))
        rw [b4, (h.msg b2).2.1] at c2
        have : i' = a + (i + 1) := by rw [Nat.mod_eq_of_lt (by omega)] at c2; omega
        subst this
        exact ⟨b2, b3, by rw [hx, b4]⟩
    have hlen : a + ms.length ≤ N := by
      rcases Nat.eq_zero_or_pos ms.length with e | e
      · rw [e]; exact hi.le
      · have := (hgo (ms.length - 1) (by omega)).1
        omega
    have hms : ms = (List.range' a ms.length).map (M k P) := by
      refine List.ext_getElem? fun i => ?_
      by_cases hil : i < ms.length
      · rw [(hgo i hil).2.2, List.getElem?_map, List.getElem?_range' (by omega)]
        simp
      · rw [List.getElem?_eq_none (by omega), List.getElem?_eq_none (by simp; omega)]
    have hnx : s'.next st0 = a + ms.length := by
      rw [g4, Nat.mod_eq_of_lt (by omega)]
    refine ⟨rfl, a + ms.length, fun i hia => ?_, hlen, fun hlt hx => ?_, hi.pcs.less_ h hj hf hS hc h3 h4, fun m => ?_, (List.nodup_append.1 hnd).2.1, by have := hi.tka; omega, ?_, hnx⟩
    · rcases Nat.lt_or_ge i a with e | e
      · exact comp_mono (hi.led i e)
      · have := (hgo (i - a) (by omega)).2.1
        rwa [show a + (i - a) = i by omega] at this
    · have hm := (hw (M k P (a + ms.length))).2 ⟨_, by omega, hlt, hx, rfl⟩
      obtain ⟨e1, e2, _⟩ := h.msg hlt
      rcases List.mem_append.1 hm with hm | hm
      · obtain ⟨i, hil, e⟩ := List.mem_iff_getElem.1 hm
        have h6 := (hgo i hil).2.2
        rw [List.getElem?_eq_getElem hil] at h6
        injection h6 with h6
        rw [e] at h6
        have h7 := (h.msg (hgo i hil).1).2.1
        rw [← h6, e2] at h7
        omega
      · exact g5 _ hm ⟨e1, by rw [e2, g4, Nat.mod_eq_of_lt (by omega)]⟩
    · constructor
      · intro hm
        obtain ⟨i, b1, b2, b3, rfl⟩ := (hw m).1 (List.mem_append_right _ hm)
        refine ⟨i, ?_, b2, b3, rfl⟩
        rcases Nat.lt_or_ge i (a + ms.length) with e | e
        · have h6 := (hgo (i - a) (by omega)).2.2
          rw [show a + (i - a) = i by omega] at h6
          exact absurd rfl ((List.nodup_append.1 hnd).2.2 _ (List.mem_of_getElem? h6) _ hm)
        · exact e
      · rintro ⟨i, b1, b2, b3, rfl⟩
        rcases List.mem_append.1 ((hw _).2 ⟨i, by omega, b2, b3, rfl⟩) with hm | hm
        · obtain ⟨q, hql, e⟩ := List.mem_iff_getElem.1 hm
          have h6 := (hgo q hql).2.2
          rw [List.getElem?_eq_getElem hql] at h6
          injection h6 with h6
          rw [e] at h6
          have h7 := (h.msg (hgo q hql).1).2.1
          rw [← h6, (h.msg b2).2.1] at h7
          omega
        · exact hm
    · rw [g1, hi.ready, hms]
      have htk := hi.tka
      rw [List.length_map, List.length_range', ← List.map_append]
      congr 1
      have e : List.range' tk (a + ms.length - tk) = List.range' tk (a - tk) ++ List.range' (tk + (a - tk)) ms.length := by
        rw [List.range'_append_1]
        congr 1
        omega
      rw [e, show tk + (a - tk) = a by omega]
/-- Unordered ones: a piece comes. -/
theorem Pcs.put (h : Sent inter true st0 N T k off P) {s s' : JS} {r : Bool} (hi : Pcs N k P S s.pcs) {j f : Nat} (hj : j < N) (hf : f < k j) (hS : S j f = false) (hb : (P j f).body ≠ []) (hr : PutR inter s (P j f) r s') :
    r = true ∧ Pcs N k P (put1 S j f) s'.pcs ∧ s'.wait.Perm s.wait ∧ s'.next = s.next ∧ ((¬ Comp k (put1 S j f) j ∧ s'.ready = s.ready) ∨ (Comp k (put1 S j f) j ∧ s'.ready = s.ready ++ [M k P j])) := by
  have hnr : ¬ Refused inter s (P j f) := h.taken hi hj hf hS hb (fun e => by cases e)
  rcases hr with ⟨h1, _⟩ | ⟨_, rfl, h1, h2, h3⟩ | ⟨_, rfl, L, rest, h1, h2, h3, h4, h5⟩
  · exact absurd h1 hnr
  · have hc : ¬ Comp k (put1 S j f) j := fun hc => by
      obtain ⟨a1, a2, a3⟩ := hi.found h hj hf hS hc
      exact h1 _ a1 a2 a3
    exact ⟨rfl, (hi.more h hj hf hS hc).perm h2, h3.wait, h3.next, .inl ⟨hc, h3.ready⟩⟩
  · obtain ⟨rfl, hc⟩ := hi.whole_of h hj hf h1 (fun p hp => h3.mem_iff.2 (List.mem_append_left _ hp)) h2
    rcases h5 with ⟨_, h5, h6, h7⟩ | ⟨h5, _⟩
    · exact ⟨rfl, hi.less_ h hj hf hS hc h3 h4, h6, h7, .inr ⟨hc, h5⟩⟩
    · rw [h.lo_ j f hj hf] at h5; cases h5
def sizeP (l : List Pc) : Nat := (l.map fun p => p.body.length).sum
def sizeM (l : List Ms) : Nat := (l.map fun p => p.body.length).sum
def held (s : JS) : Nat := sizeP s.pcs + sizeM s.wait + sizeM s.ready
theorem sum_perm {l l' : List Nat} (h : l.Perm l') : l.sum = l'.sum := by
  induction h with
  | nil => rfl
  | cons x _ ih => simp [ih]
  | swap x y l => simp; omega
  | trans _ _ h1 h2 => exact h1.trans h2
theorem sizeP_perm {l l' : List Pc} (h : l.Perm l') : sizeP l = sizeP l' := sum_perm (h.map _)
theorem sizeM_perm {l l' : List Ms} (h : l.Perm l') : sizeM l = sizeM l' := sum_perm (h.map _)
theorem sizeP_append (a b : List Pc) : sizeP (a ++ b) = sizeP a + sizeP b := by simp [sizeP]
theorem sizeM_append (a b : List Ms) : sizeM (a ++ b) = sizeM a + sizeM b := by simp [sizeM]
theorem msgOf_size (L : List Pc) : (msgOf L).body.length = sizeP L := by
  cases L with
  | nil => rfl
  | cons p r => simp [msgOf, sizeP, List.length_flatMap]
/-- What is put is held. -/
theorem Sent.held (h : Sent inter lo st0 N T k off P) {s s' : JS} {r : Bool} (hi : Pcs N k P S s.pcs) {j f : Nat} (hj : j < N) (hf : f < k j) (hS : S j f = false) (hr : PutR inter s (P j f) r s') (ht : r = true) :
    Jo.held s' = Jo.held s + (P j f).body.length := by
  have hcons : sizeP (P j f :: s.pcs) = (P j f).body.length + sizeP s.pcs := by simp [sizeP]
  unfold Jo.held
  rcases hr with ⟨_, h1, _⟩ | ⟨_, _, h1, h2, h3⟩ | ⟨_, _, L, rest, h1, h2, h3, h4, h5⟩
  · rw [ht] at h1; cases h1
  · rw [sizeP_perm h2, sizeM_perm h3.wait, h3.ready, hcons]
    omega
  · obtain ⟨rfl, hc⟩ := hi.whole_of h hj hf h1 (fun p hp => h3.mem_iff.2 (List.mem_append_left _ hp)) h2
    have hps : sizeP s'.pcs = sizeP rest := by
      rw [sizeP_perm h4]
      cases inter
      · rfl
      · rw [if_pos rfl, List.filter_eq_self.2]
        intro p hp
        have hnd : (all k P j ++ rest).Nodup := h3.nodup_iff.1 (List.nodup_cons.2 ⟨hi.fresh h hj hf hS, hi.nd⟩)
        have h6 : p ∈ P j f :: s.pcs := h3.mem_iff.2 (List.mem_append_right _ hp)
        have h7 : p ∉ all k P j := fun hx => (List.nodup_append.1 hnd).2.2 p hx p hp rfl
        rcases List.mem_cons.1 h6 with rfl | h6
        · exact absurd (List.mem_map.2 ⟨f, List.mem_range.2 hf, rfl⟩) h7
        · obtain ⟨j', f', a1, a2, a3, a4, rfl⟩ := (hi.mem _).1 h6
          simp only [Bool.not_eq_true', decide_eq_false_iff_not]
          intro hs
          have hm := hs.2.2
          rw [h.mid j' f' a1 a2, h.mid j f hj hf] at hm
          rcases hm with hm | hm
          · subst hm
            exact h7 (List.mem_map.2 ⟨f', List.mem_range.2 a2, rfl⟩)
          · cases hm.1
    have hall := sizeP_perm h3
    rw [hcons, sizeP_append] at hall
    have hmo := msgOf_size (all k P j)
    rcases h5 with ⟨_, h5, h6, _⟩ | ⟨_, ⟨ms, g1, g2, _⟩, _⟩
    · rw [hps, sizeM_perm h6, h5, sizeM_append]
      have : sizeM [msgOf (all k P j)] = (msgOf (all k P j)).body.length := by simp [sizeM]
      omega
    · have h7 := sizeM_perm g2
      rw [sizeM_append, sizeM_append] at h7
      have : sizeM [msgOf (all k P j)] = (msgOf (all k P j)).body.length := by simp [sizeM]
      rw [hps, g1, sizeM_append]
      omega
theorem Pcs.done {ps : List Pc} (hp : Pcs N k P S ps) (hS : ∀ j f, j < N → f < k j → S j f = true) : ps = [] := by
  cases ps with
  | nil => rfl
  | cons p r =>
    obtain ⟨j, f, h1, h2, _, h4, _⟩ := (hp.mem p).1 List.mem_cons_self
    exact absurd (fun b hb => hS j b h1 hb) h4
theorem Inv.done {tk a : Nat} {s : JS} (hi : Inv inter st0 N k P S tk a s) (hS : ∀ j f, j < N → f < k j → S j f = true) : a = N ∧ s.pcs = [] ∧ s.wait = [] ∧ s.ready = (List.range' tk (N - tk)).map (M k P) := by
  have ha : a = N := by
    rcases Nat.lt_or_ge a N with h1 | h1
    · exact absurd (fun b hb => hS a b h1 hb) (hi.gap h1)
    · have := hi.le; omega
  subst ha
  refine ⟨rfl, hi.pcs.done hS, ?_, hi.ready⟩
  cases hw : s.wait with
  | nil => rfl
  | cons m r =>
    have := (hi.wait m).1 (by rw [hw]; exact List.mem_cons_self)
    obtain ⟨j, h1, h2, _⟩ := this
    omega
/-- The first message that is ready is taken. -/
theorem Inv.take {tk a : Nat} {s s' : JS} (hi : Inv inter st0 N k P S tk a s) (ht : tk < a) (h1 : s'.pcs.Perm s.pcs) (h2 : s'.wait.Perm s.wait) (h3 : s'.next = s.next) (h4 : s'.ready = s.ready.drop 1) : Inv inter st0 N k P S (tk + 1) a s' ∧ s.ready[0]? = some (M k P tk) := by
  obtain ⟨q, hq⟩ : ∃ q, a - tk = q + 1 := ⟨a - tk - 1, by omega⟩
  have hr := hi.ready
  rw [hq, List.range'_succ, List.map_cons] at hr
  refine ⟨⟨hi.led, hi.le, hi.gap, hi.pcs.perm h1, fun m => h2.mem_iff.trans (hi.wait m), h2.nodup_iff.2 hi.wnd, by omega, ?_, by rw [h3]; exact hi.next⟩, by rw [hr]; rfl⟩
  rw [h4, hr, show a - (tk + 1) = q by omega]
  rfl
theorem Inv.empty {tk a : Nat} {s : JS} (hi : Inv inter st0 N k P S tk a s) (ht : tk = a) : s.ready = [] := by
  rw [hi.ready, ht, Nat.sub_self]; rfl
end
/-- Segments one behind the other. -/
theorem segs (l : List UInt8) (K : Nat) : ∀ q, ((List.range q).map fun f => (l.drop (f * K)).take K).flatten = l.take (q * K)
  | 0 => by simp
  | q + 1 => by
    rw [List.range_succ, List.map_append, List.flatten_append, segs l K q]
    simp only [List.map_cons, List.map_nil, List.flatten_cons, List.flatten_nil, List.append_nil]
    rw [Nat.add_mul, Nat.one_mul, List.take_add]
theorem M_body {k : Nat → Nat} {P : Nat → Nat → Pc} {B : Nat → List UInt8} {K j : Nat} (hP : ∀ f, f < k j → (P j f).body = ((B j).drop (f * K)).take K) (hk : 0 < k j) (hB : (B j).length ≤ k j * K) : (M k P j).body = B j := by
  have e : (M k P j).body = (all k P j).flatMap (·.body) := by
    unfold M
    cases hL : all k P j with
    | nil => have := all_length (k := k) (P := P) j; rw [hL] at this; simp at this; omega
    | cons p r => rfl
  rw [e, List.flatMap_def]
  have e2 : (all k P j).map (·.body) = (List.range (k j)).map fun f => ((B j).drop (f * K)).take K := by
    unfold all
    rw [List.map_map]
    refine List.map_congr_left fun f hf => ?_
    exact hP f (List.mem_range.1 hf)
  rw [e2, segs, List.take_of_length_le hB]
end Go.Proofs.Ytioddokjogbmnaa.Jo
namespace Go.Proofs.Ytioddokjogbmnaa.Jo
theorem lessN_of {inter : Bool} {a b : Nat} (h : a < b) (hb : b ≤ 30000) : lessN inter a b := by
  unfold lessN modN
  cases inter <;> simp <;> omega
section
variable {inter lo : Bool} {st0 N T : Nat} {k off : Nat → Nat} {P : Nat → Nat → Pc} {S : Nat → Nat → Bool}
/-- A piece of a message that was whole before is refused. -/
theorem Inv.again (h : Sent inter false st0 N T k off P) {tk a : Nat} {s s' : JS} {r : Bool} (hi : Inv inter st0 N k P S tk a s) {j f : Nat} (hj : j < N) (hf : f < k j) (hS : Comp k S j) (hr : PutR inter s (P j f) r s') :
    r = false ∧ Inv inter st0 N k P S tk a s' := by
  have hfew := h.few
  have hle := hi.le
  have href : Refused inter s (P j f) := by
    refine .inr (.inl ⟨h.lo_ j f hj hf, ?_⟩)
    rw [h.mid j f hj hf, h.st j f hj hf, hi.next]
    rcases Nat.lt_or_ge j a with h1 | h1
    · exact .inl (lessN_of h1 (by omega))
    · exact .inr ⟨_, (hi.wait _).2 ⟨j, h1, hj, hS, rfl⟩, (h.msg hj).1, (h.msg hj).2.1⟩
  rcases hr with ⟨_, h1, h2, h3⟩ | ⟨h1, _⟩ | ⟨h1, _⟩
  · exact ⟨h1, hi.led, hi.le, hi.gap, hi.pcs.perm h2, fun m => h3.wait.mem_iff.trans (hi.wait m), h3.wait.nodup_iff.2 hi.wnd, hi.tka, by rw [h3.ready]; exact hi.ready, by rw [h3.next]; exact hi.next⟩
  · exact absurd href h1
  · exact absurd href h1
/-- What goes of those that wait. -/
theorem Sent.goes (h : Sent inter lo st0 N T k off P) {C : Nat → Prop} {a nx' : Nat} (ha : a ≤ N) {w w' rd rd' : List Ms} (hw0 : ∀ m, m ∈ w ↔ ∃ i, a ≤ i ∧ i < N ∧ C i ∧ m = M k P i) (hnd0 : w.Nodup) (g : Goes inter st0 w w' rd rd' a nx') :
    ∃ q, a + q ≤ N ∧ nx' = a + q ∧ rd' = rd ++ (List.range' a q).map (M k P) ∧ (∀ i, a ≤ i → i < a + q → C i) ∧ (a + q < N → ¬ C (a + q)) ∧ ∀ m, m ∈ w' ↔ ∃ i, a + q ≤ i ∧ i < N ∧ C i ∧ m = M k P i := by
  have hfew := h.few
  obtain ⟨ms, g1, g2, g3, g4, g5⟩ := g
  have hw : ∀ m, m ∈ ms ++ w' ↔ ∃ i, a ≤ i ∧ i < N ∧ C i ∧ m = M k P i := fun m => by rw [← g2.mem_iff, hw0]
  have hnd : (ms ++ w').Nodup := g2.nodup_iff.1 hnd0
  have hmod : 60000 < modN inter := by unfold modN; split <;> omega
  have hgo : ∀ i, i < ms.length → a + i < N ∧ C (a + i) ∧ ms[i]? = some (M k P (a + i)) := by
    intro i
    induction i with
    | zero =>
      intro hil
      have hx := List.getElem?_eq_getElem hil
      obtain ⟨c1, c2⟩ := g3 0 _ hx
      obtain ⟨i', b1, b2, b3, b4⟩ := (hw _).1 (List.mem_append_left _ (List.getElem_mem hil))
      rw [b4, (h.msg b2).2.1] at c2
      have : i' = a := by rw [Nat.add_zero, Nat.mod_eq_of_lt (by omega)] at c2; omega
      subst this
      exact ⟨b2, b3, by rw [hx, b4]; rfl⟩
    | succ i ih =>
      intro hil
      obtain ⟨d1, _, _⟩ := ih (by omega)
      have hx := List.getElem?_eq_getElem hil
      obtain ⟨c1, c2⟩ := g3 (i + 1) _ hx
      obtain ⟨i', b1, b2, b3, b4⟩ := (hw _).1 (List.mem_append_left _ (List.getElem_mem hil))
      rw [b4, (h.msg b2).2.1] at c2
      have : i' = a + (i + 1) := by rw [Nat.mod_eq_of_lt (by omega)] at c2; omega
      subst this
      exact ⟨b2, b3, by rw [hx, b4]⟩
  have hlen : a + ms.length ≤ N := by
    rcases Nat.eq_zero_or_pos ms.length with e | e
    · rw [e]; exact ha
    · have := (hgo (ms.length - 1) (by omega)).1
      omega
  have hms : ms = (List.range' a ms.length).map (M k P) := by
    refine List.ext_getElem? fun i => ?_
    by_cases hil : i < ms.length
    · rw [(hgo i hil).2.2, List.getElem?_map, List.getElem?_range' (by omega)]
      simp
    · rw [List.getElem?_eq_none (by omega), List.getElem?_eq_none (by simp; omega)]
  have hin : ∀ i, a ≤ i → i < N → M k P i ∈ ms → i < a + ms.length := fun i h1 h2 hm => by
    obtain ⟨q, hql, e⟩ := List.mem_iff_getElem.1 hm
    have h6 := (hgo q hql).2.2
    rw [List.getElem?_eq_getElem hql] at h6
    injection h6 with h6
    rw [e] at h6
    have h7 := (h.msg (hgo q hql).1).2.1
    rw [← h6, (h.msg h2).2.1] at h7
    omega
  have hnx : nx' = a + ms.length := by rw [g4, Nat.mod_eq_of_lt (by omega)]
  refine ⟨ms.length, hlen, hnx, by rw [g1]; exact congrArg _ hms, fun i h1 h2 => ?_, fun hlt hx => ?_, fun m => ⟨fun hm => ?_, ?_⟩⟩
  · have := (hgo (i - a) (by omega)).2.1
    rwa [show a + (i - a) = i by omega] at this
  · have hm := (hw (M k P (a + ms.length))).2 ⟨_, by omega, hlt, hx, rfl⟩
    rcases List.mem_append.1 hm with hm | hm
    · have := hin _ (by omega) hlt hm
      omega
    · exact g5 _ hm ⟨(h.msg hlt).1, by rw [(h.msg hlt).2.1, hnx]⟩
  · obtain ⟨i, b1, b2, b3, rfl⟩ := (hw m).1 (List.mem_append_right _ hm)
    refine ⟨i, ?_, b2, b3, rfl⟩
    rcases Nat.lt_or_ge i (a + ms.length) with e | e
    · have h6 := (hgo (i - a) (by omega)).2.2
      rw [show a + (i - a) = i by omega] at h6
      exact absurd rfl ((List.nodup_append.1 hnd).2.2 _ (List.mem_of_getElem? h6) _ hm)
    · exact e
  · rintro ⟨i, b1, b2, b3, rfl⟩
    rcases List.mem_append.1 ((hw _).2 ⟨i, by omega, b2, b3, rfl⟩) with hm | hm
    · have := hin i (by omega) b2 hm
      omega
    · exact hm
end
def distN (inter : Bool) (n x : Nat) : Nat := (x + modN inter - n) % modN inter
/-- What Skip leaves. -/
def SkipR (inter : Bool) (s : JS) (st : Nat) (lo : Bool) (mid : Nat) (s' : JS) : Prop :=
  (∀ p ∈ s'.pcs, p ∈ s.pcs) ∧
  (((lo = true ∨ lessN inter mid (s.next st)) ∧ Alike s s') ∨
   (lo = false ∧ ¬ lessN inter mid (s.next st) ∧ ∃ ms w1, s.wait.Perm (ms ++ w1) ∧ (∀ m ∈ ms, m.st = st ∧ (m.mid = mid ∨ lessN inter m.mid mid)) ∧ (∀ m ∈ w1, ¬ (m.st = st ∧ (m.mid = mid ∨ lessN inter m.mid mid))) ∧
      ms.Pairwise (fun a b => distN inter (s.next st) a.mid < distN inter (s.next st) b.mid) ∧ Goes inter st w1 s'.wait (s.ready ++ ms) s'.ready ((mid + 1) % modN inter) (s'.next st)))
theorem sorted_eq (f : Ms → Nat) : ∀ (l1 l2 : List Ms), l1.Pairwise (fun a b => f a < f b) → l2.Pairwise (fun a b => f a < f b) → (∀ m, m ∈ l1 ↔ m ∈ l2) → l1 = l2
  | [], [], _, _, _ => rfl
  | [], b :: r, _, _, h => by have := (h b).2 List.mem_cons_self; simp at this
  | a :: r, [], _, _, h => by have := (h a).1 List.mem_cons_self; simp at this
  | a :: r, b :: q, h1, h2, h => by
    obtain ⟨a1, a2⟩ := List.pairwise_cons.1 h1
    obtain ⟨b1, b2⟩ := List.pairwise_cons.1 h2
    have hab : a = b := by
      rcases List.mem_cons.1 ((h a).1 List.mem_cons_self) with e | e
      · exact e
      · rcases List.mem_cons.1 ((h b).2 List.mem_cons_self) with e' | e'
        · exact e'.symm
        · have := b1 a e
          have := a1 b e'
          omega
    subst hab
    congr 1
    refine sorted_eq f r q a2 b2 fun m => ⟨fun hm => ?_, fun hm => ?_⟩
    · rcases List.mem_cons.1 ((h m).1 (List.mem_cons_of_mem _ hm)) with e | e
      · subst e
        have := a1 m hm
        omega
      · exact e
    · rcases List.mem_cons.1 ((h m).2 (List.mem_cons_of_mem _ hm)) with e | e
      · subst e
        have := b1 m hm
        omega
      · exact e
section
variable {inter : Bool} {st0 N T : Nat} {k off : Nat → Nat} {P : Nat → Nat → Pc} {S : Nat → Nat → Bool}
/-- The last one that will not come is skipped: all that have come come out. -/
theorem Inv.skip (h : Sent inter false st0 N T k off P) (h1 : ∀ j, j < N → k j = 1) {a last : Nat} {s s' : JS} (hi : Inv inter st0 N k P S 0 a s) (hl : last < N) (hm : S last 0 = false) (hall : ∀ j, last < j → j < N → S j 0 = true) (hr : SkipR inter s st0 false last s') :
    s'.pcs = [] ∧ s'.wait = [] ∧ s'.ready = ((List.range N).filter (fun j => S j 0)).map (M k P) := by
  have hfew := h.few
  have hC : ∀ j, j < N → (Comp k S j ↔ S j 0 = true) := fun j hj => ⟨fun hx => hx 0 (by rw [h1 j hj]; omega), fun hx f hf => by rw [h1 j hj] at hf; rw [show f = 0 by omega]; exact hx⟩
  have hpc : s.pcs = [] := by
    cases hp : s.pcs with
    | nil => rfl
    | cons p r =>
      obtain ⟨j, f, b1, b2, b3, b4, _⟩ := (hi.pcs.mem p).1 (by rw [hp]; exact List.mem_cons_self)
      rw [h1 j b1] at b2
      rw [show f = 0 by omega] at b3
      exact absurd ((hC j b1).2 b3) b4
  have hal : a ≤ last := by
    rcases Nat.lt_or_ge last a with e | e
    · have := (hC last hl).1 (hi.led last e)
      rw [hm] at this; cases this
    · exact e
  have hmod : 60000 < modN inter := by unfold modN; split <;> omega
  obtain ⟨hp', hr⟩ := hr
  have hpc' : s'.pcs = [] := by
    cases hp : s'.pcs with
    | nil => rfl
    | cons p r => have := hp' p (by rw [hp]; exact List.mem_cons_self); rw [hpc] at this; simp at this
  rcases hr with ⟨hr | hr, _⟩ | ⟨_, _, ms, w1, g1, g2, g3, g4, g5⟩
  · cases hr
  · rw [hi.next] at hr
    exact absurd hr (lessN_not hal (by omega))
  rw [hi.next] at g4
  have hwm : ∀ m, m ∈ ms ++ w1 ↔ ∃ j, a ≤ j ∧ j < N ∧ Comp k S j ∧ m = M k P j := fun m => by rw [← g1.mem_iff, hi.wait]
  have hnd : (ms ++ w1).Nodup := g1.nodup_iff.1 hi.wnd
  have hle : ∀ j, j < N → (((M k P j).st = st0 ∧ ((M k P j).mid = last ∨ lessN inter (M k P j).mid last)) ↔ j ≤ last) := fun j hj => by
    rw [(h.msg hj).1, (h.msg hj).2.1]
    constructor
    · rintro ⟨_, e | e⟩
      · omega
      · rcases Nat.lt_or_ge last j with x | x
        · exact absurd e (lessN_not (by omega) (by omega))
        · exact x
    · intro e
      refine ⟨rfl, ?_⟩
      rcases Nat.lt_or_ge j last with x | x
      · exact .inr (lessN_of x (by omega))
      · exact .inl (by omega)
  have hms : ∀ m, m ∈ ms ↔ ∃ j, a ≤ j ∧ j ≤ last ∧ S j 0 = true ∧ m = M k P j := fun m => by
    constructor
    · intro hx
      obtain ⟨j, b1, b2, b3, rfl⟩ := (hwm m).1 (List.mem_append_left _ hx)
      exact ⟨j, b1, (hle j b2).1 (g2 _ hx), (hC j b2).1 b3, rfl⟩
    · rintro ⟨j, b1, b2, b3, rfl⟩
      have hj : j < N := by omega
      rcases List.mem_append.1 ((hwm _).2 ⟨j, b1, hj, (hC j hj).2 b3, rfl⟩) with e | e
      · exact e
      · exact absurd ((hle j hj).2 b2) (g3 _ e)
  have hw1 : ∀ m, m ∈ w1 ↔ ∃ i, last + 1 ≤ i ∧ i < N ∧ True ∧ m = M k P i := fun m => by
    constructor
    · intro hx
      obtain ⟨j, b1, b2, b3, rfl⟩ := (hwm m).1 (List.mem_append_right _ hx)
      refine ⟨j, ?_, b2, trivial, rfl⟩
      rcases Nat.lt_or_ge last j with e | e
      · exact e
      · exact absurd ((hle j b2).2 e) (g3 _ hx)
    · rintro ⟨j, b1, b2, _, rfl⟩
      rcases List.mem_append.1 ((hwm _).2 ⟨j, by omega, b2, (hC j b2).2 (hall j (by omega) b2), rfl⟩) with e | e
      · have := (hle j b2).1 (g2 _ e)
        omega
      · exact e
  have hmsE : ms = ((List.range' a (last + 1 - a)).filter (fun j => S j 0)).map (M k P) := by
    refine sorted_eq (fun m => m.mid) _ _ ?_ ?_ fun m => ?_
    · refine g4.imp_of_mem fun {x y} hx hy hlt => ?_
      obtain ⟨i, b1, b2, _, rfl⟩ := (hms x).1 hx
      obtain ⟨j, c1, c2, _, rfl⟩ := (hms y).1 hy
      unfold distN at hlt
      rw [(h.msg (show i < N by omega)).2.1, (h.msg (show j < N by omega)).2.1] at hlt ⊢
      rw [show i + modN inter - a = (i - a) + modN inter by omega, show j + modN inter - a = (j - a) + modN inter by omega, Nat.add_mod_right, Nat.add_mod_right, Nat.mod_eq_of_lt (by omega), Nat.mod_eq_of_lt (by omega)] at hlt
      omega
    · rw [List.pairwise_map]
      refine ((List.pairwise_lt_range' 1 : (List.range' a (last + 1 - a)).Pairwise (· < ·)).filter _).imp_of_mem fun {x y} hx hy hlt => ?_
      have e1 := List.mem_range'_1.1 (List.mem_filter.1 hx).1
      have e2 := List.mem_range'_1.1 (List.mem_filter.1 hy).1
      rw [(h.msg (show x < N by omega)).2.1, (h.msg (show y < N by omega)).2.1]
      exact hlt
    · rw [hms, List.mem_map]
      constructor
      · rintro ⟨j, b1, b2, b3, rfl⟩
        exact ⟨j, List.mem_filter.2 ⟨List.mem_range'_1.2 (by omega), b3⟩, rfl⟩
      · rintro ⟨j, hj, rfl⟩
        obtain ⟨e1, e2⟩ := List.mem_filter.1 hj
        have e1 := List.mem_range'_1.1 e1
        exact ⟨j, e1.1, by omega, e2, rfl⟩
  rw [Nat.mod_eq_of_lt (by omega)] at g5
  obtain ⟨q, q1, _, q3, _, q5, q6⟩ := h.goes (C := fun _ => True) (show last + 1 ≤ N by omega) hw1 (List.nodup_append.1 hnd).2.1 g5
  have hq : last + 1 + q = N := by
    rcases Nat.lt_or_ge (last + 1 + q) N with e | e
    · exact absurd trivial (q5 e)
    · omega
  refine ⟨hpc', ?_, ?_⟩
  · cases hw : s'.wait with
    | nil => rfl
    | cons m r =>
      obtain ⟨i, b1, b2, _⟩ := (q6 m).1 (by rw [hw]; exact List.mem_cons_self)
      omega
  · have e0 : s.ready = ((List.range' 0 a).filter (fun j => S j 0)).map (M k P) := by
      rw [hi.ready, Nat.sub_zero, List.filter_eq_self.2]
      intro j hj
      have := List.mem_range'_1.1 hj
      exact (hC j (by omega)).1 (hi.led j (by omega))
    have e2 : (List.range' (last + 1) q).map (M k P) = ((List.range' (last + 1) q).filter (fun j => S j 0)).map (M k P) := by
      rw [List.filter_eq_self.2]
      intro j hj
      have := List.mem_range'_1.1 hj
      exact hall j (by omega) (by omega)
    rw [q3, hmsE, e0, e2, ← List.map_append, ← List.map_append, ← List.filter_append, ← List.filter_append]
    congr 2
    rw [List.range_eq_range', show N = a + (last + 1 - a) + q by omega]
    rw [← List.range'_append_1 (s := 0) (m := a + (last + 1 - a)), ← List.range'_append_1 (s := 0) (m := a)]
    rw [show 0 + a = a by omega, show 0 + (a + (last + 1 - a)) = last + 1 by omega]
end
/-- A message of one piece with the next number of its stream, where nothing else is held. -/
theorem PutR.one {inter r : Bool} {s s' : JS} {c : Pc} (h : PutR inter s c r s') (hp : s.pcs = []) (hw : s.wait = []) (hbg : c.bg = true) (hen : c.en = true) (hfr : inter = true → c.fr = 0) (hb : c.body ≠ []) (hlo : c.lo = false) (hm : c.mid = s.next c.st) (hs : c.mid ≤ 30000) :
    r = true ∧ s'.pcs = [] ∧ s'.wait = [] ∧ s'.ready = s.ready ++ [msgOf [c]] ∧ s'.next c.st = c.mid + 1 ∧ ∀ t, t ≠ c.st → s'.next t = s.next t := by
  have hmod : 60000 < modN inter := by unfold modN; split <;> omega
  have hnr : ¬ Refused inter s c := by
    rintro (h1 | ⟨_, h1 | ⟨m, h1, _⟩⟩ | ⟨hI, h1 | h1 | ⟨p, h1, _⟩⟩ | ⟨hI, p, h1, _⟩)
    · exact hb h1
    · rw [← hm] at h1
      exact lessN_not (Nat.le_refl _) hs h1
    · rw [hw] at h1; simp at h1
    · rw [hbg, hfr hI] at h1; exact h1 rfl
    · rw [hfr hI] at h1; omega
    · rw [hp] at h1; simp at h1
    · rw [hp] at h1; simp at h1
  have hone : Whole inter [c] := ⟨by simp, fun p e => by simp at e; rw [← e]; exact hbg, fun i p q _ e => by simp at e, fun p e => by simp at e; rw [← e]; exact hen⟩
  rcases h with ⟨h1, _⟩ | ⟨_, _, h1, _⟩ | ⟨_, rfl, L, rest, h1, h2, h3, h4, h5⟩
  · exact absurd h1 hnr
  · exact (h1 [c] hone (fun p hpm => by simp at hpm; rw [hpm]; exact List.mem_cons_self) (by simp)).elim
  · rw [hp] at h3
    have hlen := h3.length_eq
    rw [List.length_append, List.length_singleton] at hlen
    have hL : 0 < L.length := h1.ne
    have hr0 : rest = [] := List.eq_nil_of_length_eq_zero (by omega)
    subst hr0
    rw [List.append_nil] at h3
    have hLc : L = [c] := by
      have h6 := (h3.symm).eq_singleton
      exact h6
    subst hLc
    have hp' : s'.pcs = [] := by
      cases inter
      · exact h4.eq_nil
      · rw [if_pos rfl] at h4
        exact (by simpa using h4 : s'.pcs = [])
    rcases h5 with ⟨h5, _⟩ | ⟨_, ⟨ms, g1, g2, g3, g4, g5⟩, h6⟩
    · rw [hlo] at h5; cases h5
    rw [hw, List.nil_append] at g2
    have hl2 := g2.length_eq
    rw [List.length_append, List.length_singleton] at hl2
    have hmid : (msgOf [c]).mid = c.mid ∧ (msgOf [c]).st = c.st := ⟨rfl, rfl⟩
    rcases Nat.eq_zero_or_pos ms.length with e | e
    · have hms : ms = [] := List.eq_nil_of_length_eq_zero e
      subst hms
      have hx : msgOf [c] ∈ s'.wait := g2.mem_iff.1 (by simp)
      refine (g5 _ hx ⟨hmid.2, ?_⟩).elim
      rw [hmid.1, g4, List.length_nil, Nat.add_zero, ← hm, Nat.mod_eq_of_lt (by omega)]
    · have hw0 : s'.wait = [] := List.eq_nil_of_length_eq_zero (by omega)
      rw [hw0, List.append_nil] at g2
      have hms : ms = [msgOf [c]] := g2.symm.eq_singleton
      subst hms
      exact ⟨rfl, hp', hw0, g1, by rw [g4, List.length_singleton, ← hm, Nat.mod_eq_of_lt (by omega)], h6⟩
/-- What Reset leaves: of these streams, of all if there are none. -/
def ResetR (s : JS) (sts : List Nat) (s' : JS) : Prop :=
  (∀ p, p ∈ s'.pcs → p ∈ s.pcs) ∧ (∀ m, m ∈ s'.wait → m ∈ s.wait) ∧ s'.ready = s.ready ∧ ∀ t, s'.next t = if sts = [] ∨ t ∈ sts then 0 else s.next t
theorem sub_sum {α : Type} (g : α → Nat) : ∀ (l l' : List α), l.Nodup → (∀ x ∈ l, x ∈ l') → (l.map g).sum ≤ (l'.map g).sum
  | [], _, _, _ => by simp
  | a :: t, l', hn, h => by
    haveI : DecidableEq α := fun a b => Classical.propDecidable (a = b)
    obtain ⟨h1, h2⟩ := List.nodup_cons.1 hn
    have p := List.perm_cons_erase (h a List.mem_cons_self)
    have h3 := sub_sum g t (l'.erase a) h2 (fun x hx => (List.mem_erase_of_ne (fun e => h1 (by rw [← e]; exact hx))).2 (h x (List.mem_cons_of_mem _ hx)))
    have h4 := sum_perm (p.map g)
    rw [h4]
    simp only [List.map_cons, List.sum_cons]
    omega
theorem sum_le_mul {α : Type} (g : α → Nat) (c : Nat) : ∀ (l : List α), (∀ x ∈ l, g x ≤ c) → (l.map g).sum ≤ c * l.length
  | [], _ => by simp
  | a :: t, h => by
    have h1 := h a List.mem_cons_self
    have h2 := sum_le_mul g c t (fun x hx => h x (List.mem_cons_of_mem _ hx))
    simp only [List.map_cons, List.sum_cons, List.length_cons, Nat.mul_add, Nat.mul_one]
    omega
section
variable {inter lo : Bool} {st0 N T : Nat} {k off : Nat → Nat} {P : Nat → Nat → Pc} {S : Nat → Nat → Bool}
theorem Sent.total (h : Sent inter lo st0 N T k off P) (hz : ∀ j f, j < N → f < k j → (P j f).body.length ≤ 40) : ∀ n, n ≤ N → sizeP ((List.range n).flatMap (all k P)) ≤ 40 * off n
  | 0, _ => by simp [sizeP]
  | n + 1, hn => by
    have h1 := h.total hz n (by omega)
    rw [List.range_succ, List.flatMap_append, sizeP_append, h.off1 n (by omega), Nat.mul_add]
    have h2 : sizeP (List.flatMap (all k P) [n]) ≤ 40 * k n := by
      simp only [List.flatMap_cons, List.flatMap_nil, List.append_nil]
      unfold sizeP
      have h3 := sum_le_mul (fun p : Pc => p.body.length) 40 (all k P n) (fun p hp => by
        unfold all at hp
        obtain ⟨f, hf, rfl⟩ := List.mem_map.1 hp
        exact hz n f (by omega) (List.mem_range.1 hf))
      rwa [all_length] at h3
    omega
theorem Pcs.small (h : Sent inter lo st0 N T k off P) (hz : ∀ j f, j < N → f < k j → (P j f).body.length ≤ 40) {ps : List Pc} (hp : Pcs N k P S ps) : sizeP ps ≤ 2400000 := by
  have h1 := sub_sum (fun p : Pc => p.body.length) ps ((List.range N).flatMap (all k P)) hp.nd (fun p hpm => by
    obtain ⟨j, f, h1, h2, _, _, rfl⟩ := (hp.mem p).1 hpm
    exact List.mem_flatMap.2 ⟨j, List.mem_range.2 h1, List.mem_map.2 ⟨f, List.mem_range.2 h2, rfl⟩⟩)
  have h2 := h.total hz N (Nat.le_refl _)
  have h3 := h.small
  unfold sizeP at h2 ⊢
  omega
theorem sizeM_range (n : Nat) : ((List.range n).map fun j => (M k P j).body.length).sum = sizeP ((List.range n).flatMap (all k P)) := by
  induction n with
  | zero => rfl
  | succ n ih =>
    rw [List.range_succ, List.map_append, List.sum_append, ih, List.flatMap_append, sizeP_append]
    simp only [List.map_cons, List.map_nil, List.sum_cons, List.sum_nil, List.flatMap_cons, List.flatMap_nil, List.append_nil, Nat.add_zero]
    unfold M
    rw [msgOf_size]
theorem Inv.small (h : Sent inter lo st0 N T k off P) (hz : ∀ j f, j < N → f < k j → (P j f).body.length ≤ 40) {tk a : Nat} {s : JS} (hi : Inv inter st0 N k P S tk a s) : held s ≤ 7200000 := by
  have h1 := hi.pcs.small h hz
  have h2 := h.total hz N (Nat.le_refl _)
  have h3 := h.small
  have h4 := sizeM_range (k := k) (P := P) N
  have h5 : sizeM s.wait ≤ 2400000 := by
    have := sub_sum (fun m : Ms => m.body.length) s.wait ((List.range N).map (M k P)) hi.wnd (fun m hm => by
      obtain ⟨j, _, h6, _, rfl⟩ := (hi.wait m).1 hm
      exact List.mem_map.2 ⟨j, List.mem_range.2 h6, rfl⟩)
    rw [List.map_map] at this
    unfold sizeM
    have e : ((fun m : Ms => m.body.length) ∘ M k P) = fun j => (M k P j).body.length := rfl
    rw [e, h4] at this
    omega
  have h6 : sizeM s.ready ≤ 2400000 := by
    rw [hi.ready]
    unfold sizeM
    rw [List.map_map]
    have := sub_sum (fun j => (M k P j).body.length) (List.range' tk (a - tk)) (List.range N) List.nodup_range' (fun j hj => by
      rw [List.mem_range'_1] at hj
      have := hi.le
      exact List.mem_range.2 (by omega))
    rw [h4] at this
    have e : ((fun m : Ms => m.body.length) ∘ M k P) = fun j => (M k P j).body.length := rfl
    rw [e]
    omega
  unfold held
  omega
end
end Go.Proofs.Ytioddokjogbmnaa.Jo
namespace Go.Proofs.Ytioddokjogbmnaa.Chk
open Go.ChangeShapes Go.WideShapes Go.ChangeAt Go.RowKit Go.Deep Go.Proofs.Ytioddokjogbmnaa.Words Go.Proofs.Ytioddokjogbmnaa.Oct Go.Proofs.Ytioddokjogbmnaa.Par
/-- Bodies that are read. -/
def Bods (w : World) (B : Nat) (A : Option Addr) (Bs : List (List UInt8)) : Prop :=
  ∀ j b, Bs[j]? = some b → ∃ (ad : Addr) (Ab : Option Addr) (cb : Nat), A = some ad ∧ ad.block < B ∧ w.cell? (ad.add j) = some (.slice Ab b.length cb) ∧ b.length ≤ cb ∧ cb ≤ 9223372036854775807 ∧ Byt w B Ab b
theorem Bods.below {w w' : World} {B : Nat} {A : Option Addr} {Bs : List (List UInt8)} (h : Bods w B A Bs) (hb : Below B w w') : Bods w' B A Bs := fun j b hj => by
  obtain ⟨ad, Ab, cb, h1, h2, h3, h4, h5, h6⟩ := h j b hj
  exact ⟨ad, Ab, cb, h1, h2, (hb.cell (by rw [block_of_add]; exact h2)).trans h3, h4, h5, h6.below hb⟩
def sMsg (lo : Bool) (j : Nat) (b : List UInt8) : Msg := ⟨2, lo, j, j, b⟩
def tag (c : Ck) (i : Nat) : Ck := { c with tsn := (4294967290 + i) % 4294967296 }
def bodyAt (Bs : List (List UInt8)) (j : Nat) : List UInt8 := Bs.getD j []
/-- The pieces of the j-th message, behind q others. -/
def tagged (Bs : List (List UInt8)) (K : Nat) (inter lo : Bool) (j q n : Nat) : List Ck := (List.range n).map fun f => tag (pieceF (sMsg lo j (bodyAt Bs j)) K inter f) (q + f)
def sentN (Bs : List (List UInt8)) (K : Nat) (inter lo : Bool) : Nat → List Ck
  | 0 => []
  | j + 1 => sentN Bs K inter lo j ++ tagged Bs K inter lo j (sentN Bs K inter lo j).length (np (bodyAt Bs j).length K)
theorem tagged_length (Bs : List (List UInt8)) (K : Nat) (inter lo : Bool) (j q n : Nat) : (tagged Bs K inter lo j q n).length = n := by unfold tagged; simp
/-- Is the j-th message sent? -/
def Fine (Bs : List (List UInt8)) (j : Nat) : Prop := j < 10 ∧ j < Bs.length ∧ 0 < (bodyAt Bs j).length ∧ (bodyAt Bs j).length ≤ 300
theorem sentN_length {Bs : List (List UInt8)} {K : Nat} {inter lo : Bool} (hK : 1 ≤ K) : ∀ {j : Nat}, (∀ i, i < j → Fine Bs i) → (sentN Bs K inter lo j).length ≤ 300 * j
  | 0, _ => by simp [sentN]
  | j + 1, h => by
    have h1 := sentN_length (inter := inter) (lo := lo) hK (j := j) (fun i hi => h i (by omega))
    have h2 := (h j (by omega)).2.2.2
    have h3 := np_le (n := (bodyAt Bs j).length) hK
    unfold sentN
    rw [List.length_append, tagged_length]
    omega
/-- Chunks of a call's own, in block g: as long as others grow beside them. -/
structure Kept (w : World) (B g : Nat) (ls : List Ck) : Prop where
  lt : g < w.heap.size
  ge : B ≤ g
  at_ : ∀ k c, ls[k]? = some c → c.ok ∧ ∃ cs : Array Value, CkOwn w B cs c ∧ ∀ j u, cs[j]? = some u → w.cell? ⟨g, k * 19 + j, none⟩ = some u
theorem OwnCks.kept {w : World} {B n c : Nat} {A : Option Addr} {ls : List Ck} (h : OwnCks w B (.slice A n c) ls) (hn : 0 < ls.length) : ∃ g, A = some ⟨g, 0, none⟩ ∧ Kept w B g ls := by
  obtain ⟨xs, h1, h2⟩ := h
  obtain ⟨g, cap, hv, hg1, hg2⟩ := h1.form (by omega)
  injection hv with hv _ _
  subst hv
  refine ⟨g, rfl, hg2, hg1, fun k c hk => ?_⟩
  obtain ⟨h3, cs, h4, h5⟩ := h2 k c hk
  refine ⟨h3, cs, h5, fun j u hu => ?_⟩
  have h6 := h1.cells (g := g) rfl _ _ (h4 j u hu)
  have e : (⟨g, 0, none⟩ : Addr).add (k * 19 + j) = ⟨g, k * 19 + j, none⟩ := by
    by_cases h0 : k * 19 + j = 0
    · rw [h0]; rfl
    · unfold Addr.add; simp; omega
  rw [← e]
  exact h6
theorem Kept.below {w w' : World} {B g : Nat} {ls : List Ck} (h : Kept w B g ls) (hb : Below w.heap.size w w') : Kept w' B g ls :=
  ⟨Nat.lt_of_lt_of_le h.lt hb.size, h.ge, fun k c hk => by
    obtain ⟨h1, cs, h2, h3⟩ := h.at_ k c hk
    exact ⟨h1, cs, h2.grows hb, fun j u hu => (hb.cell (show (⟨g, k * 19 + j, none⟩ : Addr).block < w.heap.size from h.lt)).trans (h3 j u hu)⟩⟩
theorem Kept.beside {w w' : World} {B B' g n : Nat} {ls : List Ck} {v : Value} {xs : List Value} (h : Kept w B g ls) (hx : w.ownsRow B' 41 19 v n xs) (k : w.grownBy w' v.ownBlock) (hne : v.ownBlock ≠ some g) : Kept w' B g ls :=
  ⟨Nat.lt_of_lt_of_le h.lt k.size, h.ge, fun i c hi => by
    obtain ⟨h1, cs, h2, h3⟩ := h.at_ i c hi
    exact ⟨h1, cs, h2.beside hx k, fun j u hu => (World.cell?_of_block (k.block g h.lt (fun e => hne e.symm))).trans (h3 j u hu)⟩⟩
end Go.Proofs.Ytioddokjogbmnaa.Chk
namespace Go.Proofs.Ytioddokjogbmnaa.Chk
open Go.ChangeShapes Go.WideShapes Go.ChangeAt Go.RowKit Go.Deep Go.Proofs.Ytioddokjogbmnaa.Words Go.Proofs.Ytioddokjogbmnaa.Oct Go.Proofs.Ytioddokjogbmnaa.Par
/-- A chunk as a joiner sees it. -/
def pcOf (inter : Bool) (c : Ck) : Jo.Pc := ⟨c.bg, c.en, c.lo, c.tsn, c.st, if inter = true then c.mid else c.mid % 65536, c.pp, c.fr, c.body⟩
def kS (Bs : List (List UInt8)) (K : Nat) (j : Nat) : Nat := np (bodyAt Bs j).length K
def offS (Bs : List (List UInt8)) (K : Nat) (inter lo : Bool) (j : Nat) : Nat := (sentN Bs K inter lo j).length
def ckS (Bs : List (List UInt8)) (K : Nat) (inter lo : Bool) (j f : Nat) : Ck := tag (pieceF (sMsg lo j (bodyAt Bs j)) K inter f) (offS Bs K inter lo j + f)
def pS (Bs : List (List UInt8)) (K : Nat) (inter lo : Bool) (j f : Nat) : Jo.Pc := pcOf inter (ckS Bs K inter lo j f)
section
variable {Bs : List (List UInt8)} {K : Nat} {inter lo : Bool} {N : Nat}
theorem offS_succ (j : Nat) : offS Bs K inter lo (j + 1) = offS Bs K inter lo j + kS Bs K j := by
  unfold offS kS
  show (sentN Bs K inter lo j ++ _).length = _
  rw [List.length_append, tagged_length]
theorem fine_le (h : ∀ i, i < N → Fine Bs i) : N ≤ 10 := by
  rcases Nat.eq_zero_or_pos N with e | e
  · omega
  · have := (h (N - 1) (by omega)).1; omega
theorem sent_sent (hK : 1 ≤ K) (h : ∀ i, i < N → Fine Bs i) : Jo.Sent inter lo 2 N 4294967290 (kS Bs K) (offS Bs K inter lo) (pS Bs K inter lo) := by
  have hN := fine_le h
  refine ⟨fun j hj => ?_, rfl, fun j _ => offS_succ j, ?_, by omega, fun _ _ _ _ => rfl, fun j f hj hf => ?_, fun _ _ _ _ => rfl, fun _ _ _ _ => rfl, fun j f hj _ => ?_, fun j f _ _ hI => ?_, fun _ _ _ _ _ => rfl⟩
  · exact (np_lt hK).2 (by rw [Nat.zero_mul]; exact (h j hj).2.2.1)
  · have := sentN_length (inter := inter) (lo := lo) hK h
    show (sentN Bs K inter lo N).length ≤ _
    omega
  · show decide ((bodyAt Bs j).length ≤ (f + 1) * K) = decide (f + 1 = np (bodyAt Bs j).length K)
    apply Bool.eq_iff_iff.2
    simp only [decide_eq_true_eq]
    have h1 := not_congr (np_lt (n := (bodyAt Bs j).length) (i := f + 1) hK)
    have h2 : f < np (bodyAt Bs j).length K := hf
    omega
  · show (if inter = true then midF (sMsg lo j (bodyAt Bs j)) inter else midF (sMsg lo j (bodyAt Bs j)) inter % 65536) = j
    cases inter
    · show (j % 65536) % 65536 = j; omega
    · rfl
  · show (if inter = true then f else 0) = f
    rw [if_pos hI]
/-- Where a piece lies. -/
theorem sent_at : ∀ {N : Nat} {j f : Nat}, j < N → f < kS Bs K j → (sentN Bs K inter lo N)[offS Bs K inter lo j + f]? = some (ckS Bs K inter lo j f)
  | 0, j, f, hj, _ => by omega
  | N + 1, j, f, hj, hf => by
    show (sentN Bs K inter lo N ++ _)[_]? = _
    rcases Nat.lt_or_ge j N with e | e
    · have h1 := sent_at e hf
      have h2 := (List.getElem?_eq_some_iff.1 h1).1
      rw [List.getElem?_append_left h2]
      exact h1
    · have hjN : j = N := by omega
      subst hjN
      rw [List.getElem?_append_right (show (sentN Bs K inter lo j).length ≤ offS Bs K inter lo j + f from by show _ ≤ (sentN Bs K inter lo j).length + f; omega)]
      rw [show offS Bs K inter lo j + f - (sentN Bs K inter lo j).length = f by show (sentN Bs K inter lo j).length + f - _ = f; omega]
      unfold tagged
      have hf' : f < np (bodyAt Bs j).length K := hf
      rw [List.getElem?_map, List.getElem?_range hf']
      rfl
/-- The message that all pieces of j make. -/
theorem sent_msg (hK : 1 ≤ K) {j : Nat} (h : Fine Bs j) : (Jo.M (kS Bs K) (pS Bs K inter lo) j).body = bodyAt Bs j ∧ (Jo.M (kS Bs K) (pS Bs K inter lo) j).pp = j := by
  have hk : 0 < kS Bs K j := (np_lt hK).2 (by rw [Nat.zero_mul]; exact h.2.2.1)
  refine ⟨Jo.M_body (K := K) (B := bodyAt Bs) (fun f _ => rfl) hk ?_, ?_⟩
  · have h1 := not_congr (np_lt (n := (bodyAt Bs j).length) (i := kS Bs K j) hK)
    have : kS Bs K j = np (bodyAt Bs j).length K := rfl
    omega
  · unfold Jo.M
    have h0 : (Jo.all (kS Bs K) (pS Bs K inter lo) j)[0]? = some (pS Bs K inter lo j 0) := Jo.all_at hk
    cases hL : Jo.all (kS Bs K) (pS Bs K inter lo) j with
    | nil => rw [hL] at h0; simp at h0
    | cons p r =>
      rw [hL] at h0
      simp only [List.getElem?_cons_zero, Option.some.injEq] at h0
      subst h0
      rfl
end
end Go.Proofs.Ytioddokjogbmnaa.Chk
namespace Go.Proofs.Ytioddokjogbmnaa.Chk
open Go.ChangeShapes Go.WideShapes Go.ChangeAt Go.RowKit Go.Deep Go.Proofs.Ytioddokjogbmnaa.Words Go.Proofs.Ytioddokjogbmnaa.Oct Go.Proofs.Ytioddokjogbmnaa.Par
abbrev jptr (p : Nat) : Value := .pointer (some ⟨p, 0, none⟩)
def js0 : Jo.JS := ⟨[], [], [], fun _ => 0⟩
def msOf (m : Msg) : Jo.Ms := ⟨m.st, m.lo, m.mid, m.pp, m.body⟩
/-- What Take leaves. -/
def TakeJ (s : Jo.JS) (m : Msg) (t : Bool) (s' : Jo.JS) : Prop :=
  s'.pcs.Perm s.pcs ∧ s'.wait.Perm s.wait ∧ s'.next = s.next ∧ s'.ready = s.ready.drop 1 ∧ ((s.ready = [] ∧ t = false ∧ m = ⟨0, false, 0, 0, []⟩) ∨ (s.ready[0]? = some (msOf m) ∧ t = true))
structure JoinI (R : World → (Nat → Prop) → Nat → Bool → Jo.JS → Prop) : Prop where
  fr : ∀ {w w' : World} {G S : Nat → Prop} {p : Nat} {inter : Bool} {s : Jo.JS}, R w G p inter s → Fr S w w' → (∀ i, S i → i < w.heap.size → ¬ G i) → R w' G p inter s
  lt : ∀ {w : World} {G : Nat → Prop} {p : Nat} {inter : Bool} {s : Jo.JS}, R w G p inter s → ∀ i, G i → i < w.heap.size
  new : ∀ (w : World) (inter : Bool), Calls Try.prog 14 #[.bool inter] w fun e w' => ∃ G p, e = .returned (jptr p) ∧ R w' G p inter js0 ∧ (∀ i, G i → w.heap.size ≤ i) ∧ Hid (Below w.heap.size w w')
  put : ∀ {w : World} {G : Nat → Prop} {p : Nat} {inter : Bool} {s : Jo.JS} {cs : Array Value} {c : Ck}, R w G p inter s → c.kind = (if inter = true then 64 else 0) → Jo.held s + c.body.length ≤ 2000000000 → CkAt w w.heap.size cs c → (∀ (ad : Addr) (n cp : Nat), cs[18]? = some (.slice (some ad) n cp) → ¬ G ad.block) →
    Calls Try.prog 15 #[jptr p, .agg cs] w fun e w' => ∃ r s' G', e = .returned (.bool r) ∧ R w' G' p inter s' ∧ Jo.PutR inter s (pcOf inter c) r s' ∧ (∀ i, G' i → G i ∨ w.heap.size ≤ i) ∧ Fr G w w'
  take : ∀ {w : World} {G : Nat → Prop} {p : Nat} {inter : Bool} {s : Jo.JS}, R w G p inter s →
    Calls Try.prog 16 #[jptr p] w fun e w' => ∃ (m : Msg) (A : Option Addr) (n cp : Nat) (t : Bool) (s' : Jo.JS) (G' : Nat → Prop), e = .returned (.tuple #[.agg (mCells m (.slice A n cp)), .bool t]) ∧ R w' G' p inter s' ∧ TakeJ s m t s' ∧ n = m.body.length ∧ n ≤ cp ∧ cp ≤ 9223372036854775807 ∧ Byt w' w'.heap.size A m.body ∧ (∀ i, G' i → G i ∨ w.heap.size ≤ i) ∧ Fr G w w'
  held : ∀ {w : World} {G : Nat → Prop} {p : Nat} {inter : Bool} {s : Jo.JS}, R w G p inter s → Calls Try.prog 17 #[jptr p] w fun e w' => e = .returned (.int .i64 (Jo.held s : Int)) ∧ Below w.heap.size w w'
  skip : ∀ {w : World} {G : Nat → Prop} {p : Nat} {inter : Bool} {s : Jo.JS} {st mid : Nat} {lo : Bool}, R w G p inter s → st < 65536 → mid < 4294967296 →
    Calls Try.prog 18 #[jptr p, .agg #[.int .u16 (st : Int), .bool lo, .int .u32 (mid : Int)]] w fun e w' => ∃ s' G', e = .returned (.tuple #[]) ∧ R w' G' p inter s' ∧ Jo.SkipR inter s st lo (if inter = true then mid else mid % 65536) s' ∧ (∀ i, G' i → G i ∨ w.heap.size ≤ i) ∧ Fr G w w'
  reset : ∀ {w : World} {G : Nat → Prop} {p g : Nat} {inter : Bool} {s : Jo.JS} {st : Nat}, R w G p inter s → Blk w g 34 #[.int .u16 (st : Int)] → ¬ G g → st < 65536 →
    Calls Try.prog 19 #[jptr p, .slice (some ⟨g, 0, none⟩) 1 1] w fun e w' => ∃ s' G', e = .returned (.tuple #[]) ∧ R w' G' p inter s' ∧ Jo.ResetR s [st] s' ∧ (∀ i, G' i → G i ∨ w.heap.size ≤ i) ∧ Fr G w w'
/-- A joiner of the call's own beside what was there. -/
structure J1 (R : World → (Nat → Prop) → Nat → Bool → Jo.JS → Prop) (w V : World) (G : Nat → Prop) (p : Nat) (inter : Bool) (s : Jo.JS) : Prop where
  rep : R V G p inter s
  own : ∀ i, G i → w.heap.size ≤ i
  bel : Below w.heap.size w V
section
variable {R : World → (Nat → Prop) → Nat → Bool → Jo.JS → Prop} {w V V' : World} {G G' : Nat → Prop} {p : Nat} {inter : Bool} {s s' : Jo.JS}
theorem J1.step (h : J1 R w V G p inter s) (hr : R V' G' p inter s') (hg : ∀ i, G' i → G i ∨ V.heap.size ≤ i) (hf : Fr G V V') : J1 R w V' G' p inter s' :=
  ⟨hr, fun i hi => by
    rcases hg i hi with h1 | h1
    · exact h.own i h1
    · exact Nat.le_trans h.bel.size h1, below_fr h.bel hf (Nat.le_refl _) h.own⟩
theorem J1.grows (I : JoinI R) (h : J1 R w V G p inter s) (hb : Below V.heap.size V V') : J1 R w V' G p inter s :=
  ⟨I.fr h.rep (Fr.of_below hb) (fun i h1 h2 _ => by omega), h.own, h.bel.trans (hb.mono h.bel.size)⟩
end
end Go.Proofs.Ytioddokjogbmnaa.Chk
namespace Go.Proofs.Ytioddokjogbmnaa.Chk
open Go.ChangeShapes Go.WideShapes Go.ChangeAt Go.RowKit Go.Deep Go.Proofs.Ytioddokjogbmnaa.Words Go.Proofs.Ytioddokjogbmnaa.Oct Go.Proofs.Ytioddokjogbmnaa.Par
theorem sent_inv0 {inter : Bool} {st0 N T : Nat} {k off : Nat → Nat} {P : Nat → Nat → Jo.Pc} (h : Jo.Sent inter false st0 N T k off P) : Jo.Inv inter st0 N k P (fun _ _ => false) 0 0 js0 := by
  have hc : ∀ j, j < N → ¬ Jo.Comp k (fun _ _ => false) j := fun j hj hx => by have := hx 0 (h.k1 j hj); cases this
  refine ⟨fun j hj => by omega, Nat.zero_le _, fun hx => hc 0 hx, ⟨fun p => ⟨fun hx => by simp [js0] at hx, ?_⟩, List.nodup_nil⟩, fun m => ⟨fun hx => by simp [js0] at hx, ?_⟩, List.nodup_nil, Nat.le_refl _, rfl, rfl⟩
  · rintro ⟨j, f, _, _, h3, _⟩; cases h3
  · rintro ⟨j, _, h2, h3, _⟩; exact absurd h3 (hc j h2)
theorem ck_body {w : World} {B : Nat} {c : Ck} {A : Option Addr} {n cp : Nat} (ok : c.ok) (h1 : c.gaps = []) (h2 : c.dups = []) (h3 : c.skips = []) (h4 : c.ps = []) (hn : n = c.body.length) (hnc : n ≤ cp) (hc : cp ≤ 9223372036854775807) (hb : Byt w B A c.body) : CkAt w B (ckArr c nilV nilV nilV nilV (.slice A n cp)) c := by
  subst hn
  refine ⟨ok, ⟨none, 0⟩, ⟨none, 0⟩, ⟨none, 0⟩, ⟨none, 0⟩, ⟨A, cp⟩, ?_⟩
  rw [h1, h2, h3, h4]
  exact ⟨rfl, ⟨Nat.le_refl _, by simp⟩, ⟨Nat.le_refl _, by simp⟩, ⟨Nat.le_refl _, by simp⟩, ⟨Nat.le_refl _, by simp⟩, ⟨hnc, hc⟩, Reads.none_, Reads.none_, Reads.none_, Ps.nil _ _ _, hb⟩
def fA : Ck := { zeroC 64 with bg := true, st := 1, body := [97] }
def fB : Ck := { zeroC 64 with en := true, st := 1, fr := 1, body := [98] }
theorem small_ok {c : Ck} (h0 : c.kind < 256) (h1 : c.tsn < 65536) (h2 : c.st < 65536) (h3 : c.mid < 4294967296) (h4 : c.pp = 0) (h5 : c.fr < 65536) (h6 : c.tag = 0) (h7 : c.win = 0) (h8 : c.out = 0) (h9 : c.inn = 0) (ha : c.gaps = []) (hb : c.dups = []) (hc : c.skips = []) (hd : c.ps = []) : c.ok :=
  ⟨h0, by omega, h2, h3, by omega, by omega, by omega, by omega, by omega, by omega, fun _ h => by rw [ha] at h; simp at h, fun _ h => by rw [hb] at h; simp at h, fun _ h => by rw [hc] at h; simp at h, fun _ h => by rw [hd] at h; simp at h⟩
/-- A chunk of one byte, just built, is put. -/
theorem J1.put1 {R : World → (Nat → Prop) → Nat → Bool → Jo.JS → Prop} (I : JoinI R) {w V : World} {G : Nat → Prop} {p : Nat} {inter : Bool} {s : Jo.JS} (h : J1 R w V G p inter s) (c : Ck) (x : UInt8) (hk : c.kind = (if inter = true then 64 else 0)) (ok : c.ok) (h1 : c.gaps = []) (h2 : c.dups = []) (h3 : c.skips = []) (h4 : c.ps = []) (hb : c.body = [x]) (hB : Jo.held s ≤ 1000000000) (o : Obj) (ho : o = .cells #[.int .u8 (x.toNat : Int)] 5 (1, 2)) :
    Calls Try.prog 15 #[jptr p, .agg (ckArr c nilV nilV nilV nilV (.slice (some ⟨V.heap.size, 0, none⟩) 1 1))] (V.alloc o) fun e w' => ∃ r s' G', e = .returned (.bool r) ∧ Hid (J1 R w w' G' p inter s') ∧ Hid (Jo.PutR inter s (pcOf inter c) r s') := by
  have hb1 := (Below.refl V.heap.size V).alloc (Nat.le_refl _) o
  have h5 := h.grows I hb1
  have hy : Byt (V.alloc o) (V.alloc o).heap.size (some ⟨V.heap.size, 0, none⟩) c.body := by
    rw [hb, ho]
    exact byt_of_heap (heap_alloc_new V _) (by simp) rfl
  have hck : CkAt (V.alloc o) (V.alloc o).heap.size (ckArr c nilV nilV nilV nilV (.slice (some ⟨V.heap.size, 0, none⟩) 1 1)) c := ck_body ok h1 h2 h3 h4 (by rw [hb]; rfl) (by omega) (by omega) hy
  refine (I.put h5.rep hk (by rw [hb]; show _ + 1 ≤ _; omega) hck (fun ad n cp he hG => ?_)).mono ?_
  · have e : (some (Value.slice (some ⟨V.heap.size, 0, none⟩) 1 1) : Option Value) = some (.slice (some ad) n cp) := he
    injection e with e
    injection e with e _ _
    injection e with e
    subst e
    have := I.lt h.rep _ hG
    exact absurd this (Nat.lt_irrefl _)
  · rintro e w' ⟨r, s', G', rfl, hr, hp, hg, hf⟩
    exact ⟨r, s', G', rfl, h5.step hr hg hf, hp⟩
theorem J1.take {R : World → (Nat → Prop) → Nat → Bool → Jo.JS → Prop} (I : JoinI R) {w V : World} {G : Nat → Prop} {p : Nat} {inter : Bool} {s : Jo.JS} (h : J1 R w V G p inter s) :
    Calls Try.prog 16 #[jptr p] V fun e w' => ∃ (m : Msg) (A : Option Addr) (n cp : Nat) (t : Bool) (s' : Jo.JS) (G' : Nat → Prop), e = .returned (.tuple #[.agg (mCells m (.slice A n cp)), .bool t]) ∧ Hid (J1 R w w' G' p inter s') ∧ Hid (TakeJ s m t s') ∧ Hid (n = m.body.length) ∧ n ≤ cp ∧ cp ≤ 9223372036854775807 ∧ Hid (Byt w' w'.heap.size A m.body) :=
  (I.take h.rep).mono (by
    rintro e w' ⟨m, A, n, cp, t, s', G', rfl, hr, ht, h1, h2, h3, h4, hg, hf⟩
    exact ⟨m, A, n, cp, t, s', G', rfl, h.step hr hg hf, ht, h1, h2, h3, h4⟩)
theorem J1.held {R : World → (Nat → Prop) → Nat → Bool → Jo.JS → Prop} (I : JoinI R) {w V : World} {G : Nat → Prop} {p : Nat} {inter : Bool} {s : Jo.JS} (h : J1 R w V G p inter s) :
    Calls Try.prog 17 #[jptr p] V fun e w' => e = .returned (.int .i64 (Jo.held s : Int)) ∧ Hid (J1 R w w' G p inter s) :=
  (I.held h.rep).mono (by rintro e w' ⟨rfl, hb⟩; exact ⟨rfl, h.grows I hb⟩)
end Go.Proofs.Ytioddokjogbmnaa.Chk
namespace Go.Proofs.Ytioddokjogbmnaa.Chk
open Go.ChangeShapes Go.WideShapes Go.ChangeAt Go.RowKit Go.Deep Go.Proofs.Ytioddokjogbmnaa.Words Go.Proofs.Ytioddokjogbmnaa.Oct Go.Proofs.Ytioddokjogbmnaa.Par
theorem open_array3 {H : Type} {enc : TypeId × Value → H} {P : Program} {W : World} {base b0 : Nat} {sp : Nat → Bool} {held : Bool} {r : Reach} {t e : TypeId} {k : IntKind} {v : Value} {d : DataW H} {p : List MemPlace}
    (ht : P.underlying t = some (.array 3 e)) (hc : P.cellsOf t = 3) (he : P.underlying e = some (.int k)) (hce : P.cellsOf e = 1) (ho : Value.okWide P W r b0 t v) (h : DataW.Trod enc P W base sp held t v d p) :
    ∃ x0 x1 x2 : Int, v = .agg #[.int k x0, .int k x1, .int k x2] ∧ (Lit.int k x0).wf = true ∧ (Lit.int k x1).wf = true ∧ (Lit.int k x2).wf = true := by
  obtain ⟨xs, rfl, hs⟩ := okWide_array ht hc ho
  obtain ⟨ns, rfl, hl, hw⟩ := open_array ht he hce hs h
  match ns, hl, hw with
  | [x0, x1, x2], _, hw => exact ⟨x0, x1, x2, rfl, hw x0 (by simp), hw x1 (by simp), hw x2 (by simp)⟩
structure AnJ (R : World → (Nat → Prop) → Nat → Bool → Jo.JS → Prop) (w V : World) (G : Nat → Prop) (p : Nat) (inter : Bool) (nx : Nat → Nat) (rd : List Jo.Ms) : Prop where
  ex : ∃ s, J1 R w V G p inter s ∧ s.pcs = [] ∧ s.wait = [] ∧ s.ready = rd ∧ ∀ t, s.next t = nx t
section
variable {R : World → (Nat → Prop) → Nat → Bool → Jo.JS → Prop} {w V V' : World} {G : Nat → Prop} {p : Nat} {inter : Bool} {nx : Nat → Nat} {rd : List Jo.Ms}
theorem AnJ.bel (h : AnJ R w V G p inter nx rd) : Below w.heap.size w V := by obtain ⟨s, h1, _⟩ := h.ex; exact h1.bel
theorem AnJ.grows (I : JoinI R) (h : AnJ R w V G p inter nx rd) (hb : Below V.heap.size V V') : AnJ R w V' G p inter nx rd := by
  obtain ⟨s, h1, h2⟩ := h.ex
  exact ⟨s, h1.grows I hb, h2⟩
theorem AnJ.as_ {nx' : Nat → Nat} (h : AnJ R w V G p inter nx rd) (e : ∀ t, nx t = nx' t) : AnJ R w V G p inter nx' rd := by
  obtain ⟨s, h1, h2, h3, h4, h5⟩ := h.ex
  exact ⟨s, h1, h2, h3, h4, fun t => (h5 t).trans (e t)⟩
theorem AnJ.put (I : JoinI R) (h : AnJ R w V G p inter nx []) (c : Ck) (x : UInt8) (hk : c.kind = (if inter = true then 64 else 0)) (ok : c.ok) (h1 : c.gaps = []) (h2 : c.dups = []) (h3 : c.skips = []) (h4 : c.ps = []) (hb : c.body = [x]) (hbg : c.bg = true) (hen : c.en = true) (hlo : c.lo = false) (hfr : c.fr = 0)
    (hm : c.mid = nx c.st) (hs : c.mid ≤ 30000) (o : Obj) (ho : o = .cells #[.int .u8 (x.toNat : Int)] 5 (1, 2)) :
    Calls Try.prog 15 #[jptr p, .agg (ckArr c nilV nilV nilV nilV (.slice (some ⟨V.heap.size, 0, none⟩) 1 1))] (V.alloc o) fun e w' => e = .returned (.bool true) ∧ ∃ G', Hid (AnJ R w w' G' p inter (fun t => if t = c.st then c.mid + 1 else nx t) [⟨c.st, false, c.mid, c.pp, [x]⟩]) := by
  obtain ⟨s, hj, e1, e2, e3, e4⟩ := h.ex
  have hmid : (pcOf inter c).mid = c.mid := by
    show (if inter = true then c.mid else c.mid % 65536) = c.mid
    split
    · rfl
    · omega
  refine (hj.put1 I c x hk ok h1 h2 h3 h4 hb (by unfold Jo.held; rw [e1, e2, e3]; exact Nat.zero_le _) o ho).mono ?_
  rintro e w' ⟨r, s', G', rfl, hj', hp⟩
  obtain ⟨rfl, a1, a2, a3, a4, a5⟩ := hp.out.one e1 e2 hbg hen (fun _ => hfr) (by show c.body ≠ []; rw [hb]; simp) hlo (by rw [hmid, hm]; exact (e4 _).symm) (by rw [hmid]; exact hs)
  refine ⟨rfl, G', s', hj'.out, a1, a2, ?_, fun t => ?_⟩
  · rw [a3, e3]
    show [Jo.Ms.mk c.st c.lo (pcOf inter c).mid c.pp (c.body ++ [])] = _
    rw [hmid, hlo, hb]
    rfl
  · by_cases ht : t = c.st
    · rw [if_pos ht, ht]
      rw [← hmid]
      exact a4
    · rw [if_neg ht, a5 t ht]
      exact e4 t
theorem AnJ.take (I : JoinI R) {y : Jo.Ms} (h : AnJ R w V G p inter nx [y]) :
    Calls Try.prog 16 #[jptr p] V fun e w' => ∃ (m : Msg) (A : Option Addr) (n cp : Nat) (G' : Nat → Prop), e = .returned (.tuple #[.agg (mCells m (.slice A n cp)), .bool true]) ∧ Hid (msOf m = y) ∧ Hid (AnJ R w w' G' p inter nx []) := by
  obtain ⟨s, hj, e1, e2, e3, e4⟩ := h.ex
  refine (hj.take I).mono ?_
  rintro e w' ⟨m, A, n, cp, t, s', G', rfl, hj', ht, _⟩
  obtain ⟨b1, b2, b3, b4, b5⟩ := ht.out
  rw [e1] at b1
  rw [e2] at b2
  rw [e3] at b4 b5
  rcases b5 with ⟨b5, _⟩ | ⟨b5, rfl⟩
  · cases b5
  · simp only [List.getElem?_cons_zero, Option.some.injEq] at b5
    exact ⟨m, A, n, cp, G', rfl, b5.symm, s', hj'.out, b1.eq_nil, b2.eq_nil, b4, fun t => by rw [b3]; exact e4 t⟩
theorem AnJ.held (I : JoinI R) (h : AnJ R w V G p inter nx []) :
    Calls Try.prog 17 #[jptr p] V fun e w' => e = .returned (.int .i64 0) ∧ Hid (AnJ R w w' G p inter nx []) := by
  obtain ⟨s, hj, e1, e2, e3, e4⟩ := h.ex
  refine (hj.held I).mono ?_
  rintro e w' ⟨rfl, hj'⟩
  have hz : Jo.held s = 0 := by unfold Jo.held; rw [e1, e2, e3]; rfl
  exact ⟨by rw [hz]; rfl, s, hj'.out, e1, e2, e3, e4⟩
theorem AnJ.reset (I : JoinI R) {st : Nat} (h : AnJ R w V G p inter nx []) (o : Obj) (ho : o = .cells #[.int .u16 (st : Int)] 34) (hst : st < 65536) :
    Calls Try.prog 19 #[jptr p, .slice (some ⟨V.heap.size, 0, none⟩) 1 1] (V.alloc o) fun e w' => e = .returned (.tuple #[]) ∧ ∃ G', Hid (AnJ R w w' G' p inter (fun t => if t = st then 0 else nx t) []) := by
  obtain ⟨s, hj, e1, e2, e3, e4⟩ := h.ex
  have hj2 := hj.grows I ((Below.refl V.heap.size V).alloc (Nat.le_refl _) o)
  have hblk : Blk (V.alloc o) V.heap.size 34 #[.int .u16 (st : Int)] := by rw [ho]; exact Blk.new _ _ _
  refine (I.reset hj2.rep hblk (fun hg => absurd (I.lt hj.rep _ hg) (Nat.lt_irrefl _)) hst).mono ?_
  rintro e w' ⟨s', G', rfl, hr, ⟨a1, a2, a3, a4⟩, hg, hf⟩
  refine ⟨rfl, G', s', hj2.step hr hg hf, ?_, ?_, by rw [a3]; exact e3, fun t => ?_⟩
  · cases hp : s'.pcs with
    | nil => rfl
    | cons q r => have := a1 q (by rw [hp]; exact List.mem_cons_self); rw [e1] at this; simp at this
  · cases hp : s'.wait with
    | nil => rfl
    | cons q r => have := a2 q (by rw [hp]; exact List.mem_cons_self); rw [e2] at this; simp at this
  · rw [a4 t]
    by_cases ht : t = st
    · rw [if_pos ht, if_pos (.inr (by simp [ht]))]
    · rw [if_neg ht, if_neg (by simp [ht])]
      exact e4 t
end
/-- A message of one piece. -/
def oneCk (kd st mid tsn : Nat) (x : UInt8) : Ck := { zeroC kd with bg := true, en := true, st := st, mid := mid, tsn := tsn, body := [x] }
theorem oneCk_ok {kd st mid tsn : Nat} {x : UInt8} (h0 : kd < 256) (h1 : tsn < 65536) (h2 : st < 65536) (h3 : mid < 4294967296) : (oneCk kd st mid tsn x).ok := small_ok h0 h1 h2 h3 rfl (by show 0 < 65536; omega) rfl rfl rfl rfl rfl rfl rfl rfl
end Go.Proofs.Ytioddokjogbmnaa.Chk
namespace Go.Proofs.Ytioddokjogbmnaa.Chk
open Go.ChangeShapes Go.WideShapes Go.ChangeAt Go.RowKit Go.Deep Go.Proofs.Ytioddokjogbmnaa.Words Go.Proofs.Ytioddokjogbmnaa.Oct Go.Proofs.Ytioddokjogbmnaa.Par
def skCk (kd j : Nat) : Ck := oneCk kd 5 j j (UInt8.ofNat j)
def skPc (inter : Bool) (kd : Nat) (j _f : Nat) : Jo.Pc := pcOf inter (skCk kd j)
def skK (_j : Nat) : Nat := 1
theorem sk_sent {inter : Bool} {kd n : Nat} (hn : n ≤ 30) : Jo.Sent inter false 5 n 0 skK (fun j => j) (skPc inter kd) := by
  refine ⟨fun j _ => Nat.le_refl 1, rfl, fun j _ => rfl, by omega, by omega, ?_, ?_, fun _ _ _ _ => rfl, fun _ _ _ _ => rfl, ?_, ?_, ?_⟩
  · intro j f hj hf
    have hf' : f < 1 := hf
    obtain rfl : f = 0 := by omega
    rfl
  · intro j f hj hf
    have hf' : f < 1 := hf
    obtain rfl : f = 0 := by omega
    rfl
  · intro j f hj hf
    show (if inter = true then j else j % 65536) = j
    split
    · rfl
    · omega
  · intro j f hj hf _
    have hf' : f < 1 := hf
    obtain rfl : f = 0 := by omega
    rfl
  · intro j f hj hf _
    have hf' : f < 1 := hf
    show j = (0 + (j + f)) % 4294967296
    omega
theorem skCk_ok {kd j : Nat} (h0 : kd < 256) (hj : j < 30) : (skCk kd j).ok := oneCk_ok h0 (by omega) (by omega) (by omega)
/-- Messages that are still to be taken, and nothing else. -/
structure TkJ (R : World → (Nat → Prop) → Nat → Bool → Jo.JS → Prop) (w V : World) (G : Nat → Prop) (p : Nat) (inter : Bool) (rd : List Jo.Ms) : Prop where
  ex : ∃ s, J1 R w V G p inter s ∧ s.pcs = [] ∧ s.wait = [] ∧ s.ready = rd
/-- What came in, and what did not yet. -/
structure SkJ (R : World → (Nat → Prop) → Nat → Bool → Jo.JS → Prop) (w V : World) (G : Nat → Prop) (p : Nat) (inter : Bool) (kd n : Nat) (S : Nat → Nat → Bool) : Prop where
  ex : ∃ s a, J1 R w V G p inter s ∧ Jo.Inv inter 5 n skK (skPc inter kd) S 0 a s
def skAll (inter : Bool) (kd n : Nat) (S : Nat → Nat → Bool) : List Jo.Ms := ((List.range n).filter (fun j => S j 0)).map (Jo.M skK (skPc inter kd))
section
variable {R : World → (Nat → Prop) → Nat → Bool → Jo.JS → Prop} {w V V' : World} {G : Nat → Prop} {p : Nat} {inter : Bool} {rd : List Jo.Ms} {kd n : Nat} {S : Nat → Nat → Bool}
theorem TkJ.bel (h : TkJ R w V G p inter rd) : Below w.heap.size w V := by obtain ⟨s, h1, _⟩ := h.ex; exact h1.bel
theorem TkJ.grows (I : JoinI R) (h : TkJ R w V G p inter rd) (hb : Below V.heap.size V V') : TkJ R w V' G p inter rd := by
  obtain ⟨s, h1, h2⟩ := h.ex
  exact ⟨s, h1.grows I hb, h2⟩
theorem SkJ.bel (h : SkJ R w V G p inter kd n S) : Below w.heap.size w V := by obtain ⟨s, a, h1, _⟩ := h.ex; exact h1.bel
theorem SkJ.grows (I : JoinI R) (h : SkJ R w V G p inter kd n S) (hb : Below V.heap.size V V') : SkJ R w V' G p inter kd n S := by
  obtain ⟨s, a, h1, h2⟩ := h.ex
  exact ⟨s, a, h1.grows I hb, h2⟩
theorem SkJ.new (hn : n ≤ 30) (h : J1 R w V G p inter js0) : SkJ R w V G p inter kd n (fun _ _ => false) := ⟨js0, 0, h, sent_inv0 (sk_sent hn)⟩
theorem SkJ.put (I : JoinI R) (hn : n ≤ 30) (hkd : kd = if inter = true then 64 else 0) (h : SkJ R w V G p inter kd n S) {k : Nat} (hk : k < n) {q : Nat × Nat} (o : Obj) (ho : o = .cells #[.int .u8 (k : Int)] 5 q) :
    Calls Try.prog 15 #[jptr p, .agg (ckArr (skCk kd k) nilV nilV nilV nilV (.slice (some ⟨V.heap.size, 0, none⟩) 1 1))] (V.alloc o) fun e w' => ∃ r S' G', e = .returned (.bool r) ∧ Hid (SkJ R w w' G' p inter kd n S') ∧ S' k 0 = true ∧ ∀ j, j ≠ k → S' j 0 = S j 0 := by
  obtain ⟨s, a, hj, hi⟩ := h.ex
  have hk8 : kd < 256 := by subst hkd; split <;> omega
  have hb1 := (Below.refl V.heap.size V).alloc (Nat.le_refl _) o
  have h5 := hj.grows I hb1
  have hy : Byt (V.alloc o) (V.alloc o).heap.size (some ⟨V.heap.size, 0, none⟩) (skCk kd k).body := by
    rw [ho]
    refine byt_of_heap (heap_alloc_new V _) (by simp) ?_
    show [Value.int .u8 (k : Int)] = [Value.int .u8 ((UInt8.ofNat k).toNat : Int)]
    rw [UInt8.toNat_ofNat', Nat.mod_eq_of_lt (by omega)]
  have hck : CkAt (V.alloc o) (V.alloc o).heap.size (ckArr (skCk kd k) nilV nilV nilV nilV (.slice (some ⟨V.heap.size, 0, none⟩) 1 1)) (skCk kd k) := ck_body (skCk_ok hk8 (by omega)) rfl rfl rfl rfl rfl (by omega) (by omega) hy
  have hsm := Jo.Inv.small (sk_sent (inter := inter) (kd := kd) hn) (fun j f _ _ => by show [UInt8.ofNat j].length ≤ 40; simp) hi
  refine (I.put h5.rep hkd (by show Jo.held s + 1 ≤ _; omega) hck (fun ad n cp he hG => ?_)).mono ?_
  · have e : (some (Value.slice (some ⟨V.heap.size, 0, none⟩) 1 1) : Option Value) = some (.slice (some ad) n cp) := he
    injection e with e
    injection e with e _ _
    injection e with e
    subst e
    have := I.lt hj.rep _ hG
    exact absurd this (Nat.lt_irrefl _)
  · rintro e w' ⟨r, s', G', rfl, hr, hp, hg, hf⟩
    have h6 := h5.step hr hg hf
    cases hs : S k 0 with
    | true =>
      obtain ⟨_, hi2⟩ := hi.again (sk_sent hn) hk (f := 0) (Nat.lt_succ_self 0) (fun f hf => by have : f < 1 := hf; rw [show f = 0 by omega]; exact hs) hp
      exact ⟨r, S, G', rfl, ⟨s', a, h6, hi2⟩, hs, fun j _ => rfl⟩
    | false =>
      obtain ⟨_, a', hi2⟩ := hi.put (sk_sent hn) hk (f := 0) (Nat.lt_succ_self 0) hs (by show [UInt8.ofNat k] ≠ []; simp) hp
      exact ⟨r, Jo.put1 S k 0, G', rfl, ⟨s', a', h6, hi2⟩, Jo.put1_at S k 0, fun j hne => by unfold Jo.put1; rw [if_neg (by omega)]⟩
theorem SkJ.full (h : SkJ R w V G p inter kd n S) (hS : ∀ j, j < n → S j 0 = true) : TkJ R w V G p inter (skAll inter kd n S) := by
  obtain ⟨s, a, hj, hi⟩ := h.ex
  obtain ⟨_, h1, h2, h3⟩ := hi.done (fun j f hj hf => by have : f < 1 := hf; rw [show f = 0 by omega]; exact hS j hj)
  refine ⟨s, hj, h1, h2, ?_⟩
  rw [h3]
  unfold skAll
  rw [List.filter_eq_self.2 (fun j hj => hS j (List.mem_range.1 hj)), List.range_eq_range', Nat.sub_zero]
theorem SkJ.skip (I : JoinI R) (hn : n ≤ 30) (h : SkJ R w V G p inter kd n S) {last : Nat} (hl : last < n) (hm : S last 0 = false) (hall : ∀ j, last < j → j < n → S j 0 = true) :
    Calls Try.prog 18 #[jptr p, .agg #[.int .u16 5, .bool false, .int .u32 (last : Int)]] V fun e w' => e = .returned (.tuple #[]) ∧ ∃ G', Hid (TkJ R w w' G' p inter (skAll inter kd n S)) := by
  obtain ⟨s, a, hj, hi⟩ := h.ex
  refine (I.skip (st := 5) hj.rep (by omega) (by omega)).mono ?_
  rintro e w' ⟨s', G', rfl, hr, hsk, hg, hf⟩
  have e : (if inter = true then last else last % 65536) = last := by split <;> omega
  rw [e] at hsk
  obtain ⟨h1, h2, h3⟩ := hi.skip (sk_sent hn) (fun _ _ => rfl) hl hm hall hsk
  exact ⟨rfl, G', s', hj.step hr hg hf, h1, h2, h3⟩
theorem TkJ.take (I : JoinI R) (h : TkJ R w V G p inter rd) :
    Calls Try.prog 16 #[jptr p] V fun e w' => ∃ (m : Msg) (A : Option Addr) (n cp : Nat) (t : Bool) (G' : Nat → Prop), e = .returned (.tuple #[.agg (mCells m (.slice A n cp)), .bool t]) ∧ Hid (TkJ R w w' G' p inter (rd.drop 1)) ∧ Hid ((rd = [] ∧ t = false ∧ m = ⟨0, false, 0, 0, []⟩) ∨ (rd[0]? = some (msOf m) ∧ t = true)) ∧ Hid (n = m.body.length) ∧ n ≤ cp ∧ cp ≤ 9223372036854775807 ∧ Hid (Byt w' w'.heap.size A m.body) := by
  obtain ⟨s, hj, e1, e2, e3⟩ := h.ex
  refine (hj.take I).mono ?_
  rintro e w' ⟨m, A, n, cp, t, s', G', rfl, hj', ht, h1, h2, h3, h4⟩
  obtain ⟨b1, b2, b3, b4, b5⟩ := ht.out
  rw [e1] at b1
  rw [e2] at b2
  rw [e3] at b4 b5
  exact ⟨m, A, n, cp, t, G', rfl, ⟨s', hj'.out, b1.eq_nil, b2.eq_nil, b4⟩, b5, h1, h2, h3, h4⟩
theorem TkJ.held (I : JoinI R) (h : TkJ R w V G p inter []) :
    Calls Try.prog 17 #[jptr p] V fun e w' => e = .returned (.int .i64 0) ∧ Hid (TkJ R w w' G p inter []) := by
  obtain ⟨s, hj, e1, e2, e3⟩ := h.ex
  refine (hj.held I).mono ?_
  rintro e w' ⟨rfl, hj'⟩
  have hz : Jo.held s = 0 := by unfold Jo.held; rw [e1, e2, e3]; rfl
  exact ⟨by rw [hz]; rfl, s, hj'.out, e1, e2, e3⟩
end
end Go.Proofs.Ytioddokjogbmnaa.Chk
namespace Go.Proofs.Ytioddokjogbmnaa.Chk
open Go.ChangeShapes Go.WideShapes Go.ChangeAt Go.RowKit Go.Deep Go.Proofs.Ytioddokjogbmnaa.Words Go.Proofs.Ytioddokjogbmnaa.Oct Go.Proofs.Ytioddokjogbmnaa.Par
def upd (b : Nat → Bool) (i : Nat) : Nat → Bool := fun x => if x = i then true else b x
theorem upd_at (b : Nat → Bool) (i : Nat) : upd b i i = true := by simp [upd]
theorem upd_ne (b : Nat → Bool) {i x : Nat} (h : x ≠ i) : upd b i x = b x := by simp [upd, h]
section
variable {Bs : List (List UInt8)} {K : Nat} {inter lo : Bool} {N : Nat}
/-- What is known of a piece that was sent. -/
structure Pie (Bs : List (List UInt8)) (K : Nat) (inter lo : Bool) (N i j f : Nat) : Prop where
  hj : j < N
  hf : f < kS Bs K j
  hi : i = offS Bs K inter lo j + f
  at_ : (sentN Bs K inter lo N)[i]? = some (ckS Bs K inter lo j f)
  ok : (ckS Bs K inter lo j f).ok
  kind : (ckS Bs K inter lo j f).kind = (if inter = true then 64 else 0)
  body : (ckS Bs K inter lo j f).body ≠ []
  small : (ckS Bs K inter lo j f).body.length ≤ 40
  pp : (ckS Bs K inter lo j f).pp = j
/-- Which pieces were put, and what the joiner has. -/
structure UJ (Bs : List (List UInt8)) (K : Nat) (inter lo : Bool) (N : Nat) (b : Nat → Bool) (s : Jo.JS) : Prop where
  ex : ∃ S : Nat → Nat → Bool, (∀ j f, j < N → f < kS Bs K j → S j f = b (offS Bs K inter lo j + f)) ∧ Jo.Pcs N (kS Bs K) (pS Bs K inter lo) S s.pcs ∧ (lo = false → ∃ tk a, Jo.Inv inter 2 N (kS Bs K) (pS Bs K inter lo) S tk a s)
theorem put1_link (h : Jo.Sent inter lo 2 N 4294967290 (kS Bs K) (offS Bs K inter lo) (pS Bs K inter lo)) {b : Nat → Bool} {S : Nat → Nat → Bool} (hS : ∀ j f, j < N → f < kS Bs K j → S j f = b (offS Bs K inter lo j + f)) {j0 f0 : Nat} (hj : j0 < N) (hf : f0 < kS Bs K j0) :
    ∀ j f, j < N → f < kS Bs K j → Jo.put1 S j0 f0 j f = upd b (offS Bs K inter lo j0 + f0) (offS Bs K inter lo j + f) := fun j f h1 h2 => by
  unfold Jo.put1 upd
  by_cases e : j = j0 ∧ f = f0
  · rw [if_pos e, if_pos (by rw [e.1, e.2])]
  · rw [if_neg e, if_neg (fun e' => e (h.place h1 h2 hj hf e'))]
    exact hS j f h1 h2
theorem UJ.put (hK : 1 ≤ K) (h : ∀ i, i < N → Fine Bs i) {b : Nat → Bool} {s s' : Jo.JS} (u : UJ Bs K inter lo N b s) {i j f : Nat} (p : Pie Bs K inter lo N i j f) (hb : b i = false) {r : Bool} (hr : Jo.PutR inter s (pcOf inter (ckS Bs K inter lo j f)) r s') :
    r = true ∧ UJ Bs K inter lo N (upd b i) s' ∧ Jo.held s' = Jo.held s + (ckS Bs K inter lo j f).body.length := by
  have hs := sent_sent (inter := inter) (lo := lo) hK h
  obtain ⟨S, hS, hp, hi⟩ := u.ex
  have hSf : S j f = false := by rw [hS j f p.hj p.hf, ← p.hi]; exact hb
  have hbd : (pS Bs K inter lo j f).body ≠ [] := p.body
  have hlink := put1_link hs hS p.hj p.hf
  rw [← p.hi] at hlink
  cases lo
  · obtain ⟨tk, a, hi⟩ := hi rfl
    obtain ⟨h1, a', h2⟩ := hi.put hs p.hj p.hf hSf hbd hr
    exact ⟨h1, ⟨_, hlink, h2.pcs, fun _ => ⟨tk, a', h2⟩⟩, hs.held hp p.hj p.hf hSf hr h1⟩
  · obtain ⟨h1, h2, _⟩ := hp.put hs p.hj p.hf hSf hbd hr
    exact ⟨h1, ⟨_, hlink, h2, fun e => by cases e⟩, hs.held hp p.hj p.hf hSf hr h1⟩
theorem inv_same {st0 tk a : Nat} {k : Nat → Nat} {P : Nat → Nat → Jo.Pc} {S : Nat → Nat → Bool} {s s' : Jo.JS} (hi : Jo.Inv inter st0 N k P S tk a s) (h1 : s'.pcs.Perm s.pcs) (h2 : s'.wait.Perm s.wait) (h3 : s'.next = s.next) (h4 : s'.ready = s.ready) : Jo.Inv inter st0 N k P S tk a s' :=
  ⟨hi.led, hi.le, hi.gap, hi.pcs.perm h1, fun m => h2.mem_iff.trans (hi.wait m), h2.nodup_iff.2 hi.wnd, hi.tka, by rw [h4]; exact hi.ready, by rw [h3]; exact hi.next⟩
theorem UJ.take {b : Nat → Bool} {s s' : Jo.JS} (u : UJ Bs K inter lo N b s) {m : Msg} {t : Bool} (h : TakeJ s m t s') : UJ Bs K inter lo N b s' := by
  obtain ⟨S, hS, hp, hi⟩ := u.ex
  obtain ⟨h1, h2, h3, h4, _⟩ := h
  refine ⟨S, hS, hp.perm h1, fun hl => ?_⟩
  obtain ⟨tk, a, hi⟩ := hi hl
  rcases Nat.lt_or_ge tk a with e | e
  · exact ⟨tk + 1, a, (hi.take e h1 h2 h3 h4).1⟩
  · have e' : tk = a := by have := hi.tka; omega
    have hr := hi.empty e'
    exact ⟨tk, a, inv_same hi h1 h2 h3 (by rw [h4, hr]; rfl)⟩
end
/-- Ordered messages, of which none was taken yet. -/
structure OJ (Bs : List (List UInt8)) (K : Nat) (inter : Bool) (N : Nat) (b : Nat → Bool) (s : Jo.JS) : Prop where
  ex : ∃ (S : Nat → Nat → Bool) (a : Nat), (∀ j f, j < N → f < kS Bs K j → S j f = b (offS Bs K inter false j + f)) ∧ Jo.Inv inter 2 N (kS Bs K) (pS Bs K inter false) S 0 a s
section
variable {Bs : List (List UInt8)} {K : Nat} {inter : Bool} {N : Nat}
theorem p_small (hK2 : K ≤ 40) {lo : Bool} (j f : Nat) : (pS Bs K inter lo j f).body.length ≤ 40 := by
  show (((bodyAt Bs j).drop (f * K)).take K).length ≤ 40
  rw [List.length_take]
  omega
theorem OJ.small (hK : 1 ≤ K) (hK2 : K ≤ 40) (h : ∀ i, i < N → Fine Bs i) {b : Nat → Bool} {s : Jo.JS} (u : OJ Bs K inter N b s) : Jo.held s ≤ 1000000000 := by
  obtain ⟨S, a, _, hi⟩ := u.ex
  have := hi.small (sent_sent hK h) (fun j f _ _ => p_small hK2 j f)
  omega
theorem OJ.as_ {b b' : Nat → Bool} {s : Jo.JS} (h : OJ Bs K inter N b s) (e : ∀ x, b x = b' x) : OJ Bs K inter N b' s := by rw [← funext e]; exact h
theorem OJ.put (hK : 1 ≤ K) (h : ∀ i, i < N → Fine Bs i) {b : Nat → Bool} {s s' : Jo.JS} (u : OJ Bs K inter N b s) {i j f : Nat} (p : Pie Bs K inter false N i j f) (hb : b i = false) {r : Bool} (hr : Jo.PutR inter s (pcOf inter (ckS Bs K inter false j f)) r s') : OJ Bs K inter N (upd b i) s' := by
  have hs := sent_sent (inter := inter) (lo := false) hK h
  obtain ⟨S, a, hS, hi⟩ := u.ex
  have hSf : S j f = false := by rw [hS j f p.hj p.hf, ← p.hi]; exact hb
  have hbd : (pS Bs K inter false j f).body ≠ [] := p.body
  have hlink := put1_link hs hS p.hj p.hf
  rw [← p.hi] at hlink
  obtain ⟨_, a', h2⟩ := hi.put hs p.hj p.hf hSf hbd hr
  exact ⟨_, a', hlink, h2⟩
/-- The messages from t on. -/
def msFrom (Bs : List (List UInt8)) (K : Nat) (inter : Bool) (N t : Nat) : List Jo.Ms := (List.range' t (N - t)).map (Jo.M (kS Bs K) (pS Bs K inter false))
theorem OJ.done {b : Nat → Bool} {s : Jo.JS} (u : OJ Bs K inter N b s) (hb : ∀ x, x < (sentN Bs K inter false N).length → b x = true) : s.pcs = [] ∧ s.wait = [] ∧ s.ready = msFrom Bs K inter N 0 := by
  obtain ⟨S, a, hS, hi⟩ := u.ex
  obtain ⟨_, h1, h2, h3⟩ := hi.done (fun j f hj hf => by
    rw [hS j f hj hf]
    have h4 := sent_at (inter := inter) (lo := false) hj hf
    exact hb _ (List.getElem?_eq_some_iff.1 h4).1)
  exact ⟨h1, h2, h3⟩
end
def seen (b : Nat → Bool) (n : Nat) : List Value := (List.range n).map fun i => .int .i64 (if b i = true then 1 else 0)
theorem seen_length (b : Nat → Bool) (n : Nat) : (seen b n).length = n := by unfold seen; simp
theorem seen_at (b : Nat → Bool) {n i : Nat} (h : i < n) : (seen b n)[i]? = some (.int .i64 (if b i = true then 1 else 0)) := by
  unfold seen
  rw [List.getElem?_map, List.getElem?_range h]
  rfl
theorem seen_succ (b : Nat → Bool) {n : Nat} (h : b n = false) : seen b (n + 1) = seen b n ++ [.int .i64 0] := by
  unfold seen
  rw [List.range_succ, List.map_append]
  simp [h]
theorem seen_set (b : Nat → Bool) {n i : Nat} (h : i < n) : (seen b n).set i (.int .i64 1) = seen (upd b i) n := by
  apply List.ext_getElem?
  intro x
  by_cases hx : x < n
  · by_cases e : x = i
    · subst e
      rw [List.getElem?_set_self (by rw [seen_length]; exact hx), seen_at _ hx, upd_at]
      rfl
    · rw [List.getElem?_set_ne (by omega), seen_at _ hx, seen_at _ hx, upd_ne b e]
  · rw [List.getElem?_eq_none (by rw [List.length_set, seen_length]; omega), List.getElem?_eq_none (by rw [seen_length]; omega)]
structure SeJ (R : World → (Nat → Prop) → Nat → Bool → Jo.JS → Prop) (w V : World) (G : Nat → Prop) (p : Nat) (inter : Bool) (s : Jo.JS) (v : Value) (n : Nat) (b : Nat → Bool) : Prop where
  j : J1 R w V G p inter s
  row : V.ownsRow w.heap.size 3 1 v n (seen b n)
  ne : ∀ g, v.ownBlock = some g → ¬ G g
section
variable {R : World → (Nat → Prop) → Nat → Bool → Jo.JS → Prop} {w V V' : World} {G : Nat → Prop} {p : Nat} {inter : Bool} {s : Jo.JS} {v v' : Value} {n : Nat} {b : Nat → Bool}
theorem SeJ.bel (h : SeJ R w V G p inter s v n b) : Below w.heap.size w V := h.j.bel
theorem SeJ.new (h : J1 R w V G p inter js0) : SeJ R w V G p inter js0 (.slice none 0 0) 0 (fun _ => false) := ⟨h, World.ownsRow_nil _ _ _ _, fun g hg => by simp [Value.ownBlock] at hg⟩
theorem SeJ.grows (I : JoinI R) (h : SeJ R w V G p inter s v n b) (hb : Below V.heap.size V V') : SeJ R w V' G p inter s v n b :=
  ⟨h.j.grows I hb, (Fr.of_below hb).own h.row (fun g hg hi => by have := (h.row.lt g hg).2; omega), h.ne⟩
theorem SeJ.append (I : JoinI R) (h : SeJ R w V G p inter s v n (fun _ => false)) {o : Obj} (ho : V'.ownsRow w.heap.size 3 1 v' (n + 1) (seen (fun _ => false) n ++ [.int .i64 0])) (hg : (V.alloc o).grownBy V' v.ownBlock) (hat : v'.ownBlock = v.ownBlock ∨ v'.ownBlock = some (V.alloc o).heap.size) :
    SeJ R w V' G p inter s v' (n + 1) (fun _ => false) := by
  have h1 := h.grows I ((Below.refl V.heap.size V).alloc (Nat.le_refl _) o)
  have hf := Fr.of_grown hg
  refine ⟨⟨I.fr h1.j.rep hf (fun i hi _ hG => h1.ne i hi.symm hG), h1.j.own, below_fr h1.j.bel hf (Nat.le_refl _) (fun x hx => (h1.row.lt x hx.symm).1)⟩, by rw [seen_succ _ rfl]; exact ho, fun g hgo hG => ?_⟩
  rcases hat with e | e
  · rw [e] at hgo; exact h1.ne g hgo hG
  · rw [e] at hgo
    injection hgo with hgo
    have := I.lt h1.j.rep g hG
    omega
theorem SeJ.flag (h : SeJ R w V G p inter s v n b) {k : Nat} (hk : k < n) : ∃ g c, v = .slice (some ⟨g, 0, none⟩) n c ∧ n ≤ c ∧ c ≤ 9223372036854775807 ∧ V.cell? ⟨g, k, none⟩ = some (.int .i64 (if b k = true then 1 else 0)) ∧ V.frozen? ⟨g, k, none⟩ = false := by
  obtain ⟨A, c, rfl, h1, h2⟩ := own_slice h.row
  obtain ⟨g, cap, hv, hg1, hg2⟩ := h.row.form (by omega)
  injection hv with hv _ hc
  subst hv hc
  exact ⟨g, c, rfl, h1, h2, by rw [h.row.cellAt k (by omega), seen_at b hk], h.row.frozenAt k⟩
theorem SeJ.mark (I : JoinI R) {g c : Nat} (h : SeJ R w V G p inter s (.slice (some ⟨g, 0, none⟩) n c) n b) {k : Nat} (hk : k < n) : SeJ R w (V.setCell ⟨g, k, none⟩ (.int .i64 1)) G p inter s (.slice (some ⟨g, 0, none⟩) n c) n (upd b k) := by
  obtain ⟨h1, h2⟩ := h.row.stored k (.int .i64 1)
  have hf := Fr.of_grown h2
  refine ⟨⟨I.fr h.j.rep hf (fun i hi _ hG => h.ne i (by have e : i = g := (by simpa using hi); rw [e]; rfl) hG), h.j.own, below_fr h.j.bel hf (Nat.le_refl _) (fun x hx => (h.row.lt x (by have e : x = g := (by simpa using hx); rw [e]; rfl)).1)⟩, by rw [← seen_set b hk]; exact h1, h.ne⟩
theorem SeJ.put (I : JoinI R) (h : SeJ R w V G p inter s v n b) {c : Ck} {cs : Array Value} (hk : c.kind = (if inter = true then 64 else 0)) (hc : CkAt V w.heap.size cs c) (hb : c.body ≠ []) (hB : Jo.held s + c.body.length ≤ 2000000000) :
    Calls Try.prog 15 #[jptr p, .agg cs] V fun e w' => ∃ r s' G', e = .returned (.bool r) ∧ Hid (SeJ R w w' G' p inter s' v n b) ∧ Hid (Jo.PutR inter s (pcOf inter c) r s') := by
  refine (I.put h.j.rep hk hB (hc.more h.j.bel.size) (fun ad n' cp he hG => ?_)).mono ?_
  · obtain ⟨g, d, sk, pr, bd, hcc, hl⟩ := hc.parts
    rw [hcc.c18] at he
    injection he with he
    injection he with he _ _
    obtain ⟨ad', e, hlt, _⟩ := hl.body.2 (by cases hx : c.body with | nil => exact absurd hx hb | cons _ _ => simp)
    rw [e] at he
    injection he with he
    subst he
    have := h.j.own _ hG
    omega
  · rintro e w' ⟨r, s', G', rfl, hr, hp, hg, hf⟩
    exact ⟨r, s', G', rfl, ⟨h.j.step hr hg hf, hf.own h.row (fun g hgo hG => h.ne g hgo hG), fun g hgo hG => by
      rcases hg g hG with h1 | h1
      · exact h.ne g hgo h1
      · have := (h.row.lt g hgo).2; omega⟩, hp⟩
theorem SeJ.take (I : JoinI R) (h : SeJ R w V G p inter s v n b) :
    Calls Try.prog 16 #[jptr p] V fun e w' => ∃ (m : Msg) (A : Option Addr) (nb cp : Nat) (t : Bool) (s' : Jo.JS) (G' : Nat → Prop), e = .returned (.tuple #[.agg (mCells m (.slice A nb cp)), .bool t]) ∧ Hid (SeJ R w w' G' p inter s' v n b) ∧ Hid (TakeJ s m t s') ∧ Hid (nb = m.body.length) ∧ nb ≤ cp ∧ cp ≤ 9223372036854775807 ∧ Hid (Byt w' w'.heap.size A m.body) :=
  (I.take h.j.rep).mono (by
    rintro e w' ⟨m, A, nb, cp, t, s', G', rfl, hr, ht, h1, h2, h3, h4, hg, hf⟩
    exact ⟨m, A, nb, cp, t, s', G', rfl, ⟨h.j.step hr hg hf, hf.own h.row (fun g hgo hG => h.ne g hgo hG), fun g hgo hG => by
      rcases hg g hG with h1 | h1
      · exact h.ne g hgo h1
      · have := (h.row.lt g hgo).2; omega⟩, ht, h1, h2, h3, h4⟩)
theorem SeJ.held (I : JoinI R) (h : SeJ R w V G p inter s v n b) : Calls Try.prog 17 #[jptr p] V fun e w' => e = .returned (.int .i64 (Jo.held s : Int)) ∧ Hid (SeJ R w w' G p inter s v n b) :=
  (I.held h.j.rep).mono (by rintro e w' ⟨rfl, hb⟩; exact ⟨rfl, h.grows I hb⟩)
end
theorem SeJ.full {R : World → (Nat → Prop) → Nat → Bool → Jo.JS → Prop} {w V : World} {G : Nat → Prop} {p n : Nat} {inter : Bool} {s : Jo.JS} {v : Value} {b b' : Nat → Bool} {Bs : List (List UInt8)} {K N : Nat} (h : SeJ R w V G p inter s v n b) (u : OJ Bs K inter N b' s) (hb : ∀ x, x < (sentN Bs K inter false N).length → b' x = true) : TkJ R w V G p inter (msFrom Bs K inter N 0) := by
  obtain ⟨h1, h2, h3⟩ := u.done hb
  exact ⟨s, h.j, h1, h2, h3⟩
theorem Bods.more {w : World} {B B' : Nat} {A : Option Addr} {Bs : List (List UInt8)} (h : Bods w B A Bs) (hB : B ≤ B') : Bods w B' A Bs := fun j b hj => by
  obtain ⟨ad, Ab, cb, h1, h2, h3, h4, h5, h6⟩ := h j b hj
  exact ⟨ad, Ab, cb, h1, by omega, h3, h4, h5, h6.more hB⟩
end Go.Proofs.Ytioddokjogbmnaa.Chk
set_option maxRecDepth 20000
namespace Go.Proofs.Ytioddokjogbmnaa.Chk
open Go.ChangeShapes Go.WideShapes Go.ChangeAt Go.RowKit Go.Deep Go.Maps Go.Proofs.Ytioddokjogbmnaa.Words Go.Proofs.Ytioddokjogbmnaa.Oct Go.Proofs.Ytioddokjogbmnaa.Par
def cnt (Bs : List (List UInt8)) (K : Nat) (inter : Bool) (b : Nat → Bool) (j : Nat) : Nat := (List.range (kS Bs K j)).countP fun f => !b (offS Bs K inter true j + f)
def leftN (Bs : List (List UInt8)) (K : Nat) (inter : Bool) (N : Nat) (b : Nat → Bool) (j : Nat) : Nat := if j < N then cnt Bs K inter b j else 0
section
variable {Bs : List (List UInt8)} {K : Nat} {inter : Bool} {N : Nat}
theorem left_zero {b : Nat → Bool} {S : Nat → Nat → Bool} (hS : ∀ j f, j < N → f < kS Bs K j → S j f = b (offS Bs K inter true j + f)) {j : Nat} (hj : j < N) : leftN Bs K inter N b j = 0 ↔ Jo.Comp (kS Bs K) S j := by
  unfold leftN cnt
  rw [if_pos hj, List.countP_eq_zero]
  constructor
  · intro h f hf
    have := h f (List.mem_range.2 hf)
    rw [hS j f hj hf]
    simpa using this
  · intro h f hf
    have := h f (List.mem_range.1 hf)
    rw [hS j f hj (List.mem_range.1 hf)] at this
    simp [this]
/-- Unordered messages: what was put, and nothing is ready. -/
structure LJ (Bs : List (List UInt8)) (K : Nat) (inter : Bool) (N : Nat) (b : Nat → Bool) (g : Nat) (s : Jo.JS) : Prop where
  ex : ∃ S : Nat → Nat → Bool, (∀ j f, j < N → f < kS Bs K j → S j f = b (offS Bs K inter true j + f)) ∧ Jo.Pcs N (kS Bs K) (pS Bs K inter true) S s.pcs ∧ s.wait = [] ∧ s.ready = [] ∧ (g = 0 → ∀ j, j < N → ¬ Jo.Comp (kS Bs K) S j)
/-- A piece is put, then what is ready is taken. -/
theorem LJ.put (hK : 1 ≤ K) (h : ∀ i, i < N → Fine Bs i) {b : Nat → Bool} {g : Nat} {s s1 s2 : Jo.JS} (u : LJ Bs K inter N b g s) {i j f : Nat} (p : Pie Bs K inter true N i j f) (hb : b i = false) {r t : Bool} {m : Msg} (hr : Jo.PutR inter s (pcOf inter (ckS Bs K inter true j f)) r s1) (ht : TakeJ s1 m t s2) :
    r = true ∧ ((leftN Bs K inter N (upd b i) j = 0 ∧ t = true ∧ m.pp = j ∧ m.body = bodyAt Bs j ∧ LJ Bs K inter N (upd b i) (g + 1) s2) ∨ (leftN Bs K inter N (upd b i) j ≠ 0 ∧ t = false ∧ LJ Bs K inter N (upd b i) g s2)) := by
  have hs := sent_sent (inter := inter) (lo := true) hK h
  obtain ⟨S, hS, hp, hw, hrd, hg⟩ := u.ex
  have hSf : S j f = false := by rw [hS j f p.hj p.hf, ← p.hi]; exact hb
  have hbd : (pS Bs K inter true j f).body ≠ [] := p.body
  have hlink := put1_link hs hS p.hj p.hf
  rw [← p.hi] at hlink
  obtain ⟨h1, h2, h3, _, h5⟩ := hp.put hs p.hj p.hf hSf hbd hr
  obtain ⟨t1, t2, _, t4, t5⟩ := ht
  have hw2 : s2.wait = [] := by rw [hw] at h3; have := h3.eq_nil; rw [this] at t2; exact t2.eq_nil
  refine ⟨h1, ?_⟩
  rcases h5 with ⟨hc, h5⟩ | ⟨hc, h5⟩
  · rw [hrd] at h5
    rw [h5] at t4 t5
    refine .inr ⟨fun e => hc ((left_zero hlink p.hj).1 e), ?_, ⟨_, hlink, h2.perm t1, hw2, t4, fun hg0 j' hj' hx => ?_⟩⟩
    · rcases t5 with ⟨_, t5, _⟩ | ⟨t5, _⟩
      · exact t5
      · cases t5
    · by_cases e : j' = j
      · subst e; exact hc hx
      · exact hg hg0 j' hj' (Jo.comp_other hx e)
  · rw [hrd, List.nil_append] at h5
    rw [h5] at t4 t5
    have hm : Jo.M (kS Bs K) (pS Bs K inter true) j = msOf m ∧ t = true := by
      rcases t5 with ⟨t5, _⟩ | ⟨t5, t6⟩
      · cases t5
      · exact ⟨Option.some.inj t5, t6⟩
    obtain ⟨h6, h7⟩ := sent_msg (inter := inter) (lo := true) hK (h j p.hj)
    rw [hm.1] at h6 h7
    exact .inl ⟨(left_zero hlink p.hj).2 hc, hm.2, h7, h6, ⟨_, hlink, h2.perm t1, hw2, t4, fun e => by omega⟩⟩
theorem LJ.small (hK : 1 ≤ K) (hK2 : K ≤ 40) (h : ∀ i, i < N → Fine Bs i) {b : Nat → Bool} {g : Nat} {s : Jo.JS} (u : LJ Bs K inter N b g s) : Jo.held s ≤ 1000000000 := by
  obtain ⟨S, _, hp, hw, hr, _⟩ := u.ex
  have := hp.small (sent_sent (inter := inter) (lo := true) hK h) (fun j f _ _ => p_small hK2 j f)
  unfold Jo.held
  rw [hw, hr]
  simp only [Jo.sizeM, List.map_nil, List.sum_nil]
  omega
theorem LJ.done (hK : 1 ≤ K) (h : ∀ i, i < N → Fine Bs i) {b : Nat → Bool} {g : Nat} {s : Jo.JS} (u : LJ Bs K inter N b g s) (hb : ∀ x, x < (sentN Bs K inter true N).length → b x = true) : Jo.held s = 0 ∧ (g = 0 → N = 0) := by
  obtain ⟨S, hS, hp, hw, hrd, hg⟩ := u.ex
  have hall : ∀ j f, j < N → f < kS Bs K j → S j f = true := fun j f hj hf => by
    rw [hS j f hj hf]
    have h4 := sent_at (inter := inter) (lo := true) hj hf
    exact hb _ (List.getElem?_eq_some_iff.1 h4).1
  refine ⟨?_, fun hg0 => ?_⟩
  · unfold Jo.held
    rw [hp.done hall, hw, hrd]
    rfl
  · rcases Nat.eq_zero_or_pos N with e | e
    · exact e
    · exact absurd (fun f hf => hall 0 f e hf) (hg hg0 0 e)
end
section
variable {Bs : List (List UInt8)} {K : Nat} {inter : Bool} {N : Nat}
end
def leftA (L : Nat → Nat) : Array Value := ((List.range 10).map fun j => Value.int .i64 (L j : Int)).toArray
theorem leftA_at (L : Nat → Nat) {j : Nat} (h : j < 10) : (leftA L)[j]? = some (.int .i64 (L j : Int)) := by
  unfold leftA
  rw [List.getElem?_toArray, List.getElem?_map, List.getElem?_range h]
  rfl
theorem leftA_set {L L' : Nat → Nat} {j : Nat} (h : j < 10) (hL : ∀ x, x ≠ j → L' x = L x) : (leftA L).setIfInBounds j (.int .i64 (L' j : Int)) = leftA L' := by
  apply Array.ext_getElem?
  intro x
  have hsz : (leftA L).size = 10 := by unfold leftA; simp
  by_cases hx : x < 10
  · rw [leftA_at _ hx, Array.getElem?_setIfInBounds]
    by_cases e : j = x
    · subst e; rw [if_pos rfl, if_pos (by rw [hsz]; exact h)]
    · rw [if_neg e, leftA_at _ hx, hL x (fun e' => e e'.symm)]
  · have hsz' : (leftA L').size = 10 := by unfold leftA; simp
    rw [Array.getElem?_eq_none (by rw [Array.size_setIfInBounds, hsz]; omega), Array.getElem?_eq_none (by rw [hsz']; omega)]
abbrev LBlk (w : World) (g : Nat) (L : Nat → Nat) : Prop := Blk w g 49 (leftA L)
theorem LBlk.set_ {w : World} {g j : Nat} {L L' : Nat → Nat} (h : LBlk w g L) (hj : j < 10) (hL : ∀ x, x ≠ j → L' x = L x) : LBlk (w.setCell ⟨g, j, none⟩ (.int .i64 (L' j : Int))) g L' := by
  have := Blk.set_ h j (.int .i64 (L' j : Int))
  rw [leftA_set hj hL] at this
  exact this
theorem LBlk.at_ {w : World} {g j : Nat} {L : Nat → Nat} (h : LBlk w g L) (hj : j < 10) : w.cell? ⟨g, j, none⟩ = some (.int .i64 (L j : Int)) := (h.cell j).trans (leftA_at L hj)
theorem int_law : Keyed Try.prog 3 := int_keyed Try.underlying3
theorem int_zero (w : World) : (zeroValue 3).run Try.prog w = .ok (.int .i64 0) w := by kernel_rfl
theorem nat_wf {k : Nat} (h : k < 4294967296) : (Lit.int .i64 (k : Int)).wf = true := by
  have h1 : (k : Int) < 4294967296 := by omega
  simp [Lit.wf, IntKind.min, IntKind.max, IntKind.bits, IntKind.signed]
  omega
structure HadM (w : World) (g q : Nat) (b : Nat → Bool) : Prop where
  ex : ∃ D : DataW Unit, w.ownsMap Try.prog 3 (plainElem Try.prog 3) g q D ∧ IsMap D ∧ ∀ k : Nat, k < 4294967296 → D.atKey (.int .i64 (k : Int)) (.lit (.int .i64 0)) = .lit (.int .i64 (if b k = true then 1 else 0))
theorem HadM.new (w : World) : HadM (w.alloc (.map #[] 0)) w.heap.size 0 (fun _ => false) := by
  refine ⟨.map [], World.ownsMap_made _ _ _ _, isMap_empty, fun k _ => ?_⟩
  exact atKey_of_not_has (by rfl) _
section
variable {w w' : World} {g q : Nat} {b : Nat → Bool}
theorem HadM.lt (h : HadM w g q b) : g < w.heap.size := by obtain ⟨D, h1, _⟩ := h.ex; exact h1.lt
theorem HadM.fr {S : Nat → Prop} (h : HadM w g q b) (hf : Fr S w w') (hg : ¬ S g) : HadM w' g q b := by
  obtain ⟨D, h1, h2, h3⟩ := h.ex
  have hlt := h1.lt
  obtain ⟨es, clock, hb, F, hs, hD⟩ := h1
  exact ⟨D, ⟨es, clock, (hf.block g hlt hg).trans hb, F, hs, hD⟩, h2, h3⟩
theorem HadM.look (h : HadM w g q b) {k : Nat} (hk : k < 4294967296) : (Instr.lookup 48 (.map (some g)) (.int .i64 (k : Int)) false).run Try.prog w = .ok (.int .i64 (if b k = true then 1 else 0)) w := by
  obtain ⟨D, h1, h2, h3⟩ := h.ex
  obtain ⟨c, hrun, hat, _⟩ := h1.lookup_int int_law Try.underlying48 Try.underlying3 (int_zero _) (keyOf_int_mk Try.underlying3 (nat_wf hk))
  rw [h3 k hk] at hat
  injection hat with hat
  injection hat with _ hat
  rw [hrun, hat]
theorem HadM.put (h : HadM w g q b) {k : Nat} (hk : k < 4294967296) {w1 : World} {D : DataW Unit} (hD : IsMap D ∧ ∀ k : Nat, k < 4294967296 → D.atKey (.int .i64 (k : Int)) (.lit (.int .i64 0)) = .lit (.int .i64 (if b k = true then 1 else 0)))
    (h1 : w1.ownsMap Try.prog 3 (plainElem Try.prog 3) g (q + 1) (D.put (.int .i64 (k : Int)) (.lit (.int .i64 1)))) : HadM w1 g (q + 1) (upd b k) := by
  refine ⟨_, h1, hD.1.put _ _, fun x hx => ?_⟩
  by_cases e : x = k
  · subst e
    rw [upd_at, atKey_put_same hD.1 (by first | exact trivial | exact rfl | simp [WideAt.IsKeyLit])]
    rfl
  · rw [upd_ne b e, atKey_put_other (by intro e'; injection e' with _ e'; exact e (by omega))]
    exact hD.2 x hx
end
structure LoJ (R : World → (Nat → Prop) → Nat → Bool → Jo.JS → Prop) (w V : World) (G : Nat → Prop) (p : Nat) (inter : Bool) (s : Jo.JS) (gm q : Nat) (b : Nat → Bool) (L : Nat → Nat) : Prop where
  j : J1 R w V G p inter s
  had : HadM V gm q b
  left : LBlk V (gm + 1) L
  ne : ¬ G gm ∧ ¬ G (gm + 1)
  lo : w.heap.size ≤ gm
section
variable {R : World → (Nat → Prop) → Nat → Bool → Jo.JS → Prop} {w V V' : World} {G G' : Nat → Prop} {p gm q : Nat} {inter : Bool} {s s' : Jo.JS} {b : Nat → Bool} {L L' : Nat → Nat}
theorem LoJ.bel (h : LoJ R w V G p inter s gm q b L) : Below w.heap.size w V := h.j.bel
theorem LoJ.as_ (h : LoJ R w V G p inter s gm q b L) (e : ∀ x, L x = L' x) : LoJ R w V G p inter s gm q b L' := by rw [← funext e]; exact h
theorem LoJ.grows (I : JoinI R) (h : LoJ R w V G p inter s gm q b L) (hb : Below V.heap.size V V') : LoJ R w V' G p inter s gm q b L := by
  have h1 := h.had.lt
  have h2 := h.left.lt
  exact ⟨h.j.grows I hb, h.had.fr (Fr.of_below hb) (by omega), (Fr.of_below hb).blk h.left (by omega), h.ne, h.lo⟩
theorem LoJ.step (h : LoJ R w V G p inter s gm q b L) (hr : R V' G' p inter s') (hg : ∀ i, G' i → G i ∨ V.heap.size ≤ i) (hf : Fr G V V') : LoJ R w V' G' p inter s' gm q b L := by
  have h1 := h.had.lt
  have h2 := h.left.lt
  refine ⟨h.j.step hr hg hf, h.had.fr hf h.ne.1, hf.blk h.left h.ne.2, ⟨fun hG => ?_, fun hG => ?_⟩, h.lo⟩
  · rcases hg _ hG with x | x
    · exact h.ne.1 x
    · omega
  · rcases hg _ hG with x | x
    · exact h.ne.2 x
    · omega
theorem LoJ.put (I : JoinI R) (h : LoJ R w V G p inter s gm q b L) {c : Ck} {cs : Array Value} (hk : c.kind = (if inter = true then 64 else 0)) (hc : CkAt V w.heap.size cs c) (hb : c.body ≠ []) (hB : Jo.held s + c.body.length ≤ 2000000000) :
    Calls Try.prog 15 #[jptr p, .agg cs] V fun e w' => ∃ r s' G', e = .returned (.bool r) ∧ Hid (LoJ R w w' G' p inter s' gm q b L) ∧ Hid (Jo.PutR inter s (pcOf inter c) r s') := by
  refine (I.put h.j.rep hk hB (hc.more h.j.bel.size) (fun ad n' cp he hG => ?_)).mono ?_
  · obtain ⟨g, d, sk, pr, bd, hcc, hl⟩ := hc.parts
    rw [hcc.c18] at he
    injection he with he
    injection he with he _ _
    obtain ⟨ad', e, hlt, _⟩ := hl.body.2 (by cases hx : c.body with | nil => exact absurd hx hb | cons _ _ => simp)
    rw [e] at he
    injection he with he
    subst he
    have := h.j.own _ hG
    omega
  · rintro e w' ⟨r, s', G', rfl, hr, hp, hg, hf⟩
    exact ⟨r, s', G', rfl, h.step hr hg hf, hp⟩
theorem LoJ.take (I : JoinI R) (h : LoJ R w V G p inter s gm q b L) :
    Calls Try.prog 16 #[jptr p] V fun e w' => ∃ (m : Msg) (A : Option Addr) (nb cp : Nat) (t : Bool) (s' : Jo.JS) (G' : Nat → Prop), e = .returned (.tuple #[.agg (mCells m (.slice A nb cp)), .bool t]) ∧ Hid (LoJ R w w' G' p inter s' gm q b L) ∧ Hid (TakeJ s m t s') ∧ Hid (nb = m.body.length) ∧ nb ≤ cp ∧ cp ≤ 9223372036854775807 ∧ Hid (Byt w' w'.heap.size A m.body) :=
  (I.take h.j.rep).mono (by
    rintro e w' ⟨m, A, nb, cp, t, s', G', rfl, hr, ht, h1, h2, h3, h4, hg, hf⟩
    exact ⟨m, A, nb, cp, t, s', G', rfl, h.step hr hg hf, ht, h1, h2, h3, h4⟩)
theorem LoJ.held (I : JoinI R) (h : LoJ R w V G p inter s gm q b L) : Calls Try.prog 17 #[jptr p] V fun e w' => e = .returned (.int .i64 (Jo.held s : Int)) ∧ Hid (LoJ R w w' G p inter s gm q b L) :=
  (I.held h.j.rep).mono (by rintro e w' ⟨rfl, hb⟩; exact ⟨rfl, h.grows I hb⟩)
theorem LoJ.setH (I : JoinI R) (h : LoJ R w V G p inter s gm q b L) {k : Nat} (hk : k < 4294967296) {D : DataW Unit} (hD : IsMap D ∧ ∀ k : Nat, k < 4294967296 → D.atKey (.int .i64 (k : Int)) (.lit (.int .i64 0)) = .lit (.int .i64 (if b k = true then 1 else 0)))
    (h1 : V'.ownsMap Try.prog 3 (plainElem Try.prog 3) gm (q + 1) (D.put (.int .i64 (k : Int)) (.lit (.int .i64 1)))) (hg : V.grownBy V' (some gm)) : LoJ R w V' G p inter s gm (q + 1) (upd b k) L := by
  have hf := Fr.of_grown hg
  exact ⟨⟨I.fr h.j.rep hf (fun i hi _ hG => h.ne.1 (by have e : i = gm := (by simpa using hi); rwa [e] at hG)), h.j.own, below_fr h.j.bel hf (Nat.le_refl _) (fun x hx => by have e : x = gm := (by simpa using hx); have := h.lo; omega)⟩, h.had.put hk hD h1, hf.blk h.left (by simp), h.ne, h.lo⟩
theorem LoJ.store (I : JoinI R) (h : LoJ R w V G p inter s gm q b L) {k : Nat} (hk : k < 4294967296) (hq : q < 1000000) :
    ∃ w5, (Instr.mapUpdate 48 (.map (some gm)) (.int .i64 (k : Int)) (.int .i64 1)).run Try.prog V = .ok () w5 ∧ LoJ R w w5 G p inter s gm (q + 1) (upd b k) L := by
  obtain ⟨D, hown, hD1, hD2⟩ := h.had.ex
  obtain ⟨w5, hrun5, hown5, hgrow5⟩ := hown.update int_law Try.underlying48 (by unfold maxLen; omega) (keyOf_int_mk Try.underlying3 (nat_wf hk)) (plainElem_int Try.underlying3 (a := 1) rfl)
  exact ⟨w5, hrun5, h.setH I hk ⟨hD1, hD2⟩ hown5 hgrow5⟩
theorem LoJ.new (I : JoinI R) (h : J1 R w V G p inter s) : LoJ R w ((V.alloc (.map #[] 0)).alloc (.cells (leftA fun _ => 0) 49)) G p inter s V.heap.size 0 (fun _ => false) (fun _ => 0) := by
  have hb1 := below_one V (.map #[] 0)
  have hb2 := below_one (V.alloc (.map #[] 0)) (.cells (leftA fun _ => 0) 49)
  refine ⟨(h.grows I hb1).grows I hb2, (HadM.new V).fr (Fr.of_below hb2) (by simp), ?_, ⟨fun hG => ?_, fun hG => ?_⟩, h.bel.size⟩
  · have := Blk.new (V.alloc (.map #[] 0)) 49 (leftA fun _ => 0)
    rw [World.size_alloc] at this
    exact this
  · have := I.lt h.rep _ hG; omega
  · have := I.lt h.rep _ hG; omega
end
end Go.Proofs.Ytioddokjogbmnaa.Chk
