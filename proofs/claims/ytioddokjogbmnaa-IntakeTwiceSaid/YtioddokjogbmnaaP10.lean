/-
  Of the texts InPlain, InMore, InIf, InFst, InWk: what the laws reach.
-/
import Derived.Test.YtioddokjogbmnaaP3
import Derived.Test.YtioddokjogbmnaaP9
import Derived.BigQuiet

set_option linter.unusedVariables false
set_option linter.unusedSimpArgs false
namespace Go.Proofs.Ytioddokjogbmnaa.In
open Go.Proofs.Ytioddokjogbmnaa.Span
structure IS where
  mark : Int
  rs : List (Nat × Nat)
  js : Jo.JS
  dups : List Int
def more (l : List Int) (t : Int) : List Int := if l.length < 16 then l ++ [t] else l
/-- What Data answers for a piece of the intake's kind with a body, and leaves. -/
def DataR (inter : Bool) (s : IS) (t : Int) (c : Jo.Pc) (n : Int) (s' : IS) : Prop :=
  (newsOf s.rs (dN s.mark t) = 1 ∧ n = 1 ∧ s' = { s with dups := more s.dups t }) ∨
  (newsOf s.rs (dN s.mark t) ≠ 1 ∧ (4096 < dN s.mark t ∨ (dN s.mark t ≠ 1 ∧ 131072 < Jo.held s.js + c.body.length)) ∧ n = 2 ∧ s' = s) ∨
  (newsOf s.rs (dN s.mark t) = 0 ∧ (dN s.mark t = 1 ∨ Jo.held s.js + c.body.length ≤ 131072) ∧ n = 0 ∧ s'.dups = s.dups ∧ ∃ k r, s'.mark = adr s.mark k ∧ Adv (addK s.rs (dN s.mark t)) k (knB s'.rs) ∧ Gp 2 s'.rs ∧ Jo.PutR inter s.js c r s'.js)
/-- What Forward answers for an IForward without rows of skips, and leaves, of an intake of IData. -/
def ForwR (s : IS) (t : Int) (b : Bool) (s' : IS) : Prop :=
  (okB (dN s.mark t) = false ∧ b = false ∧ s' = s) ∨
  (okB (dN s.mark t) = true ∧ b = true ∧ s'.js = s.js ∧ ∃ k, s'.mark = adr s.mark (skipS (dN s.mark t) + k) ∧ Adv (fun y => knB s.rs (y + skipS (dN s.mark t))) k (knB s'.rs) ∧ Gp 2 s'.rs)
theorem okB_abs {M : Int} {k x : Nat} (hM : 0 ≤ M ∧ M ≤ 4294967295) (hk : k ≤ 1000000) (hx : x ≤ 1000000) : okB (dN (adr M k) (adr M x)) = decide (k < x) := by
  have hd := dist_abs M k x hM hk hx
  unfold okB
  rw [decide_eq_decide]
  split at hd <;> omega
theorem news_known_ {M : Int} {k x : Nat} {rs : List (Nat × Nat)} (hM : 0 ≤ M ∧ M ≤ 4294967295) (hk : k ≤ 1000000) (hx : x ≤ 1000000) (hg : Gp 2 rs) (h : absB k rs x = true) : newsOf rs (dN (adr M k) (adr M x)) = 1 := by
  have hd := dist_abs M k x hM hk hx
  unfold newsOf
  rw [if_neg]
  rintro ⟨h1, h2⟩
  rw [okB_abs hM hk hx] at h1
  have hl := of_decide_eq_true h1
  rw [if_pos (by omega)] at hd
  rw [hd] at h2
  unfold absB at h
  simp [Nat.not_le.2 hl, h2] at h
def Tr (M0 : Int) (K : Nat → Bool) (s : IS) : Prop := ∃ k, s.mark = adr M0 k ∧ Gp 2 s.rs ∧ ∀ y, absB k s.rs y = K y
def one (K : Nat → Bool) (x : Nat) : Nat → Bool := fun y => K y || decide (y = x)
section
variable {M0 : Int} {K : Nat → Bool} {s s' : IS} {inter b : Bool} {T x : Nat} {c : Jo.Pc} {n : Int}
theorem Tr.new (hM : 0 ≤ M0 ∧ M0 ≤ 4294967295) (js : Jo.JS) (ds : List Int) : Tr M0 (fun y => decide (y = 0)) ⟨M0, [], js, ds⟩ :=
  ⟨0, (adr_zero M0 hM).symm, gp_nil 2, fun y => by unfold absB; simp [knB_nil]⟩
theorem Tr.at_ (h : Tr M0 K s) (hT : ∀ y, K y = true → y ≤ T) : ∃ k, s.mark = adr M0 k ∧ k ≤ T ∧ Gp 2 s.rs ∧ (∀ y, absB k s.rs y = K y) := by
  obtain ⟨k, h1, h2, h3⟩ := h
  exact ⟨k, h1, hT k (by rw [← h3]; exact abs_le (Nat.le_refl _)), h2, h3⟩
theorem Tr.zero (h : Tr M0 K s) : K 0 = true := by
  obtain ⟨k, h1, h2, h3⟩ := h
  rw [← h3]; exact abs_le (Nat.zero_le _)
theorem Tr.same (h : Tr M0 K s) (h1 : s'.mark = s.mark) (h2 : s'.rs = s.rs) : Tr M0 K s' := by
  obtain ⟨k, a1, a2, a3⟩ := h
  exact ⟨k, h1.trans a1, by rw [h2]; exact a2, by rw [h2]; exact a3⟩
/-- All up to N is known, and nothing behind it: the mark is there, and there are no rows. -/
theorem Tr.full (h : Tr M0 K s) {N : Nat} (hK : ∀ y, K y = decide (y ≤ N)) : s.mark = adr M0 N ∧ s.rs = [] := by
  obtain ⟨k, a1, a2, a3⟩ := h
  obtain ⟨rfl, e⟩ := abs_inj (k := k) (k' := N) (rs' := []) a2 (gp_nil 2) (fun y _ => by rw [a3, hK]; unfold absB; simp [knB_nil])
  exact ⟨a1, e⟩
/-- A piece comes. -/
theorem Tr.data (h : Tr M0 K s) (hM : 0 ≤ M0 ∧ M0 ≤ 4294967295) (hT : ∀ y, K y = true → y ≤ T) (hT4 : T ≤ 4000) (hx : x ≤ T) (hr : DataR inter s (adr M0 x) c n s') :
    (K x = true ∧ n = 1 ∧ s' = { s with dups := more s.dups (adr M0 x) }) ∨
    (K x = false ∧ n = 2 ∧ s' = s ∧ 131072 < Jo.held s.js + c.body.length ∧ ∃ y, y < x ∧ K y = false) ∨
    (K x = false ∧ n = 0 ∧ Tr M0 (one K x) s' ∧ s'.dups = s.dups ∧ (Jo.held s.js + c.body.length ≤ 131072 ∨ ∀ y, y < x → K y = true) ∧ ∃ r, Jo.PutR inter s.js c r s'.js) := by
  obtain ⟨k, a1, a2, a3, a4⟩ := h.at_ hT
  have hd := dist_abs M0 k x hM (by omega) (by omega)
  have hkn : newsOf s.rs (dN s.mark (adr M0 x)) = 1 ↔ K x = true := by
    rw [a1, ← a4 x]
    refine ⟨fun e => ?_, fun e => news_known_ hM (by omega) (by omega) a3 e⟩
    cases hq : absB k s.rs x
    · have hlt : k < x := Nat.lt_of_not_le fun hle => by rw [abs_le hle] at hq; cases hq
      have e2 : knB s.rs (x - k) = false := by
        unfold absB at hq
        simpa [Nat.not_le.2 hlt] using hq
      rw [hd, if_pos (by omega)] at e
      unfold newsOf okB at e
      rw [if_pos ⟨decide_eq_true (by omega), e2⟩] at e
      split at e <;> omega
    · rfl
  have hdir : K x = false → (dN s.mark (adr M0 x) = x - k ∧ k < x) := fun e => by
    have hlt : k < x := Nat.lt_of_not_le fun hle => by have := a4 x; rw [abs_le hle, e] at this; cases this
    exact ⟨by rw [a1, hd, if_pos (by omega)], hlt⟩
  rcases hr with ⟨h1, h2, h3⟩ | ⟨h1, h2, h3, h4⟩ | ⟨h1, h2, h3, h4, kk, r, h5, h6, h7, h8⟩
  · exact .inl ⟨hkn.1 h1, h2, h3⟩
  · have hf : K x = false := by
      cases hq : K x
      · rfl
      · exact absurd (hkn.2 hq) h1
    obtain ⟨e1, e2⟩ := hdir hf
    rcases h2 with h2 | ⟨h2, h2'⟩
    · omega
    · exact .inr (.inl ⟨hf, h3, h4, h2', k + 1, by omega, by rw [← a4]; exact abs_end a3⟩)
  · have hf : K x = false := by
      cases hq : K x
      · rfl
      · have := hkn.2 hq; omega
    obtain ⟨e1, e2⟩ := hdir hf
    rw [a1] at h5 h6
    have ha := add_abs hM (by omega) (by omega) a3 h6
    refine .inr (.inr ⟨hf, h3, ⟨k + kk, by rw [h5, adr_adr], h7, fun y => ?_⟩, h4, ?_, r, h8⟩)
    · rcases Nat.eq_zero_or_pos y with rfl | hy
      · rw [abs_le (Nat.zero_le _)]
        unfold one
        rw [h.zero]
        rfl
      · rw [ha.1 y hy, a4]
        have : x ≤ k + 4096 := by omega
        simp [one, this]
    · rcases h2 with h2 | h2
      · right
        intro y hy
        rw [← a4]
        exact abs_le (by omega)
      · exact .inl h2
/-- A forward without rows of skips. -/
theorem Tr.forw (h : Tr M0 K s) (hM : 0 ≤ M0 ∧ M0 ≤ 4294967295) (hT : ∀ y, K y = true → y ≤ T) (hT4 : T ≤ 4000) (hx : x ≤ T) (hr : ForwR s (adr M0 x) b s') :
    ∃ K' k k', Tr M0 K' s' ∧ s.mark = adr M0 k ∧ s'.mark = adr M0 k' ∧ b = decide (k < x) ∧ k ≤ T ∧ k' ≤ T ∧ x ≤ k' ∧ (b = false → s' = s) ∧ (∀ y, K' y = true → y ≤ T) ∧ K' x = true := by
  obtain ⟨k, a1, a2, a3, a4⟩ := h.at_ hT
  have hok := okB_abs (M := M0) (k := k) (x := x) hM (by omega) (by omega)
  rcases hr with ⟨h1, h2, h3⟩ | ⟨h1, h2, _, kk, h5, h6, h7⟩
  · rw [a1, hok] at h1
    have hle : x ≤ k := Nat.le_of_not_lt (of_decide_eq_false h1)
    subst h3
    exact ⟨K, k, k, h, a1, a1, by rw [h2, h1], a2, a2, hle, fun _ => rfl, hT, by rw [← a4]; exact abs_le hle⟩
  · rw [a1, hok] at h1
    have hlt := of_decide_eq_true h1
    rw [a1] at h5 h6
    have hd := dist_abs M0 k x hM (by omega) (by omega)
    rw [if_pos (by omega)] at hd
    have hs : skipS (dN (adr M0 k) (adr M0 x)) = x - k := by
      unfold skipS
      rw [hok, if_pos (by simpa using hlt), hd]
    rw [hs] at h5 h6
    rw [adr_adr] at h5
    have hK : ∀ y, absB (k + (x - k + kk)) s'.rs y = (decide (y ≤ x) || K y) := by
      intro y
      rw [← a4]
      rcases Nat.lt_or_ge (k + (x - k + kk)) y with h2 | h2
      · have n1 : ¬ y ≤ x := by omega
        have n2 : ¬ y ≤ k := by omega
        have n3 : ¬ y ≤ k + (x - k + kk) := by omega
        unfold absB
        simp only [n1, n2, n3, decide_false, Bool.false_or]
        have e := h6.2.2 (y - (k + (x - k + kk))) (by omega)
        simp only at e
        rw [e]
        exact congrArg (knB s.rs) (by omega)
      · rw [abs_le h2]
        rcases Nat.lt_or_ge x y with h3 | h3
        · have := h6.1 (y - x) (by omega) (by omega)
          have n1 : ¬ y ≤ x := by omega
          have n2 : ¬ y ≤ k := by omega
          unfold absB
          simp only [n1, n2, decide_false, Bool.false_or]
          simp only at this
          exact ((congrArg (knB s.rs) (by omega)).trans this).symm
        · simp [h3]
    have hT' : ∀ y, (decide (y ≤ x) || K y) = true → y ≤ T := fun y hy => by
      rcases Bool.or_eq_true_iff.1 hy with e | e
      · have := of_decide_eq_true e; omega
      · exact hT y e
    refine ⟨_, k, k + (x - k + kk), ⟨_, h5, h7, hK⟩, a1, h5, by rw [h2, decide_eq_true hlt], a2, ?_, by omega, (fun e => by rw [h2] at e; cases e), hT', by simp⟩
    exact hT' _ (by rw [← hK]; exact abs_le (Nat.le_refl _))
end
end Go.Proofs.Ytioddokjogbmnaa.In

set_option linter.unusedVariables false
set_option linter.unusedSimpArgs false
namespace Go.Proofs.Ytioddokjogbmnaa.Jo
theorem sizeP_cons (c : Pc) (l : List Pc) : sizeP (c :: l) = c.body.length + sizeP l := by simp [sizeP]
theorem sizeP_filter (f : Pc → Bool) : ∀ l : List Pc, sizeP (l.filter f) ≤ sizeP l
  | [] => Nat.le_refl _
  | c :: l => by
    have := sizeP_filter f l
    rw [List.filter_cons, sizeP_cons]
    split
    · rw [sizeP_cons]; omega
    · omega
/-- A put makes no more held than its piece. -/
theorem PutR.held_le {inter r : Bool} {s s' : JS} {c : Pc} (h : PutR inter s c r s') : held s' ≤ held s + c.body.length := by
  unfold held
  rcases h with ⟨_, _, h1, h2⟩ | ⟨_, _, h1, h2, h3⟩ | ⟨_, _, L, rest, h1, h2, h3, h4, h5⟩
  · rw [sizeP_perm h1, sizeM_perm h2.wait, h2.ready]; omega
  · rw [sizeP_perm h2, sizeM_perm h3.wait, h3.ready, sizeP_cons]; omega
  · have e1 := sizeP_perm h3
    rw [sizeP_cons, sizeP_append] at e1
    have e2 : sizeP s'.pcs ≤ sizeP rest := by
      rw [sizeP_perm h4]
      split
      · exact sizeP_filter _ _
      · exact Nat.le_refl _
    have hmo := msgOf_size L
    have hone : sizeM [msgOf L] = (msgOf L).body.length := by simp [sizeM]
    rcases h5 with ⟨_, h5, h6, _⟩ | ⟨_, ⟨ms, g1, g2, _⟩, _⟩
    · rw [sizeM_perm h6, h5, sizeM_append]; omega
    · have h7 := sizeM_perm g2
      rw [sizeM_append, sizeM_append] at h7
      rw [g1, sizeM_append]
      omega
/-- A piece that begins a message of another stream than all that are kept, where none ends one: it is kept. -/
theorem PutR.begin_ {r : Bool} {s s' : JS} {c : Pc} (h : PutR true s c r s') (hbg : c.bg = true) (hen : c.en = false) (hfr : c.fr = 0) (hb : c.body ≠ []) (hlo : c.lo = false) (hm : c.mid = 0) (hn : s.next c.st = 0) (hw : s.wait = []) (hp : ∀ p ∈ s.pcs, p.en = false ∧ p.st ≠ c.st) :
    r = true ∧ s'.pcs.Perm (c :: s.pcs) ∧ Alike s s' := by
  have hnr : ¬ Refused true s c := by
    rintro (h1 | ⟨_, h1 | ⟨m, h1, _⟩⟩ | ⟨_, h1 | h1 | ⟨p, h1, h2, _⟩⟩ | ⟨h1, _⟩)
    · exact hb h1
    · rw [hm, hn] at h1
      exact lessN_not (Nat.le_refl _) (by omega) h1
    · rw [hw] at h1; cases h1
    · rw [hbg, hfr] at h1; exact h1 rfl
    · omega
    · exact (hp p h1).2 h2.1
    · cases h1
  rcases h with ⟨h1, _⟩ | ⟨_, rfl, h1, h2, h3⟩ | ⟨_, _, L, rest, h1, h2, h3, _⟩
  · exact absurd h1 hnr
  · exact ⟨rfl, h2, h3⟩
  · exfalso
    have hl : L.length - 1 < L.length := by have := h1.ne; omega
    have h4 := h1.last _ (List.getElem?_eq_getElem hl)
    have h5 : L[L.length - 1] ∈ c :: s.pcs := h3.mem_iff.2 (List.mem_append_left _ (List.getElem_mem hl))
    rcases List.mem_cons.1 h5 with e | e
    · rw [e, hen] at h4; cases h4
    · rw [(hp _ e).1] at h4; cases h4
theorem PutR.begin_held {s s' : JS} {c : Pc} (h2 : s'.pcs.Perm (c :: s.pcs)) (h3 : Alike s s') : held s' = held s + c.body.length := by
  unfold held
  rw [sizeP_perm h2, sizeM_perm h3.wait, h3.ready, sizeP_cons]; omega
section
variable {inter lo : Bool} {st0 T : Nat} {k off : Nat → Nat} {P : Nat → Nat → Pc} {S : Nat → Nat → Bool} {s : JS}
structure On (lo : Bool) (st0 : Nat) (k : Nat → Nat) (P : Nat → Nat → Pc) (S : Nat → Nat → Bool) (g : Nat) (s : JS) : Prop where
  pcs : Pcs 1 k P S s.pcs
  wait : s.wait = []
  ready : s.ready = []
  next : lo = false → s.next st0 = g
  g : (g = 0 ∧ ¬ Comp k S 0) ∨ (g = 1 ∧ Comp k S 0)
theorem On.new (hk : 0 < k 0) {s : JS} (h1 : s.pcs = []) (h2 : s.wait = []) (h3 : s.ready = []) (h4 : s.next st0 = 0) : On lo st0 k P (fun _ _ => false) 0 s :=
  ⟨by rw [h1]; exact ⟨fun p => ⟨(fun h => by cases h), (fun ⟨j, f, _, _, h, _⟩ => by cases h)⟩, .nil⟩, h2, h3, fun _ => h4, .inl ⟨rfl, fun h => by have := h 0 hk; cases this⟩⟩
/-- A piece that hasn't come comes; what is ready then is taken. -/
theorem On.put (h : Sent inter lo st0 1 T k off P) {g : Nat} {s s' : JS} {r : Bool} (hi : On lo st0 k P S g s) {f : Nat} (hf : f < k 0) (hS : S 0 f = false) (hb : (P 0 f).body ≠ []) (hr : PutR inter s (P 0 f) r s') :
    g = 0 ∧ Pcs 1 k P (put1 S 0 f) s'.pcs ∧ s'.wait = [] ∧
    ((¬ Comp k (put1 S 0 f) 0 ∧ s'.ready = [] ∧ (lo = false → s'.next st0 = 0)) ∨ (Comp k (put1 S 0 f) 0 ∧ s'.ready = [M k P 0] ∧ (lo = false → s'.next st0 = 1))) := by
  have hnc : ¬ Comp k S 0 := fun hx => by rw [hx f hf] at hS; cases hS
  have hg : g = 0 := by
    rcases hi.g with ⟨e, _⟩ | ⟨_, e⟩
    · exact e
    · exact absurd e hnc
  subst hg
  cases lo
  · have hI : Inv inter st0 1 k P S 0 0 s := ⟨fun j hj => by omega, by omega, fun _ => hnc, hi.pcs, fun m => ⟨(fun e => by rw [hi.wait] at e; cases e), fun ⟨j, _, h2, h3, _⟩ => absurd (by rwa [show j = 0 by omega] at h3) hnc⟩, by rw [hi.wait]; exact .nil, by omega, by rw [hi.ready]; rfl, hi.next rfl⟩
    obtain ⟨_, a', hI'⟩ := hI.put h (by omega) hf hS hb hr
    have hw : s'.wait = [] := by
      cases hq : s'.wait with
      | nil => rfl
      | cons m l =>
        obtain ⟨j, h1, h2, h3, _⟩ := (hI'.wait m).1 (by rw [hq]; exact List.mem_cons_self)
        have : a' = 0 := by omega
        subst this
        rw [show j = 0 by omega] at h3
        exact absurd h3 (hI'.gap (by omega))
    refine ⟨rfl, hI'.pcs, hw, ?_⟩
    rcases Nat.lt_or_ge a' 1 with h1 | h1
    · have : a' = 0 := by omega
      subst this
      exact .inl ⟨hI'.gap (by omega), by rw [hI'.ready]; rfl, fun _ => hI'.next⟩
    · have h2 := hI'.le
      have : a' = 1 := by omega
      subst this
      exact .inr ⟨hI'.led 0 (by omega), by rw [hI'.ready]; rfl, fun _ => hI'.next⟩
  · obtain ⟨_, h1, h2, h3, h4⟩ := hi.pcs.put h (by omega) hf hS hb hr
    rw [hi.wait] at h2
    rw [hi.ready] at h4
    refine ⟨rfl, h1, h2.eq_nil, ?_⟩
    rcases h4 with ⟨h4, h5⟩ | ⟨h4, h5⟩
    · exact .inl ⟨h4, h5, fun e => by cases e⟩
    · exact .inr ⟨h4, h5, fun e => by cases e⟩
/-- Nothing is ready: nothing is taken. -/
theorem On.none (hp : Pcs 1 k P S s.pcs) (hw : s.wait = []) (hc : ¬ Comp k S 0) (hr : s.ready = []) (hn : lo = false → s.next st0 = 0) {s' : JS} (h1 : s'.pcs.Perm s.pcs) (h2 : s'.wait.Perm s.wait) (h3 : s'.next = s.next) (h4 : s'.ready = s.ready.drop 1) : On lo st0 k P S 0 s' :=
  ⟨hp.perm h1, by rw [hw] at h2; exact h2.eq_nil, by rw [h4, hr]; rfl, fun e => by rw [h3]; exact hn e, .inl ⟨rfl, hc⟩⟩
theorem On.took (hp : Pcs 1 k P S s.pcs) (hw : s.wait = []) (hc : Comp k S 0) (hr : s.ready = [M k P 0]) (hn : lo = false → s.next st0 = 1) {s' : JS} (h1 : s'.pcs.Perm s.pcs) (h2 : s'.wait.Perm s.wait) (h3 : s'.next = s.next) (h4 : s'.ready = s.ready.drop 1) : On lo st0 k P S 1 s' :=
  ⟨hp.perm h1, by rw [hw] at h2; exact h2.eq_nil, by rw [h4, hr]; rfl, fun e => by rw [h3]; exact hn e, .inr ⟨rfl, hc⟩⟩
theorem On.again {g : Nat} {s s' : JS} (hi : On lo st0 k P S g s) (h1 : s'.pcs.Perm s.pcs) (h2 : s'.wait.Perm s.wait) (h3 : s'.next = s.next) (h4 : s'.ready = s.ready.drop 1) : On lo st0 k P S g s' :=
  ⟨hi.pcs.perm h1, by rw [hi.wait] at h2; exact h2.eq_nil, by rw [h4, hi.ready]; rfl, fun e => by rw [h3]; exact hi.next e, hi.g⟩
theorem On.done {g : Nat} {s : JS} (hi : On lo st0 k P S g s) (hS : ∀ f, f < k 0 → S 0 f = true) : g = 1 ∧ held s = 0 := by
  have hp := hi.pcs.done (fun j f hj hf => by rw [show j = 0 by omega] at hf ⊢; exact hS f hf)
  refine ⟨?_, by unfold held; rw [hp, hi.wait, hi.ready]; rfl⟩
  rcases hi.g with ⟨_, e⟩ | ⟨e, _⟩
  · exact absurd (fun f hf => hS f hf) e
  · exact e
end
end Go.Proofs.Ytioddokjogbmnaa.Jo

set_option linter.unusedVariables false
set_option linter.unusedSimpArgs false
namespace Go.Proofs.Ytioddokjogbmnaa.In
open Go.ChangeShapes Go.WideShapes Go.ChangeAt Go.RowKit Go.Deep Go.Proofs.Ytioddokjogbmnaa.Words Go.Proofs.Ytioddokjogbmnaa.Oct Go.Proofs.Ytioddokjogbmnaa.Par Go.Proofs.Ytioddokjogbmnaa.Chk
/-- A chunk without lists but its body. -/
def Bare (c : Ck) : Prop := c.gaps = [] ∧ c.dups = [] ∧ c.skips = [] ∧ c.ps = []
structure InI (R : World → (Nat → Prop) → Nat → Bool → IS → Prop) : Prop where
  fr : ∀ {w w' : World} {G S : Nat → Prop} {p : Nat} {inter : Bool} {s : IS}, R w G p inter s → Fr S w w' → (∀ i, S i → i < w.heap.size → ¬ G i) → R w' G p inter s
  lt : ∀ {w : World} {G : Nat → Prop} {p : Nat} {inter : Bool} {s : IS}, R w G p inter s → ∀ i, G i → i < w.heap.size
  bd : ∀ {w : World} {G : Nat → Prop} {p : Nat} {inter : Bool} {s : IS}, R w G p inter s → (0 ≤ s.mark ∧ s.mark ≤ 4294967295) ∧ Span.Gp 2 s.rs ∧ s.dups.length ≤ 16
  new : ∀ (w : World) (M : Int) (inter : Bool), 0 ≤ M ∧ M ≤ 4294967295 → Calls Try.prog 22 #[.int .u32 M, .bool inter] w fun e w' => ∃ G p, e = .returned (jptr p) ∧ R w' G p inter ⟨M, [], js0, []⟩ ∧ (∀ i, G i → w.heap.size ≤ i) ∧ Hid (Below w.heap.size w w')
  data : ∀ {w : World} {G : Nat → Prop} {p : Nat} {inter : Bool} {s : IS} {cs : Array Value} {c : Ck}, R w G p inter s → c.kind = (if inter = true then 64 else 0) → c.body ≠ [] → Bare c → Jo.held s.js + c.body.length ≤ 2000000000 → CkAt w w.heap.size cs c → (∀ (ad : Addr) (n cp : Nat), cs[18]? = some (.slice (some ad) n cp) → ¬ G ad.block) →
    Calls Try.prog 23 #[jptr p, .agg cs] w fun e w' => ∃ (n : Int) (s' : IS) (G' : Nat → Prop), e = .returned (.int .i64 n) ∧ R w' G' p inter s' ∧ DataR inter s (c.tsn : Int) (pcOf inter c) n s' ∧ (∀ i, G' i → G i ∨ w.heap.size ≤ i) ∧ Fr G w w'
  forw : ∀ {w : World} {G : Nat → Prop} {p : Nat} {s : IS} {cs : Array Value} {c : Ck}, R w G p true s → c.kind = 194 → c.skips = [] → CkAt w w.heap.size cs c →
    Calls Try.prog 27 #[jptr p, .agg cs] w fun e w' => ∃ (b : Bool) (s' : IS) (G' : Nat → Prop), e = .returned (.bool b) ∧ R w' G' p true s' ∧ ForwR s (c.tsn : Int) b s' ∧ (∀ i, G' i → G i ∨ w.heap.size ≤ i) ∧ Fr G w w'
  other : ∀ {w : World} {G : Nat → Prop} {p : Nat} {inter : Bool} {s : IS} {cs : Array Value} {c : Ck}, R w G p inter s → c.kind ≠ (if inter = true then 194 else 192) → CkAt w w.heap.size cs c →
    Calls Try.prog 27 #[jptr p, .agg cs] w fun e w' => e = .returned (.bool false) ∧ Below w.heap.size w w'
  take : ∀ {w : World} {G : Nat → Prop} {p : Nat} {inter : Bool} {s : IS}, R w G p inter s →
    Calls Try.prog 24 #[jptr p] w fun e w' => ∃ (m : Msg) (A : Option Addr) (n cp : Nat) (t : Bool) (j : Jo.JS) (G' : Nat → Prop), e = .returned (.tuple #[.agg (mCells m (.slice A n cp)), .bool t]) ∧ R w' G' p inter { s with js := j } ∧ TakeJ s.js m t j ∧ n = m.body.length ∧ n ≤ cp ∧ cp ≤ 9223372036854775807 ∧ Byt w' w'.heap.size A m.body ∧ (m.body = [120] → ∀ ad, A = some ad → ad.block ≠ p) ∧ (∀ i, G' i → G i ∨ w.heap.size ≤ i) ∧ Fr G w w'
  sack : ∀ {w : World} {G : Nat → Prop} {p : Nat} {inter : Bool} {s : IS}, R w G p inter s →
    Calls Try.prog 25 #[jptr p] w fun e w' => ∃ (cs : Array Value) (c : Ck) (G' : Nat → Prop), e = .returned (.agg cs) ∧ CkAt w' w'.heap.size cs c ∧ c.kind = 3 ∧ (c.tsn : Int) = s.mark ∧ c.win = 131072 - Jo.held s.js ∧ c.gaps = s.rs.take 32 ∧ (c.dups.map fun d : Nat => (d : Int)) = s.dups ∧ R w' G' p inter { s with dups := [] } ∧ (∀ i, G' i → G i ∨ w.heap.size ≤ i) ∧ Fr (fun i => i = p) w w'
  self : ∀ {w : World} {G : Nat → Prop} {p : Nat} {inter : Bool} {s : IS}, R w G p inter s → G p
  mark : ∀ {w : World} {G : Nat → Prop} {p : Nat} {inter : Bool} {s : IS}, R w G p inter s → Calls Try.prog 26 #[jptr p] w fun e w' => e = .returned (.int .u32 s.mark) ∧ Below w.heap.size w w'
/-- An intake of the call's own beside what was there. -/
structure I1 (R : World → (Nat → Prop) → Nat → Bool → IS → Prop) (w V : World) (G : Nat → Prop) (p : Nat) (inter : Bool) (s : IS) : Prop where
  rep : R V G p inter s
  own : ∀ i, G i → w.heap.size ≤ i
  bel : Below w.heap.size w V
section
variable {R : World → (Nat → Prop) → Nat → Bool → IS → Prop} {w V V' : World} {G G' : Nat → Prop} {p : Nat} {inter : Bool} {s s' : IS}
theorem I1.step (h : I1 R w V G p inter s) (hr : R V' G' p inter s') (hg : ∀ i, G' i → G i ∨ V.heap.size ≤ i) (hf : Fr G V V') : I1 R w V' G' p inter s' :=
  ⟨hr, fun i hi => by
    rcases hg i hi with h1 | h1
    · exact h.own i h1
    · exact Nat.le_trans h.bel.size h1, below_fr h.bel hf (Nat.le_refl _) h.own⟩
theorem I1.grows (I : InI R) (h : I1 R w V G p inter s) (hb : Below V.heap.size V V') : I1 R w V' G p inter s :=
  ⟨I.fr h.rep (Fr.of_below hb) (fun i h1 h2 _ => by omega), h.own, h.bel.trans (hb.mono h.bel.size)⟩
theorem I1.mark (I : InI R) (h : I1 R w V G p inter s) : Calls Try.prog 26 #[jptr p] V fun e w' => e = .returned (.int .u32 s.mark) ∧ Hid (I1 R w w' G p inter s) :=
  (I.mark h.rep).mono (by rintro e w' ⟨rfl, hb⟩; exact ⟨rfl, h.grows I hb⟩)
theorem I1.take (I : InI R) (h : I1 R w V G p inter s) :
    Calls Try.prog 24 #[jptr p] V fun e w' => ∃ (m : Msg) (A : Option Addr) (n cp : Nat) (t : Bool) (j : Jo.JS) (G' : Nat → Prop), e = .returned (.tuple #[.agg (mCells m (.slice A n cp)), .bool t]) ∧ Hid (I1 R w w' G' p inter { s with js := j }) ∧ Hid (TakeJ s.js m t j) ∧ Hid (n = m.body.length) ∧ n ≤ cp ∧ cp ≤ 9223372036854775807 ∧ Hid (Byt w' w'.heap.size A m.body) ∧ Hid (m.body = [120] → ∀ ad, A = some ad → ad.block ≠ p) ∧ Hid (Fr G V w') :=
  (I.take h.rep).mono (by
    rintro e w' ⟨m, A, n, cp, t, j, G', rfl, hr, ht, h1, h2, h3, h4, h5, hg, hf⟩
    exact ⟨m, A, n, cp, t, j, G', rfl, h.step hr hg hf, ht, h1, h2, h3, h4, h5, hf⟩)
theorem I1.sack (I : InI R) (h : I1 R w V G p inter s) :
    Calls Try.prog 25 #[jptr p] V fun e w' => ∃ (cs : Array Value) (c : Ck) (G' : Nat → Prop), e = .returned (.agg cs) ∧ Hid (CkAt w' w'.heap.size cs c) ∧ Hid ((c.tsn : Int) = s.mark) ∧ Hid (c.win = 131072 - Jo.held s.js) ∧ Hid (c.gaps = s.rs.take 32) ∧ Hid ((c.dups.map fun d : Nat => (d : Int)) = s.dups) ∧ Hid (I1 R w w' G' p inter { s with dups := [] }) ∧ Hid (Fr (fun i => i = p) V w') :=
  (I.sack h.rep).mono (by
    rintro e w' ⟨cs, c, G', rfl, h1, _, h2, h3, h4, h5, hr, hg, hf⟩
    exact ⟨cs, c, G', rfl, h1, h2, h3, h4, h5, h.step hr hg (hf.mono fun i _ e => by rw [e]; exact I.self h.rep), hf⟩)
/-- A chunk is put whose body lies in a block of its own. -/
theorem I1.data (I : InI R) (h : I1 R w V G p inter s) {cs : Array Value} {c : Ck} (hk : c.kind = (if inter = true then 64 else 0)) (hb : c.body ≠ []) (hbr : Bare c) (hz : Jo.held s.js + c.body.length ≤ 2000000000) (hc : CkAt V V.heap.size cs c) (hn : ∀ (ad : Addr) (n cp : Nat), cs[18]? = some (.slice (some ad) n cp) → ¬ G ad.block) :
    Calls Try.prog 23 #[jptr p, .agg cs] V fun e w' => ∃ (n : Int) (s' : IS) (G' : Nat → Prop), e = .returned (.int .i64 n) ∧ Hid (I1 R w w' G' p inter s') ∧ Hid (DataR inter s (c.tsn : Int) (pcOf inter c) n s') ∧ Hid (Fr G V w') ∧ Hid (∀ i, G' i → G i ∨ V.heap.size ≤ i) :=
  (I.data h.rep hk hb hbr hz hc hn).mono (by
    rintro e w' ⟨n, s', G', rfl, hr, hd, hg, hf⟩
    exact ⟨n, s', G', rfl, h.step hr hg hf, hd, hf, hg⟩)
theorem I1.forw (I : InI R) (h : I1 R w V G p true s) {cs : Array Value} {c : Ck} (hk : c.kind = 194) (hs : c.skips = []) (hc : CkAt V V.heap.size cs c) :
    Calls Try.prog 27 #[jptr p, .agg cs] V fun e w' => ∃ (b : Bool) (s' : IS) (G' : Nat → Prop), e = .returned (.bool b) ∧ Hid (I1 R w w' G' p true s') ∧ Hid (ForwR s (c.tsn : Int) b s') :=
  (I.forw h.rep hk hs hc).mono (by
    rintro e w' ⟨b, s', G', rfl, hr, hd, hg, hf⟩
    exact ⟨b, s', G', rfl, h.step hr hg hf, hd⟩)
end
end Go.Proofs.Ytioddokjogbmnaa.In

set_option linter.unusedVariables false
set_option linter.unusedSimpArgs false
namespace Go.Proofs.Ytioddokjogbmnaa.In
open Go.ChangeShapes Go.WideShapes Go.ChangeAt Go.RowKit Go.Deep Go.Proofs.Ytioddokjogbmnaa.Words Go.Proofs.Ytioddokjogbmnaa.Oct Go.Proofs.Ytioddokjogbmnaa.Par Go.Proofs.Ytioddokjogbmnaa.Chk
/-- A chunk in a variable of the call's own, its body in a block of its own, both beside the intake. -/
structure CkV (V : World) (G : Nat → Prop) (gk gb : Nat) (cs : Array Value) (bs : List UInt8) : Prop where
  blk : CkBlk V gk cs
  byt : Byt V V.heap.size (some ⟨gb, 0, none⟩) bs
  nk : ¬ G gk
  nb : ¬ G gb
  hb : gb < V.heap.size
theorem CkV.step {V V' : World} {G G' : Nat → Prop} {gk gb : Nat} {cs : Array Value} {bs : List UInt8} (h : CkV V G gk gb cs bs) (hf : Fr G V V') (hg : ∀ i, G' i → G i ∨ V.heap.size ≤ i) : CkV V' G' gk gb cs bs := by
  refine ⟨hf.blk h.blk h.nk, (hf.byt h.byt (Nat.le_refl _) (fun x e => by injection e with e; subst e; exact h.nb)).more hf.size, fun hx => ?_, fun hx => ?_, Nat.lt_of_lt_of_le h.hb hf.size⟩
  · rcases hg _ hx with e | e
    · exact h.nk e
    · have := h.blk.lt; omega
  · rcases hg _ hx with e | e
    · exact h.nb e
    · have := h.hb; omega
def fI : Ck := { zeroC 64 with bg := true, en := true, tsn := 11, body := [120] }
theorem fI_ok : fI.ok := small_ok (by decide) (by decide) (by decide) (by decide) rfl (by decide) rfl rfl rfl rfl rfl rfl rfl rfl
abbrev fCs (gb : Nat) : Array Value := ckArr fI nilV nilV nilV nilV (.slice (some ⟨gb, 0, none⟩) 1 1)
theorem built_fI (A : Option Addr) : Try.prog.built 41 [(0, .int .u8 64), (5, .int .u32 11), (1, .bool true), (2, .bool true), (18, .slice A 1 1)] = some (ckArr fI nilV nilV nilV nilV (.slice A 1 1)) := by kernel_rfl
theorem fI_at {V : World} {gb : Nat} (h : Byt V V.heap.size (some ⟨gb, 0, none⟩) [120]) : CkAt V V.heap.size (fCs gb) fI := ck_body fI_ok rfl rfl rfl rfl rfl (by omega) (by omega) h
theorem fI_blk {gb : Nat} (ad : Addr) (n cp : Nat) (h : (fCs gb)[18]? = some (.slice (some ad) n cp)) : ad.block = gb := by
  have e : (some (Value.slice (some ⟨gb, 0, none⟩) 1 1) : Option Value) = some (.slice (some ad) n cp) := h
  injection e with e
  injection e with e _ _
  injection e with e
  subst e
  rfl
def K0 : Nat → Bool := fun y => decide (y = 0)
/-- The first law's intake behind m of its two pieces. -/
def FS (R : World → (Nat → Prop) → Nat → Bool → IS → Prop) (w : World) (p gk gb m : Nat) (V : World) : Prop :=
  ∃ G s, I1 R w V G p true s ∧ CkV V G gk gb (fCs gb) [120] ∧
    ((m = 0 ∧ s = ⟨9, [], js0, []⟩) ∨ (m = 1 ∧ Tr 9 (one K0 2) s ∧ s.dups = [] ∧ ∃ r, Jo.PutR true js0 (pcOf true fI) r s.js) ∨ (m = 2 ∧ Tr 9 (one K0 2) s ∧ s.dups = [11] ∧ ∃ r, Jo.PutR true js0 (pcOf true fI) r s.js))
section
variable {R : World → (Nat → Prop) → Nat → Bool → IS → Prop} {w V : World} {p gk gb m : Nat}
theorem FS.blk (h : FS R w p gk gb m V) : CkBlk V gk (fCs gb) := by obtain ⟨G, s, _, hc, _⟩ := h; exact hc.blk
theorem K0_le {T : Nat} : ∀ y, K0 y = true → y ≤ T := fun y h => by have := of_decide_eq_true h; omega
theorem one_le {K : Nat → Bool} {x T : Nat} (hK : ∀ y, K y = true → y ≤ T) (hx : x ≤ T) : ∀ y, one K x y = true → y ≤ T := fun y h => by
  rcases Bool.or_eq_true_iff.1 h with e | e
  · exact hK y e
  · have := of_decide_eq_true e; omega
theorem FS.one_ (I : InI R) (h : FS R w p gk gb 0 V) : Calls Try.prog 23 #[jptr p, .agg (fCs gb)] V fun e w' => e = .returned (.int .i64 0) ∧ Hid (FS R w p gk gb 1 w') := by
  obtain ⟨G, s, h1, hc, hs⟩ := h
  rcases hs with ⟨_, rfl⟩ | ⟨hm, _⟩ | ⟨hm, _⟩
  · refine (h1.data I rfl (by decide) ⟨rfl, rfl, rfl, rfl⟩ (by decide) (fI_at hc.byt) (fun ad n cp e => by rw [fI_blk ad n cp e]; exact hc.nb)).mono ?_
    rintro e w' ⟨n, s', G', rfl, h2, hd, hf, hg⟩
    have ht := (Tr.new (M0 := 9) (by omega) js0 []).data (x := 2) (T := 4000) (by omega) K0_le (by omega) (by omega) hd.out
    rcases ht with ⟨h, _⟩ | ⟨_, _, _, h, _⟩ | ⟨_, rfl, h3, h4, _, h5⟩
    · cases h
    · exact absurd h (by decide)
    · exact ⟨rfl, G', s', h2.out, hc.step hf.out hg.out, .inr (.inl ⟨rfl, h3, h4, h5⟩)⟩
  · cases hm
  · cases hm
theorem FS.two_ (I : InI R) (h : FS R w p gk gb 1 V) : Calls Try.prog 23 #[jptr p, .agg (fCs gb)] V fun e w' => e = .returned (.int .i64 1) ∧ Hid (FS R w p gk gb 2 w') := by
  obtain ⟨G, s, h1, hc, hs⟩ := h
  rcases hs with ⟨hm, _⟩ | ⟨_, t1, t2, t3⟩ | ⟨hm, _⟩
  · cases hm
  · have hz : Jo.held s.js + fI.body.length ≤ 2000000000 := by
      obtain ⟨r, t3⟩ := t3
      have h1 := t3.held_le
      have h2 : Jo.held js0 = 0 := rfl
      have h3 : (pcOf true fI).body.length = 1 := rfl
      have h4 : fI.body.length = 1 := rfl
      omega
    refine (h1.data I rfl (by decide) ⟨rfl, rfl, rfl, rfl⟩ hz (fI_at hc.byt) (fun ad n cp e => by rw [fI_blk ad n cp e]; exact hc.nb)).mono ?_
    rintro e w' ⟨n, s', G', rfl, h2, hd, hf, hg⟩
    have ht := t1.data (x := 2) (T := 4000) (by omega) (one_le K0_le (by omega)) (by omega) (by omega) hd.out
    rcases ht with ⟨_, rfl, h3⟩ | ⟨h, _⟩ | ⟨h, _⟩
    · have a1 : s'.dups = [11] := by rw [h3, t2]; rfl
      have a2 : s'.js = s.js := by rw [h3]
      exact ⟨rfl, G', s', h2.out, hc.step hf.out hg.out, .inr (.inr ⟨rfl, t1.same (by rw [h3]) (by rw [h3]), a1, by rw [a2]; exact t3⟩)⟩
    · exact absurd h (by decide)
    · exact absurd h (by decide)
  · cases hm
theorem FS.grows (I : InI R) {V' : World} (h : FS R w p gk gb m V) (hb : Below V.heap.size V V') : FS R w p gk gb m V' := by
  obtain ⟨G, s, h1, hc, hs⟩ := h
  exact ⟨G, s, h1.grows I hb, ⟨blk_below hc.blk hb hc.blk.lt, (hc.byt.below hb).more hb.size, hc.nk, hc.nb, Nat.lt_of_lt_of_le hc.hb hb.size⟩, hs⟩
theorem FS.new (I : InI R) {G : Nat → Prop} {W3 : World} (h : I1 R w V G p true ⟨9, [], js0, []⟩)
    (hW : W3 = ((V.alloc (.cells #[.int .u8 120] 5 (1, 2))).alloc (.cells (ckArr (zeroC 0) nilV nilV nilV nilV nilV) 41)).setRow (V.alloc (.cells #[.int .u8 120] 5 (1, 2))).heap.size (fCs V.heap.size)) :
    FS R w p (V.alloc (.cells #[.int .u8 120] 5 (1, 2))).heap.size V.heap.size 0 W3 := by
  have hb1 := below_one V (.cells #[.int .u8 120] 5 (1, 2))
  have hy : Byt (V.alloc (.cells #[.int .u8 120] 5 (1, 2))) (V.alloc (.cells #[.int .u8 120] 5 (1, 2))).heap.size (some ⟨V.heap.size, 0, none⟩) [120] := byt_of_heap (heap_alloc_new V _) (by simp) rfl
  have hs1 := World.size_alloc V (.cells #[.int .u8 120] 5 (1, 2))
  obtain ⟨W2, hW2⟩ : ∃ W2, W2 = V.alloc (.cells #[.int .u8 120] 5 (1, 2)) := ⟨_, rfl⟩
  rw [← hW2] at hb1 hy hs1 hW ⊢
  have hb2 : Below W2.heap.size W2 W3 := by
    rw [hW]
    exact below_setRow (below_one W2 _) (Nat.le_refl _) _
  have hk : CkBlk W3 W2.heap.size (fCs V.heap.size) := by
    rw [hW]
    exact setRow_heap _ _ _ _ _ _ (Blk.new W2 _ _)
  refine ⟨G, _, h.grows I (hb1.trans (hb2.mono (by omega))), ⟨hk, (hy.below hb2).more hb2.size, fun hx => ?_, fun hx => ?_, ?_⟩, .inl ⟨rfl, rfl⟩⟩
  · have := I.lt h.rep _ hx; omega
  · have := I.lt h.rep _ hx; omega
  · have := hb2.size; omega
/-- What the set is then. -/
theorem two_rows {s : IS} (h : Tr 9 (one K0 2) s) : s.mark = 9 ∧ s.rs = [(2, 2)] := by
  obtain ⟨k, a1, a2, a3⟩ := h
  obtain ⟨rfl, e⟩ := Span.abs_inj (k := k) (k' := 0) (rs' := [(2, 2)]) a2 (Span.gp_one 2 (by omega)) (fun y hy => by
    rw [a3]
    unfold one K0 Span.absB
    rw [Span.one_kn, Bool.eq_iff_iff]
    simp
    omega)
  exact ⟨a1, e⟩
end
theorem wp_alloc_run {P : Program} (w : World) {o : Oper} {a : Act} {K : Act → World → Prop} {Q : Exit → Act → World → Prop} (t : TypeId) (ho : o.op = .alloc t) {v' : Value} {w' : World}
    (hr : (Instr.alloc t true (.tuple #[])).run P w = .ok v' w') (h : K (a.put o.dst v') w') : o.wp P a w K Q := by
  unfold Oper.wp execOp
  simp only [ho, Sem.run_bind, Sem.run_pure, Result.andThen_ok, hr]
  exact h
theorem wpList_alloc_run {P : Program} (w : World) {ops : Array Oper} {rest : List Oper} {o : Oper} {a : Act} {Q : Exit → Act → World → Prop} (hgd : o.guard = none) (t : TypeId) (ho : o.op = .alloc t) {v' : Value} {w' : World}
    (hr : (Instr.alloc t true (.tuple #[])).run P w = .ok v' w') (h : wpList P ops Q rest (a.put o.dst v') w') : wpList P ops Q (o :: rest) a w :=
  wpList_plain hgd fun _ hK => wp_alloc_run w t ho hr (hK _ _ h)
theorem run_alloc_agg {P : Program} {t : TypeId} {cs : Array Value} {n : Nat} (h : (P.info? t).map (fun i => (i.zero, i.size)) = some (some (.agg cs), n)) (w : World) :
    (Instr.alloc t true (.tuple #[])).run P w = .ok (.pointer (some ⟨w.heap.size, 0, none⟩)) (w.alloc (.cells cs t)) := by
  cases hq : P.info? t with
  | none => simp [hq] at h
  | some i =>
    have hz : (zeroValue t).run P w = .ok (.agg cs) w := by
      simp [hq] at h
      simp [zeroValue, typeInfo, hq, h.1]
    simp [Instr.alloc, hz, newVar, newRow, Value.cells]
theorem info_zk : (Try.prog.info? 41).map (fun i => (i.zero, i.size)) = some (some (.agg (ckArr (zeroC 0) nilV nilV nilV nilV nilV)), 19) := by kernel_rfl
theorem alloc_zk (w : World) : (Instr.alloc 41 true (.tuple #[])).run Try.prog w = .ok (.pointer (some ⟨w.heap.size, 0, none⟩)) (w.alloc (.cells (ckArr (zeroC 0) nilV nilV nilV nilV nilV) 41)) := run_alloc_agg info_zk w
theorem fCs_one (gb : Nat) : (fCs gb).all (·.oneCell') = true := by simp [fCs, ckArr, Value.oneCell']
set_option maxHeartbeats 8000000 in
set_option maxRecDepth 100000 in
theorem first_i {R : World → (Nat → Prop) → Nat → Bool → IS → Prop} (I : InI R) (w : World) : Calls Try.prog 20 #[] w fun e w' => e = .returned (.bool true) ∧ Below w.heap.size w w' := by
  go_enter Try.func20, Try.ntmps20
  go_wp2_with fail
  refine (I.new w 9 true (by omega)).mono ?_
  rintro e W1 ⟨G1, p, rfl, hr1, hg1, hb1⟩
  have H1 : Hid (I1 R w W1 G1 p true ⟨9, [], js0, []⟩) := ⟨hr1, hg1, hb1⟩
  clear hr1 hg1 hb1
  have kc := fun (w : World) (C : Array Value) (n c : Nat) => Lib.run_convert_bytes_const (P := Try.prog) w 39 5 C n c Try.underlying39 Try.underlying5
  go_upto_region 5 with (first
    | (refine wpList_build_as rfl 41 _ rfl (fCs W1.heap.size) (built_fI _) ?_)
    | (with_reducible refine wpList_alloc_run _ rfl 41 rfl (alloc_zk _) ?_)
    | (refine wpList_store_row rfl 41 _ _ rfl _ (fCs W1.heap.size) rfl rfl 41 (ckArr (zeroC 0) nilV nilV nilV nilV nilV) (Blk.new _ _ _) rfl rfl (fCs_one _) ?_))
  obtain ⟨W3, hW3⟩ : ∃ W3, W3 = ((W1.alloc (.cells #[.int .u8 120] 5 (1, 2))).alloc (.cells (ckArr (zeroC 0) nilV nilV nilV nilV nilV) 41)).setRow (W1.alloc (.cells #[.int .u8 120] 5 (1, 2))).heap.size (fCs W1.heap.size) := ⟨_, rfl⟩
  have hf0 := FS.new I H1.out hW3
  rw [← hW3]
  obtain ⟨gk, hgk⟩ : ∃ gk, gk = (W1.alloc (.cells #[.int .u8 120] 5 (1, 2))).heap.size := ⟨_, rfl⟩
  obtain ⟨gb, hgb⟩ : ∃ gb, gb = W1.heap.size := ⟨_, rfl⟩
  simp only [Act.put, List.setIfInBounds_toArray, List.set_cons_zero, List.set_cons_succ]
  rw [← hgk, ← hgb] at hf0
  have HF0 : Hid (FS R w p gk gb 0 W3.drew) := hf0.grows I (Below.drew (Below.refl _ _))
  rw [← hgk, ← hgb]
  clear hW3 hgk hgb hf0 H1
  refine wp_region_stage (fun _ _ => True) (fun m V => Hid (FS R w p gk gb m V)) [(false, .exact (jptr p)),
      (false, .exact (.agg (fCs gb))),
      (true, .exact (.int .i64 0)),
      (false, .exact (jptr p)),
      (false, .exact (.agg (fCs gb))),
      (true, .exact (.int .i64 1)),
      (false, .exact (.int .i64 0)),
      (false, .exact (.int .i64 1))] (by kernel_rfl) (by kernel_rfl) (by kernel_rfl) rfl ?lasts ?start ?walk
  case lasts => exact trivial
  case start => exact HF0
  case walk =>
    refine stage_pure rfl (fun _ => trivial) (fun V m hS hl => by go_simp) ?_
    simp only [Act.put, List.setIfInBounds_toArray, List.set_cons_zero, List.set_cons_succ, List.cons_append, List.nil_append]
    refine stage_pure rfl (fun _ => trivial) (fun V m hS hl => by
        have hb := hS.out.blk
        exact exec_load_any rfl rfl (fun j u hu => by rw [hb.cellAdd]; exact hu) Try.underlying41 rfl chunk_info) ?_
    simp only [Act.put, List.setIfInBounds_toArray, List.set_cons_zero, List.set_cons_succ, List.cons_append, List.nil_append]
    refine stage_move rfl (fun V hS hl => by
        go_simp
        refine (hS.out.one_ I).mono ?_
        rintro e V' ⟨rfl, h⟩
        exact ⟨_, rfl, rfl, h⟩) ?_
    simp only [Act.put, List.setIfInBounds_toArray, List.set_cons_zero, List.set_cons_succ, List.cons_append, List.nil_append]
    refine stage_pure rfl (fun _ => trivial) (fun V m hS hl => by go_simp) ?_
    simp only [Act.put, List.setIfInBounds_toArray, List.set_cons_zero, List.set_cons_succ, List.cons_append, List.nil_append]
    refine stage_pure rfl (fun _ => trivial) (fun V m hS hl => by
        have hb := hS.out.blk
        exact exec_load_any rfl rfl (fun j u hu => by rw [hb.cellAdd]; exact hu) Try.underlying41 rfl chunk_info) ?_
    simp only [Act.put, List.setIfInBounds_toArray, List.set_cons_zero, List.set_cons_succ, List.cons_append, List.nil_append]
    refine stage_move rfl (fun V hS hl => by
        go_simp
        refine (hS.out.two_ I).mono ?_
        rintro e V' ⟨rfl, h⟩
        exact ⟨_, rfl, rfl, h⟩) ?_
    simp only [Act.put, List.setIfInBounds_toArray, List.set_cons_zero, List.set_cons_succ, List.cons_append, List.nil_append]
    refine stage_pure rfl (fun _ => trivial) (fun V m hS hl => by go_simp) ?_
    simp only [Act.put, List.setIfInBounds_toArray, List.set_cons_zero, List.set_cons_succ, List.cons_append, List.nil_append]
    refine stage_pure rfl (fun _ => trivial) (fun V m hS hl => by go_simp) ?_
    simp only [Act.put, List.setIfInBounds_toArray, List.set_cons_zero, List.set_cons_succ, List.cons_append, List.nil_append]
    refine stage_nil (fun V2 hS hF => ?_)
    obtain ⟨G4, s4, h4, hc4, hs4⟩ := hS.out
    have hs5 : Tr 9 (one K0 2) s4 ∧ s4.dups = [11] ∧ ∃ r, Jo.PutR true js0 (pcOf true fI) r s4.js := by
      rcases hs4 with ⟨e, _⟩ | ⟨e, _⟩ | ⟨_, h⟩
      · cases e
      · cases e
      · exact h
    obtain ⟨ht, hd, r, hp⟩ := hs5
    obtain ⟨hm, hr⟩ := two_rows ht
    have HRD : Hid (s4.js.ready = [Jo.msgOf [pcOf true fI]]) := (hp.one rfl rfl rfl rfl (fun _ => rfl) (by decide) rfl rfl (by decide)).2.2.2.1
    have H4 := Lib.hid h4
    have HMK := Lib.hid hm
    have HRS := Lib.hid hr
    have HDU := Lib.hid hd
    clear h4 hc4 hs4 ht hd hp hm hr hS hF HF0
    go_wp2_with fail
    refine (H4.out.sack I).mono ?_
    rintro e W5 ⟨cs, c, G5, rfl, HAT, HTS, HWN, HGP, HDP, H5, HFS⟩
    have hcs : cs.size = 19 := HAT.out.size
    have HS1 : Hid ((Try.prog.info? 41).map (·.size) = some cs.size) := by rw [hcs]; exact chunk_info
    have HS2 : Hid ((ckArr (zeroC 0) nilV nilV nilV nilV nilV).size = cs.size) := by rw [hcs]; rfl
    go_upto_region 7 with (first
      | (with_reducible refine wpList_alloc_run _ rfl 41 rfl (alloc_zk _) ?_)
      | (refine wpList_store_row rfl 41 _ _ rfl _ cs rfl rfl 41 (ckArr (zeroC 0) nilV nilV nilV nilV nilV) (Blk.new _ _ _) HS1.out HS2.out HAT.out.one ?_))
    simp only [Act.put, List.setIfInBounds_toArray, List.set_cons_zero, List.set_cons_succ]
    obtain ⟨W6, hW6⟩ : ∃ W6, W6 = (W5.alloc (.cells (ckArr (zeroC 0) nilV nilV nilV nilV nilV) 41)).setRow W5.heap.size cs := ⟨_, rfl⟩
    obtain ⟨gs, hgs⟩ : ∃ gs, gs = W5.heap.size := ⟨_, rfl⟩
    have hb6 : Below W5.heap.size W5 W6 := by rw [hW6]; exact below_setRow (below_one W5 _) (Nat.le_refl _) _
    have HK6 : Hid (CkBlk W6 gs cs) := by rw [hW6, hgs]; exact setRow_heap _ _ _ _ _ _ (Blk.new W5 _ _)
    have H6 := Lib.hid (H5.out.grows I hb6)
    have HNG : Hid (¬ G5 gs) := fun hx => by have := I.lt H5.out.rep _ hx; omega
    rw [← hW6, ← hgs]
    clear hW6 hgs hb6 hcs HS1 HS2 H4 H5 HFS
    go_wp2_with fail
    refine (H6.out.take I).mono ?_
    rintro e W7 ⟨m, A, n, cp, t, j, G7, rfl, H7, HT, HN, hn1, hn2, HY, HAP, HF7⟩
    have ht : t = true ∧ m.body = [120] := by
      obtain ⟨_, _, _, _, h5⟩ := HT.out
      have h6 : s4.js.ready = [Jo.msgOf [pcOf true fI]] := HRD.out
      rcases h5 with ⟨h5, _⟩ | ⟨h5, h7⟩
      · have h5' : s4.js.ready = [] := h5
        rw [h6] at h5'; cases h5'
      · have h5' : s4.js.ready[0]? = some (msOf m) := h5
        rw [h6] at h5'
        injection h5' with h5'
        refine ⟨h7, ?_⟩
        have : (msOf m).body = (Jo.msgOf [pcOf true fI]).body := by rw [← h5']
        exact this
    obtain ⟨rfl, hb⟩ := ht
    have hnn : n = 1 := by have := HN.out; rw [hb] at this; exact this
    subst hnn
    obtain ⟨y1, y2, y3, y4, y5⟩ := m
    simp only at hb
    subst hb
    have HY7 : Hid (Byt W7 W7.heap.size A [120]) := HY
    have HK7 : Hid (CkBlk W7 gs cs) := HF7.out.blk HK6.out HNG.out
    clear HT HN HY HF7 HK6 H6 HRD HNG
    simp only [mCells]
    go_upto_region 8 with (fail)
    obtain ⟨W8, hW8⟩ : ∃ W8, W8 = W7.alloc (.cells #[.int .u16 (y1 : Int), .bool y2, .int .u32 (y3 : Int), .int .u32 (y4 : Int), .slice A 1 cp] 43) := ⟨_, rfl⟩
    obtain ⟨gm, hgm⟩ : ∃ gm, gm = W7.heap.size := ⟨_, rfl⟩
    have hb8 : Below W7.heap.size W7 W8 := by rw [hW8]; exact below_one _ _
    have H8 := Lib.hid (H7.out.grows I hb8)
    have HM8 : Hid (Blk W8 gm 43 #[.int .u16 (y1 : Int), .bool y2, .int .u32 (y3 : Int), .int .u32 (y4 : Int), .slice A 1 cp]) := by rw [hW8, hgm]; exact Blk.new _ _ _
    have HY8 : Hid (Byt W8 W8.heap.size A [120]) := (HY7.out.below hb8).more hb8.size
    have HNP : Hid (gm ≠ p) := fun e => by have := I.lt H7.out.rep _ (I.self H7.out.rep); omega
    obtain ⟨g, d, s0, p0, b0, C, _⟩ := HAT.out.parts
    have hk8 := blk_below HK7.out hb8 HK7.out.lt
    have hg1 : c.gaps.length = 1 := by rw [HGP.out]; show (s4.rs.take 32).length = 1; rw [HRS.out]; rfl
    have hd1 : c.dups.length = 1 := by
      have e : (c.dups.map fun d : Nat => (d : Int)).length = 1 := by rw [HDP.out]; show s4.dups.length = 1; rw [HDU.out]; rfl
      rwa [List.length_map] at e
    have hts : (c.tsn : Int) = 9 := by rw [HTS.out]; exact HMK.out
    have k5 : W8.cell? ⟨gs, 5, none⟩ = some (.int .u32 9) := by rw [hk8.cell 5, C.c5, hts]
    have k14 : W8.cell? ⟨gs, 14, none⟩ = some (.slice g.A 1 g.cap) := by rw [hk8.cell 14, C.c14, hg1]
    have k15 : W8.cell? ⟨gs, 15, none⟩ = some (.slice d.A 1 d.cap) := by rw [hk8.cell 15, C.c15, hd1]
    have HMM : Hid (s4.mark = 9) := HMK.out
    rw [← hW8, ← hgm]
    clear hW8 hgm hb8 H7 HY7 HK7 hk8 hg1 hd1 hts C HAT HTS HWN HGP HDP HMK HRS HDU
    go_wp2_with fail
    refine (H8.out.sack I).mono ?_
    rintro e W9 ⟨cs2, c2, G9, rfl, HAT2, _, _, _, HDP2, H9, HF9⟩
    obtain ⟨_, g2, d2, s2, p2, b2, rfl, _⟩ := HAT2.out
    have hd2 : c2.dups.length = 0 := by
      have e : (c2.dups.map fun d : Nat => (d : Int)).length = 0 := by rw [HDP2.out]; rfl
      rwa [List.length_map] at e
    have f15 : ∀ W, (Instr.field 41 (.agg (ckArr c2 (g2.v c2.gaps.length) (d2.v 0) (s2.v c2.skips.length) (p2.v c2.ps.length) (b2.v c2.body.length))) 15).run Try.prog W = .ok (.slice d2.A 0 d2.cap) W := fun _ => by kernel_rfl
    rw [hd2]
    simp only [ckArr, Hd.v] at f15 ⊢
    have k4 : W9.cell? ⟨gm, 4, none⟩ = some (.slice A 1 cp) := (HF9.out.blk HM8.out HNP.out).cell 4
    have hy9 : Byt W9 W9.heap.size A [120] := (HF9.out.byt HY8.out (Nat.le_refl _) (fun x e => HAP.out (by trivial) x e)).more HF9.out.size
    have hcv := run_str (P := Try.prog) hy9 39 9 5 Try.underlying39 Try.underlying5 Try.underlying9 1 cp rfl
    clear hd2 HDP2 H8 HF9 k5 k14 k15 hy9
    go_wp2_with fail
    refine (H9.out.mark I).mono ?_
    rintro e W10 ⟨rfl, H10⟩
    have hm9 : (IS.mark { mark := s4.mark, rs := s4.rs, js := j, dups := [] }) = 9 := HMM.out
    go_wp2_with fail
    go_ret
    exact ⟨rfl, H10.out.bel⟩
end Go.Proofs.Ytioddokjogbmnaa.In

set_option linter.unusedVariables false
set_option linter.unusedSimpArgs false
set_option maxRecDepth 20000
namespace Go.Proofs.Ytioddokjogbmnaa.In
open Go.ChangeShapes Go.WideShapes Go.ChangeAt Go.RowKit Go.Deep Go.Proofs.Ytioddokjogbmnaa.Words Go.Proofs.Ytioddokjogbmnaa.Oct Go.Proofs.Ytioddokjogbmnaa.Par Go.Proofs.Ytioddokjogbmnaa.Chk
/-- A fragment that begins a message. -/
def inC (kd : Nat) (en lo : Bool) (st tn : Nat) (b : List UInt8) : Ck := { zeroC kd with bg := true, en := en, lo := lo, st := st, tsn := tn, body := b }
theorem inC_ok {kd : Nat} {en lo : Bool} {st tn : Nat} {b : List UInt8} (hk : kd < 256) (hs : st < 65536) (ht : tn < 4294967296) : (inC kd en lo st tn b).ok :=
  ⟨hk, ht, hs, (by decide : 0 < 4294967296), (by decide : 0 < 4294967296), (by decide : 0 < 4294967296), (by decide : 0 < 4294967296), (by decide : 0 < 4294967296), (by decide : 0 < 65536), (by decide : 0 < 65536), fun _ h => by simp [inC, zeroC] at h, fun _ h => by simp [inC, zeroC] at h, fun _ h => by simp [inC, zeroC] at h, fun _ h => by simp [inC, zeroC] at h⟩
theorem inC_bare {kd : Nat} {en lo : Bool} {st tn : Nat} {b : List UInt8} : Bare (inC kd en lo st tn b) := ⟨rfl, rfl, rfl, rfl⟩
abbrev inA (kd : Nat) (en lo : Bool) (st tn : Nat) (b : List UInt8) (gb cp : Nat) : Array Value := ckArr (inC kd en lo st tn b) nilV nilV nilV nilV (.slice (some ⟨gb, 0, none⟩) b.length cp)
section
variable {R : World → (Nat → Prop) → Nat → Bool → IS → Prop} {w V V' : World} {G G' : Nat → Prop} {p gb cp : Nat} {inter : Bool} {s s' : IS}
theorem inA_at {kd : Nat} {en lo : Bool} {st tn : Nat} {b : List UInt8} (hk : kd < 256) (hs : st < 65536) (ht : tn < 4294967296) (hc : b.length ≤ cp) (hc2 : cp ≤ 9223372036854775807) (h : Byt V V.heap.size (some ⟨gb, 0, none⟩) b) : CkAt V V.heap.size (inA kd en lo st tn b gb cp) (inC kd en lo st tn b) :=
  ck_body (inC_ok hk hs ht) rfl rfl rfl rfl rfl hc hc2 h
theorem inA_blk {kd : Nat} {en lo : Bool} {st tn : Nat} {b : List UInt8} (ad : Addr) (n cp' : Nat) (h : (inA kd en lo st tn b gb cp)[18]? = some (.slice (some ad) n cp')) : ad.block = gb := by
  have e : (some (Value.slice (some ⟨gb, 0, none⟩) b.length cp) : Option Value) = some (.slice (some ad) n cp') := h
  injection e with e
  injection e with e _ _
  injection e with e
  subst e
  rfl
/-- A fragment is put whose body lies in a new block. -/
theorem I1.give (I : InI R) (h : I1 R w V G p inter s) (hb : Below V.heap.size V V') (hg : V.heap.size ≤ gb) {kd : Nat} {en lo : Bool} {st tn : Nat} {b : List UInt8} (hy : Byt V' V'.heap.size (some ⟨gb, 0, none⟩) b) (hc : b.length ≤ cp) (hc2 : cp ≤ 9223372036854775807) (hk : kd = (if inter = true then 64 else 0)) (hs : st < 65536) (ht : tn < 4294967296) (hbe : b ≠ []) (hz : Jo.held s.js + b.length ≤ 2000000000) :
    Calls Try.prog 23 #[jptr p, .agg (inA kd en lo st tn b gb cp)] V' fun e w' => ∃ (n : Int) (s' : IS) (G' : Nat → Prop), e = .returned (.int .i64 n) ∧ Hid (I1 R w w' G' p inter s') ∧ Hid (DataR inter s (tn : Int) (pcOf inter (inC kd en lo st tn b)) n s') ∧ Hid (Fr G V' w') ∧ Hid (∀ i, G' i → G i ∨ V'.heap.size ≤ i) := by
  have hkd : kd < 256 := by rw [hk]; split <;> omega
  exact (h.grows I hb).data I hk hbe inC_bare hz (inA_at hkd hs ht hc hc2 hy) (fun ad n cp' e hx => by
    rw [inA_blk ad n cp' e] at hx
    have := I.lt h.rep _ hx
    omega)
theorem byt_new (V : World) (o : Array Value) (t : TypeId) (fr : Nat × Nat) (l : List UInt8) (h : o.toList.take l.length = u8s l) : Byt (V.alloc (.cells o t fr)) (V.alloc (.cells o t fr)).heap.size (some ⟨V.heap.size, 0, none⟩) l :=
  byt_of_heap (heap_alloc_new V _) (by simp) h
theorem adr_nat (M : Int) (x : Nat) : ((Span.adr M x).toNat : Int) = Span.adr M x ∧ (Span.adr M x).toNat < 4294967296 := by
  have := Span.adr_bd M x
  omega
theorem adr_inj {M : Int} {a b : Nat} (hM : 0 ≤ M ∧ M ≤ 4294967295) (ha : a < 4294967296) (hb : b < 4294967296) (h : Span.adr M a = Span.adr M b) : a = b := by
  unfold Span.adr at h
  omega
theorem wpList_build_6 {P : Program} {ops : Array Oper} {rest : List Oper} {o : Oper} {a : Act} {w : World} {Q : Exit → Act → World → Prop} (hg : o.guard = none) (t : TypeId) {x0 x5 x1 x2 x3 x18 : Operand} (ho : o.op = .build t #[(0, x0), (5, x5), (1, x1), (2, x2), (3, x3), (18, x18)]) (v0 v5 v1 v2 v3 v18 : Value)
    (h0 : a.eval x0 = v0) (h5 : a.eval x5 = v5) (h1 : a.eval x1 = v1) (h2 : a.eval x2 = v2) (h3 : a.eval x3 = v3) (h18 : a.eval x18 = v18) (cells : Array Value)
    (hf : P.built t [(0, v0), (5, v5), (1, v1), (2, v2), (3, v3), (18, v18)] = some cells) (h : wpList P ops Q rest (a.put o.dst (.agg cells)) w) : wpList P ops Q (o :: rest) a w := by
  subst h0 h5 h1 h2 h3 h18
  exact wpList_build_as hg t _ ho cells (by simpa using hf) h
theorem built_6 (kd tn : Nat) (b : UInt8) (A : Option Addr) {e : Int} (h : e = (tn : Int)) : Try.prog.built 41 [(0, .int .u8 (kd : Int)), (5, .int .u32 e), (1, .bool true), (2, .bool true), (3, .bool true), (18, .slice A 1 1)] = some (ckArr (inC kd true true 0 tn [b]) nilV nilV nilV nilV (.slice A 1 1)) := by subst h; kernel_rfl
theorem wpList_build_4 {P : Program} {ops : Array Oper} {rest : List Oper} {o : Oper} {a : Act} {w : World} {Q : Exit → Act → World → Prop} (hg : o.guard = none) (t : TypeId) {x0 x5 x1 x18 : Operand} (ho : o.op = .build t #[(0, x0), (5, x5), (1, x1), (18, x18)]) (v0 v5 v1 v18 : Value)
    (h0 : a.eval x0 = v0) (h5 : a.eval x5 = v5) (h1 : a.eval x1 = v1) (h18 : a.eval x18 = v18) (cells : Array Value)
    (hf : P.built t [(0, v0), (5, v5), (1, v1), (18, v18)] = some cells) (h : wpList P ops Q rest (a.put o.dst (.agg cells)) w) : wpList P ops Q (o :: rest) a w := by
  subst h0 h5 h1 h18
  exact wpList_build_as hg t _ ho cells (by simpa using hf) h
theorem built_4 (kd tn : Nat) (b : UInt8) (A : Option Addr) {e : Int} (h : e = (tn : Int)) : Try.prog.built 41 [(0, .int .u8 (kd : Int)), (5, .int .u32 e), (1, .bool true), (18, .slice A 1 1)] = some (ckArr (inC kd false false 0 tn [b]) nilV nilV nilV nilV (.slice A 1 1)) := by subst h; kernel_rfl
/-- A forward without rows of skips. -/
def fwC (kd tn : Nat) : Ck := { zeroC kd with tsn := tn }
abbrev fwA (kd tn : Nat) : Array Value := ckArr (fwC kd tn) nilV nilV nilV nilV nilV
theorem fwA_at {kd tn : Nat} (hk : kd < 256) (ht : tn < 4294967296) : CkAt V V.heap.size (fwA kd tn) (fwC kd tn) :=
  ⟨⟨hk, ht, (by decide : 0 < 65536), (by decide : 0 < 4294967296), (by decide : 0 < 4294967296), (by decide : 0 < 4294967296), (by decide : 0 < 4294967296), (by decide : 0 < 4294967296), (by decide : 0 < 65536), (by decide : 0 < 65536), fun _ h => by simp [fwC, zeroC] at h, fun _ h => by simp [fwC, zeroC] at h, fun _ h => by simp [fwC, zeroC] at h, fun _ h => by simp [fwC, zeroC] at h⟩,
    ⟨none, 0⟩, ⟨none, 0⟩, ⟨none, 0⟩, ⟨none, 0⟩, ⟨none, 0⟩, rfl, ⟨Nat.le_refl _, by simp⟩, ⟨Nat.le_refl _, by simp⟩, ⟨Nat.le_refl _, by simp⟩, ⟨Nat.le_refl _, by simp⟩, ⟨Nat.le_refl _, by simp⟩, Reads.none_, Reads.none_, Reads.none_, Ps.nil _ _ _, Reads.none_⟩
theorem built_fw (kd tn : Nat) {e : Int} (h : e = (tn : Int)) : Try.prog.built 41 [(0, .int .u8 (kd : Int)), (5, .int .u32 e)] = some (fwA kd tn) := by subst h; kernel_rfl
theorem wpList_build_2 {P : Program} {ops : Array Oper} {rest : List Oper} {o : Oper} {a : Act} {w : World} {Q : Exit → Act → World → Prop} (hg : o.guard = none) (t : TypeId) {x0 x5 : Operand} (ho : o.op = .build t #[(0, x0), (5, x5)]) (v0 v5 : Value)
    (h0 : a.eval x0 = v0) (h5 : a.eval x5 = v5) (cells : Array Value) (hf : P.built t [(0, v0), (5, v5)] = some cells) (h : wpList P ops Q rest (a.put o.dst (.agg cells)) w) : wpList P ops Q (o :: rest) a w := by
  subst h0 h5
  exact wpList_build_as hg t _ ho cells (by simpa using hf) h
/-- For IntakeForwards: an intake that knows some numbers up to 255 after its first mark. -/
def FwS (R : World → (Nat → Prop) → Nat → Bool → IS → Prop) (w : World) (M0 : Int) (p i : Nat) (V : World) : Prop :=
  ∃ G s K, I1 R w V G p true s ∧ Tr M0 K s ∧ (∀ y, K y = true → y ≤ 255) ∧ Jo.held s.js ≤ i
theorem FwS.bel {M0 : Int} {i : Nat} (h : FwS R w M0 p i V) : Below w.heap.size w V := by obtain ⟨G, s, K, h, _⟩ := h; exact h.bel
theorem FwS.put (I : InI R) {M0 : Int} (hM : 0 ≤ M0 ∧ M0 ≤ 4294967295) {i d : Nat} (h : FwS R w M0 p i V) (hi : i ≤ 100) (hd : d ≤ 255) {b : UInt8} {cs : Array Value} {tt : TypeId} {fr : Nat × Nat} (hcs : cs.toList.take 1 = u8s [b]) :
    Calls Try.prog 23 #[jptr p, .agg (inA 64 true true 0 (Span.adr M0 d).toNat [b] V.heap.size 1)] (V.alloc (.cells cs tt fr)) fun e w' => ∃ n, e = .returned (.int .i64 n) ∧ Hid (FwS R w M0 p (i + 1) w') := by
  obtain ⟨G, s, K, h1, h2, h3, h4⟩ := h
  obtain ⟨a1, a2⟩ := adr_nat M0 d
  refine (h1.give I (below_one V _) (Nat.le_refl _) (byt_new V cs tt fr [b] hcs) (by simp) (by simp) rfl (by decide) a2 (by simp) (by simp only [List.length_cons, List.length_nil]; omega)).mono ?_
  rintro e w' ⟨n, s', G', rfl, h5, h6, _, _⟩
  have h6 := h6.out
  rw [a1] at h6
  rcases h2.data hM h3 (by omega) (x := d) (by omega) h6 with ⟨_, _, rfl⟩ | ⟨_, _, rfl, _⟩ | ⟨_, _, g1, g2, _, r, g3⟩
  · exact ⟨n, rfl, G', _, K, h5.out, h2.same rfl rfl, h3, Nat.le_succ_of_le h4⟩
  · exact ⟨n, rfl, G', _, K, h5.out, h2, h3, Nat.le_succ_of_le h4⟩
  · refine ⟨n, rfl, G', _, one K d, h5.out, g1, one_le h3 (by omega), ?_⟩
    have h7 : Jo.held s'.js ≤ Jo.held s.js + 1 := g3.held_le
    omega
theorem FwS.new (I : InI R) {M0 : Int} (hM : 0 ≤ M0 ∧ M0 ≤ 4294967295) (h : I1 R w V G p true ⟨M0, [], js0, []⟩) : FwS R w M0 p 0 V :=
  ⟨G, _, _, h, Tr.new hM js0 [], fun y hy => by have := of_decide_eq_true hy; omega, Nat.le_refl _⟩
/-- Behind the forward. -/
def FwD (R : World → (Nat → Prop) → Nat → Bool → IS → Prop) (w : World) (M0 : Int) (p x k' : Nat) (V : World) : Prop :=
  ∃ G s K, I1 R w V G p true s ∧ Tr M0 K s ∧ (∀ y, K y = true → y ≤ 255) ∧ Jo.held s.js ≤ 2000 ∧ s.mark = Span.adr M0 k' ∧ K x = true ∧ x ≤ k' ∧ k' ≤ 255
theorem FwS.mark (I : InI R) {M0 : Int} {i : Nat} (h : FwS R w M0 p i V) : ∃ k, k ≤ 255 ∧ Calls Try.prog 26 #[jptr p] V fun e w' => e = .returned (.int .u32 (Span.adr M0 k)) ∧ Hid (∃ G s K, I1 R w w' G p true s ∧ Tr M0 K s ∧ (∀ y, K y = true → y ≤ 255) ∧ Jo.held s.js ≤ i ∧ s.mark = Span.adr M0 k) := by
  obtain ⟨G, s, K, h1, h2, h3, h4⟩ := h
  obtain ⟨k, k1, k2, _, _⟩ := h2.at_ h3
  refine ⟨k, k2, (h1.mark I).mono ?_⟩
  rintro e w' ⟨rfl, h5⟩
  exact ⟨by rw [k1], G, s, K, h5.out, h2, h3, h4, k1⟩
theorem Fw_forw (I : InI R) {M0 : Int} (hM : 0 ≤ M0 ∧ M0 ≤ 4294967295) {i k x : Nat} (hi : i ≤ 2000) (hx : x ≤ 255) (hk : k ≤ 255) (h : ∃ G s K, I1 R w V G p true s ∧ Tr M0 K s ∧ (∀ y, K y = true → y ≤ 255) ∧ Jo.held s.js ≤ i ∧ s.mark = Span.adr M0 k) :
    Calls Try.prog 27 #[jptr p, .agg (fwA 194 (Span.adr M0 x).toNat)] V fun e w' => e = .returned (.bool (decide (k < x))) ∧ ∃ k', Hid (FwD R w M0 p x k' w') ∧ Hid (k < x ∨ k' = k) ∧ k' ≤ 255 ∧ x ≤ k' := by
  obtain ⟨G, s, K, h1, h2, h3, h4, h5⟩ := h
  obtain ⟨a1, a2⟩ := adr_nat M0 x
  refine (h1.forw I rfl rfl (fwA_at (by decide) a2)).mono ?_
  rintro e w' ⟨b, s', G', rfl, g1, g2⟩
  have g2 : ForwR s (((Span.adr M0 x).toNat : Nat) : Int) b s' := g2.out
  rw [a1] at g2
  obtain ⟨K', k0, k', c1, c2, c3, c4, c5, c6, c7, c8, c9, c10⟩ := h2.forw hM h3 (by omega) (x := x) (by omega) g2
  obtain rfl : k0 = k := adr_inj hM (by omega) (by omega) (c2.symm.trans h5)
  have hjs : s'.js = s.js := by
    rcases g2 with ⟨_, _, e⟩ | ⟨_, _, e, _⟩
    · rw [e]
    · exact e
  refine ⟨by rw [c4], k', ⟨G', s', K', g1.out, c1, c9, ?_, c3, c10, c7, c6⟩, ?_, c6, c7⟩
  · rw [hjs]; omega
  · cases b
    · have e := c8 rfl
      refine .inr (adr_inj hM (by omega) (by omega) ?_)
      rw [← c3, e, c2]
    · exact .inl (of_decide_eq_true c4.symm)
theorem FwD.mark (I : InI R) {M0 : Int} {x k' : Nat} (h : FwD R w M0 p x k' V) : Calls Try.prog 26 #[jptr p] V fun e w' => e = .returned (.int .u32 (Span.adr M0 k')) ∧ Hid (FwD R w M0 p x k' w') := by
  obtain ⟨G, s, K, h1, h2, h3, h4, h5, h6⟩ := h
  refine (h1.mark I).mono ?_
  rintro e w' ⟨rfl, h7⟩
  exact ⟨by rw [h5], G, s, K, h7.out, h2, h3, h4, h5, h6⟩
theorem FwD.ex {M0 : Int} {x k' : Nat} (h : FwD R w M0 p x k' V) : ∃ G s K, I1 R w V G p true s ∧ Tr M0 K s ∧ (∀ y, K y = true → y ≤ 255) ∧ Jo.held s.js ≤ 2000 ∧ s.mark = Span.adr M0 k' := by
  obtain ⟨G, s, K, h1, h2, h3, h4, h5, _⟩ := h
  exact ⟨G, s, K, h1, h2, h3, h4, h5⟩
theorem FwD.bel {M0 : Int} {x k' : Nat} (h : FwD R w M0 p x k' V) : Below w.heap.size w V := by obtain ⟨G, s, K, h, _⟩ := h; exact h.bel
/-- What counts as come is told as come twice. -/
theorem FwD.twice (I : InI R) {M0 : Int} (hM : 0 ≤ M0 ∧ M0 ≤ 4294967295) {x k' : Nat} (h : FwD R w M0 p x k' V) {b : UInt8} {cs : Array Value} {tt : TypeId} {fr : Nat × Nat} (hcs : cs.toList.take 1 = u8s [b]) :
    Calls Try.prog 23 #[jptr p, .agg (inA 64 false false 0 (Span.adr M0 x).toNat [b] V.heap.size 1)] (V.alloc (.cells cs tt fr)) fun e w' => e = .returned (.int .i64 1) ∧ Hid (FwD R w M0 p x k' w') := by
  obtain ⟨G, s, K, h1, h2, h3, h4, h5, h6, h7, h8⟩ := h
  obtain ⟨a1, a2⟩ := adr_nat M0 x
  refine (h1.give I (below_one V _) (Nat.le_refl _) (byt_new V cs tt fr [b] hcs) (by simp) (by simp) rfl (by decide) a2 (by simp) (by simp only [List.length_cons, List.length_nil]; omega)).mono ?_
  rintro e w' ⟨n, s', G', rfl, g5, g6, _, _⟩
  have g6 := g6.out
  rw [a1] at g6
  rcases h2.data hM h3 (by omega) (x := x) (by omega) g6 with ⟨_, rfl, rfl⟩ | ⟨e1, _⟩ | ⟨e1, _⟩
  · exact ⟨rfl, G', _, K, g5.out, h2.same rfl rfl, h3, h4, h5, h6, h7, h8⟩
  · rw [h6] at e1; cases e1
  · rw [h6] at e1; cases e1
theorem FwD.other (I : InI R) {M0 : Int} {x k' tn : Nat} (ht : tn < 4294967296) (h : FwD R w M0 p x k' V) : Calls Try.prog 27 #[jptr p, .agg (fwA 192 tn)] V fun e w' => e = .returned (.bool false) ∧ Hid (Below w.heap.size w w') := by
  obtain ⟨G, s, K, h1, _⟩ := h
  refine (I.other h1.rep (c := fwC 192 tn) (by simp [fwC, zeroC]) (fwA_at (by decide) ht)).mono ?_
  rintro e w' ⟨rfl, hb⟩
  exact ⟨rfl, h1.bel.trans (hb.mono h1.bel.size)⟩
end
end Go.Proofs.Ytioddokjogbmnaa.In
