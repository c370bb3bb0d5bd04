/-
  Of the texts FlPo: what the laws reach.
-/
import Derived.Test.YteobobodangbgaaFA4

set_option linter.unusedVariables false
set_option linter.unusedSimpArgs false
namespace Go.Proofs.Yteobobodangbgaa.Fl
open Go.ChangeShapes Go.WideShapes Go.ChangeAt Go.RowKit Go.Deep Go.Proofs.Yteobobodangbgaa.Words Go.Proofs.Yteobobodangbgaa.Oct Go.Proofs.Yteobobodangbgaa.Par Go.Proofs.Yteobobodangbgaa.Chk
def strP (k : Nat) : Nat := k / 4 % 4
def looP (k : Nat) : Bool := decide (k / 16 % 2 = 1)
def stayP (k : Nat) : Bool := decide (k % 4 = 0)
def atP (k : Nat) : Nat := 2 * strP k + (if looP k = true then 1 else 0)
theorem atP_lt (k : Nat) : atP k < 8 := by unfold atP strP; split <;> omega
def lineP (k : Nat) : Ln := (strP k, looP k)
/-- A flight of pieces, each of a message of its own: one in four stays. -/
structure PoS (ks : List Nat) (s : FS) : Prop where
  fresh : s.fresh = true
  gone : ∀ x, s.gone x = false
  mark : s.mark = 99
  ms : s.ms.length = ks.length
  len : s.ps.length = ks.length
  at_ : ∀ (i : Nat) q, s.ps[i]? = some q → q.m = (i : Int) ∧ q.st = 0 ∧ ∃ k, ks[i]? = some k ∧ q.lk = (if stayP k = true then 0 else 2) ∧ q.ln = (if stayP k = true then 0 else 5) ∧ q.c.st = strP k ∧ q.c.lo = looP k ∧ q.c.mid = i
/-- What the law has noted: up to where, whether anything, the latest of each line. -/
structure PoW (N : Nat) (ks : List Nat) (en : Nat) (fd : Bool) (L : Nat → Nat) : Prop where
  le : en ≤ N
  en_ : (en < ks.length ∧ ∃ k, ks[en]? = some k ∧ stayP k = true) ∨ (en = N ∧ ks.length ≤ N)
  no : ∀ (j : Nat) k, j < en → ks[j]? = some k → stayP k = false
  fd : fd = decide (0 < min en ks.length)
  la : ∀ x, (L x = 0 ∧ ∀ (j : Nat) k, j < en → ks[j]? = some k → atP k ≠ x) ∨ (∃ (j : Nat) (k : Nat), j < en ∧ ks[j]? = some k ∧ L x = j + 1 ∧ atP k = x ∧ ∀ (j' : Nat) k', j < j' → j' < en → ks[j']? = some k' → atP k' ≠ x)
section
variable {ks : List Nat} {s : FS} {k N en : Nat} {fd : Bool} {L : Nat → Nat}
theorem PoS.nil : PoS [] (fs0 100) := ⟨rfl, fun _ => rfl, rfl, rfl, rfl, fun i q h => by simp [fs0] at h⟩
theorem PoW.nil : PoW N [] N false (fun _ => 0) := ⟨Nat.le_refl _, .inr ⟨rfl, Nat.zero_le _⟩, fun j k _ h => by simp at h, by simp, fun x => .inl ⟨rfl, fun j k _ h => by simp at h⟩⟩
def poK (k i : Nat) : Ck := { zeroC 64 with st := strP k, lo := looP k, mid := i, body := [120] }
theorem PoS.snoc (h : PoS ks s) {i : Nat} (hi : i = ks.length) : PoS (ks ++ [k]) (s.send (i : Int) (if stayP k = true then 0 else 2) (if stayP k = true then 0 else 5) (poK k i) 0) := by
  refine ⟨h.fresh, h.gone, h.mark, ?_, ?_, fun j q hq => ?_⟩
  · show (_ :: s.ms).length = _
    simp [h.ms]
  · show (s.ps ++ [_]).length = _
    simp [h.len]
  · change (s.ps ++ [_])[j]? = some q at hq
    rcases gets_snoc hq with ⟨h1, h2⟩ | ⟨rfl, rfl⟩
    · obtain ⟨a, b, v, hv, h3⟩ := h.at_ j q h2
      exact ⟨a, b, v, by rw [List.getElem?_append_left (by rw [← h.len]; exact h1)]; exact hv, h3⟩
    · refine ⟨by rw [hi, h.len], rfl, k, ?_, rfl, rfl, rfl, rfl, by rw [h.len, ← hi]; rfl⟩
      rw [h.len]; simp
theorem PoW.stay (h : PoW N ks en fd L) (hs : stayP k = true) (hn : ks.length < N) : PoW N (ks ++ [k]) (min en ks.length) fd L := by
  have hle := h.le
  rcases h.en_ with ⟨h1, k0, h2, h3⟩ | ⟨h1, h2⟩
  · have e : min en ks.length = en := by omega
    rw [e]
    refine ⟨hle, .inl ⟨by simp; omega, k0, by rw [List.getElem?_append_left h1]; exact h2, h3⟩, fun j k' hj hk => ?_, ?_, fun x => ?_⟩
    · exact h.no j k' hj (by rw [List.getElem?_append_left (by omega)] at hk; exact hk)
    · rw [h.fd]; simp; omega
    · rcases h.la x with ⟨a, b⟩ | ⟨j, k', a, b, c, d, e'⟩
      · exact .inl ⟨a, fun j k' hj hk => b j k' hj (by rw [List.getElem?_append_left (by omega)] at hk; exact hk)⟩
      · exact .inr ⟨j, k', a, by rw [List.getElem?_append_left (by omega)]; exact b, c, d, fun j' k'' h5 h6 h7 => e' j' k'' h5 h6 (by rw [List.getElem?_append_left (by omega)] at h7; exact h7)⟩
  · have e : min en ks.length = ks.length := by omega
    rw [e]
    refine ⟨by omega, .inl ⟨by simp, k, by simp, hs⟩, fun j k' hj hk => ?_, ?_, fun x => ?_⟩
    · exact h.no j k' (by omega) (by rw [List.getElem?_append_left hj] at hk; exact hk)
    · rw [h.fd, e]; simp
    · rcases h.la x with ⟨a, b⟩ | ⟨j, k', a, b, c, d, e'⟩
      · exact .inl ⟨a, fun j k' hj hk => b j k' (by omega) (by rw [List.getElem?_append_left hj] at hk; exact hk)⟩
      · have hjl := (List.getElem?_eq_some_iff.1 b).1
        exact .inr ⟨j, k', hjl, by rw [List.getElem?_append_left hjl]; exact b, c, d, fun j' k'' h5 h6 h7 => e' j' k'' h5 (by omega) (by rw [List.getElem?_append_left h6] at h7; exact h7)⟩
theorem PoW.skip (h : PoW N ks en fd L) (hs : stayP k = false) (hn : ks.length < N) (he : en ≠ N) : PoW N (ks ++ [k]) en fd L := by
  rcases h.en_ with ⟨h1, k0, h2, h3⟩ | ⟨h1, _⟩
  · refine ⟨h.le, .inl ⟨by simp; omega, k0, by rw [List.getElem?_append_left h1]; exact h2, h3⟩, fun j k' hj hk => ?_, ?_, fun x => ?_⟩
    · exact h.no j k' hj (by rw [List.getElem?_append_left (by omega)] at hk; exact hk)
    · rw [h.fd]; simp; omega
    · rcases h.la x with ⟨a, b⟩ | ⟨j, k', a, b, c, d, e'⟩
      · exact .inl ⟨a, fun j k' hj hk => b j k' hj (by rw [List.getElem?_append_left (by omega)] at hk; exact hk)⟩
      · exact .inr ⟨j, k', a, by rw [List.getElem?_append_left (by omega)]; exact b, c, d, fun j' k'' h5 h6 h7 => e' j' k'' h5 h6 (by rw [List.getElem?_append_left (by omega)] at h7; exact h7)⟩
  · exact absurd h1 he
theorem PoW.note (h : PoW N ks N fd L) (hs : stayP k = false) (hn : ks.length < N) {i : Nat} (hi : i = ks.length) : PoW N (ks ++ [k]) N true (fun x => if x = atP k then i + 1 else L x) := by
  subst hi
  refine ⟨Nat.le_refl _, .inr ⟨rfl, by simp; omega⟩, fun j k' hj hk => ?_, ?_, fun x => ?_⟩
  · rcases gets_snoc hk with ⟨_, hk⟩ | ⟨_, rfl⟩
    · exact h.no j k' hj hk
    · exact hs
  · symm; rw [decide_eq_true_eq]; simp; omega
  · show ((if x = atP k then ks.length + 1 else L x) = 0 ∧ _) ∨ (∃ j k', _ ∧ _ ∧ (if x = atP k then ks.length + 1 else L x) = j + 1 ∧ _)
    by_cases e : x = atP k
    · rw [if_pos e]
      refine .inr ⟨ks.length, k, hn, by simp, rfl, e.symm, fun j' k' h1 h2 h3 => ?_⟩
      have := (List.getElem?_eq_some_iff.1 h3).1
      simp at this
      omega
    · rw [if_neg e]
      rcases h.la x with ⟨a, b⟩ | ⟨j, k', a, b, c, d, e'⟩
      · refine .inl ⟨a, fun j k' hj hk => ?_⟩
        rcases gets_snoc hk with ⟨_, hk⟩ | ⟨_, rfl⟩
        · exact b j k' hj hk
        · exact fun h => e h.symm
      · refine .inr ⟨j, k', a, by rw [List.getElem?_append_left (List.getElem?_eq_some_iff.1 b).1]; exact b, c, d, fun j' k'' h5 h6 h7 => ?_⟩
        rcases gets_snoc h7 with ⟨_, h7⟩ | ⟨_, rfl⟩
        · exact e' j' k'' h5 h6 h7
        · exact fun h => e h.symm
theorem PoS.exp (h : PoS ks s) {i : Nat} {k : Nat} (hk : ks[i]? = some k) : ∃ q, ((s.expire 6).told).ps[i]? = some q ∧ (q.st == 3) = !(stayP k) ∧ q.c.st = strP k ∧ q.c.lo = looP k ∧ q.c.mid = i := by
  have hi : i < s.ps.length := by rw [h.len]; exact (List.getElem?_eq_some_iff.1 hk).1
  have hq := List.getElem?_eq_getElem hi
  obtain ⟨q, hqq⟩ : ∃ q, q = s.ps[i] := ⟨_, rfl⟩
  rw [← hqq] at hq
  obtain ⟨h1, h2, k', hk', h3, h4, h5, h6, h7⟩ := h.at_ i q hq
  rw [hk] at hk'
  injection hk' with hk'
  subst hk'
  have hl : q.left = true := by unfold Pt.left; rw [h2]; rfl
  have hd : deadB 6 s.ps q.m = !(stayP k) := by
    cases hs : stayP k
    · refine List.any_eq_true.2 ⟨q, List.mem_of_getElem? hq, ?_⟩
      rw [hs] at h3 h4
      simp only [Bool.and_eq_true, decide_eq_true_eq]
      refine ⟨trivial, hl, ?_⟩
      unfold Pt.late
      rw [h3, h4]
      decide
    · refine List.any_eq_false.2 (fun r hr => ?_)
      obtain ⟨j, hj⟩ := List.mem_iff_getElem?.1 hr
      obtain ⟨a1, _, k2, hk2, a3, _⟩ := h.at_ j r hj
      simp only [Bool.and_eq_true, decide_eq_true_eq, not_and]
      intro hm _
      rw [a1, h1] at hm
      have hij : j = i := by omega
      subst hij
      rw [hk] at hk2
      injection hk2 with hk2
      subst hk2
      rw [hs] at a3
      unfold Pt.late
      rw [a3]
      simp
  refine ⟨if q.left = true ∧ deadB 6 s.ps q.m = true then q.turn 3 else q, ?_, ?_⟩
  · show (s.ps.map _)[i]? = _
    rw [List.getElem?_map, hq]
    rfl
  · rw [hd, hl]
    cases hs : stayP k
    · simp only [Bool.not_false, and_self, if_true]
      exact ⟨rfl, h5, h6, h7⟩
    · simp only [Bool.not_true, Bool.false_eq_true, and_false, if_false]
      exact ⟨by rw [h2]; rfl, h5, h6, h7⟩
theorem tw_take' {α : Type} (f : α → Bool) : ∀ (l : List α) (k : Nat), k ≤ l.length → (∀ (j : Nat) x, j < k → l[j]? = some x → f x = true) → (∀ x, l[k]? = some x → f x = false) → l.takeWhile f = l.take k
  | [], k, _, _, _ => by simp
  | a :: l, 0, _, _, h2 => by
    have := h2 a rfl
    simp [List.takeWhile_cons, this]
  | a :: l, k + 1, h0, h1, h2 => by
    have := h1 0 a (by omega) rfl
    rw [List.takeWhile_cons, if_pos this, List.take_succ_cons, tw_take' f l k (by simpa using h0) (fun j x hj hx => h1 (j + 1) x (by omega) hx) (fun x hx => h2 x hx)]
theorem PoS.row (h : PoS ks s) (hw : PoW N ks en fd L) (hN : ks.length = N) : ((s.expire 6).told).row = ((s.expire 6).told).ps.take en := by
  have hl : ((s.expire 6).told).ps.length = ks.length := by show (s.ps.map _).length = _; rw [List.length_map, h.len]
  refine tw_take' _ _ _ (by rw [hl, hN]; exact hw.le) (fun j q hj hq => ?_) (fun q hq => ?_)
  · have hjl : j < ks.length := by rw [← hl]; exact (List.getElem?_eq_some_iff.1 hq).1
    obtain ⟨q', h1, h2, _⟩ := h.exp (List.getElem?_eq_getElem hjl)
    rw [hq] at h1
    injection h1 with h1
    rw [h1, h2, hw.no j _ hj (List.getElem?_eq_getElem hjl)]
    rfl
  · have hjl : en < ks.length := by rw [← hl]; exact (List.getElem?_eq_some_iff.1 hq).1
    rcases hw.en_ with ⟨_, k, h3, h4⟩ | ⟨h3, _⟩
    · obtain ⟨q', h1, h2, _⟩ := h.exp h3
      rw [hq] at h1
      injection h1 with h1
      rw [h1, h2, h4]
      rfl
    · omega
/-- The latest of each line. -/
theorem lat_fold (ps : List Pt) (hb : ps.length ≤ 100000) (hmid : ∀ (i : Nat) q, ps[i]? = some q → q.c.mid = i) : ∀ m, m ≤ ps.length → ∀ k x, ((ps.take m).foldl latF fun _ => none) k = some x ↔ ∃ q, x < m ∧ ps[x]? = some q ∧ (q.c.st, q.c.lo) = k ∧ ∀ (j : Nat) q', x < j → j < m → ps[j]? = some q' → (q'.c.st, q'.c.lo) ≠ k := by
  intro m
  induction m with
  | zero => intro _ k x; simp
  | succ m ih =>
    intro hm k x
    have hq := List.getElem?_eq_getElem (show m < ps.length by omega)
    obtain ⟨q, hqq⟩ : ∃ q, q = ps[m] := ⟨_, rfl⟩
    rw [← hqq] at hq
    have hih := ih (by omega)
    rw [List.take_add_one, hq, Option.toList, List.foldl_append]
    show latF ((ps.take m).foldl latF fun _ => none) q k = some x ↔ _
    generalize hf : (ps.take m).foldl latF (fun _ => none) = f at hih ⊢
    unfold latF
    by_cases hk : k = (q.c.st, q.c.lo)
    · rw [if_pos hk]
      have hlt : laterN ((f k).getD q.c.mid) q.c.mid = m := by
        rw [hmid m q hq]
        cases hfk : f k with
        | none =>
          show laterN m m = m
          unfold laterN
          split <;> rfl
        | some y =>
          obtain ⟨_, hy, _⟩ := (hih k y).1 hfk
          show laterN y m = m
          unfold laterN Ser.lessB Ser.dist
          rw [if_pos (decide_eq_true (by omega))]
      rw [hlt]
      constructor
      · intro e
        injection e with e
        subst e
        exact ⟨q, by omega, hq, hk.symm, fun j q' h1 h2 => by omega⟩
      · rintro ⟨q', h1, h2, h3, h4⟩
        rcases Nat.lt_or_ge x m with h5 | h5
        · exact absurd hk.symm (h4 m q h5 (by omega) hq)
        · rw [show x = m by omega]
    · rw [if_neg hk, hih]
      constructor
      · rintro ⟨q', h1, h2, h3, h4⟩
        refine ⟨q', by omega, h2, h3, fun j q'' h5 h6 h7 => ?_⟩
        rcases Nat.lt_or_ge j m with h8 | h8
        · exact h4 j q'' h5 h8 h7
        · have : j = m := by omega
          subst this
          rw [hq] at h7
          injection h7 with h7
          rw [← h7]
          exact fun e => hk e.symm
      · rintro ⟨q', h1, h2, h3, h4⟩
        rcases Nat.lt_or_ge x m with h8 | h8
        · exact ⟨q', h8, h2, h3, fun j q'' h5 h6 h7 => h4 j q'' h5 (by omega) h7⟩
        · have : x = m := by omega
          subst this
          rw [hq] at h2
          injection h2 with h2
          rw [← h2] at h3
          exact absurd h3.symm hk
theorem PoS.lat (h : PoS ks s) (hw : PoW N ks en fd L) (hN : ks.length = N) (hb : N ≤ 1000) (x : Nat) (hx : x < 8) : ((s.expire 6).told).lat (x / 2, decide (x % 2 = 1)) = if L x = 0 then none else some (L x - 1) := by
  have hl : ((s.expire 6).told).ps.length = ks.length := by show (s.ps.map _).length = _; rw [List.length_map, h.len]
  have hln : ∀ k, lineP k = (x / 2, decide (x % 2 = 1)) ↔ atP k = x := fun k => by
    unfold lineP atP
    constructor
    · intro e
      injection e with e1 e2
      rw [e1, e2]
      by_cases h1 : x % 2 = 1
      · simp [h1]; omega
      · simp [h1]; omega
    · intro e
      cases hlo : looP k <;> rw [hlo] at e
      · simp at e
        have h1 : ¬ x % 2 = 1 := by omega
        rw [decide_eq_false h1, show strP k = x / 2 by omega]
      · simp at e
        have h1 : x % 2 = 1 := by omega
        rw [decide_eq_true h1, show strP k = x / 2 by omega]
  have hfold := lat_fold ((s.expire 6).told).ps (by rw [hl]; omega) (fun i q hq => by
    have hi : i < ks.length := by rw [← hl]; exact (List.getElem?_eq_some_iff.1 hq).1
    obtain ⟨q', h1, _, _, _, h5⟩ := h.exp (List.getElem?_eq_getElem hi)
    rw [hq] at h1
    injection h1 with h1
    rw [h1]; exact h5) en (by rw [hl, hN]; exact hw.le)
  unfold FS.lat
  rw [h.row hw hN]
  have key : ∀ (j : Nat) k q, ks[j]? = some k → ((s.expire 6).told).ps[j]? = some q → ((q.c.st, q.c.lo) = (x / 2, decide (x % 2 = 1)) ↔ atP k = x) := fun j k q hk hq => by
    obtain ⟨q', h1, _, h3, h4, _⟩ := h.exp hk
    rw [hq] at h1
    injection h1 with h1
    rw [h1, h3, h4]
    exact hln k
  rcases hw.la x with ⟨a, b⟩ | ⟨j, k, a, b, c, d, e⟩
  · rw [if_pos a]
    cases hf : (((s.expire 6).told).ps.take en).foldl latF (fun _ => none) (x / 2, decide (x % 2 = 1)) with
    | none => rfl
    | some y =>
      obtain ⟨q, h1, h2, h3, _⟩ := (hfold _ y).1 hf
      have hy : y < ks.length := by rw [← hl]; exact (List.getElem?_eq_some_iff.1 h2).1
      exact absurd ((key y _ q (List.getElem?_eq_getElem hy) h2).1 h3) (b y _ h1 (List.getElem?_eq_getElem hy))
  · rw [if_neg (by omega), c, Nat.add_sub_cancel]
    obtain ⟨q, h1, _⟩ := h.exp b
    refine (hfold _ j).2 ⟨q, a, h1, (key j k q b h1).2 d, fun j' q' h5 h6 h7 e' => ?_⟩
    have hj' : j' < ks.length := by rw [← hl]; exact (List.getElem?_eq_some_iff.1 h7).1
    exact e j' _ h5 h6 (List.getElem?_eq_getElem hj') ((key j' _ q' (List.getElem?_eq_getElem hj') h7).1 e')
theorem PoS.lat_dom (h : PoS ks s) (hw : PoW N ks en fd L) (hN : ks.length = N) (hb : N ≤ 1000) {k : Ln} {y : Nat} (hk : ((s.expire 6).told).lat k = some y) : ∃ x, x < 8 ∧ k = (x / 2, decide (x % 2 = 1)) := by
  have hl : ((s.expire 6).told).ps.length = ks.length := by show (s.ps.map _).length = _; rw [List.length_map, h.len]
  have hfold := lat_fold ((s.expire 6).told).ps (by rw [hl]; omega) (fun i q hq => by
    have hi : i < ks.length := by rw [← hl]; exact (List.getElem?_eq_some_iff.1 hq).1
    obtain ⟨q', h1, _, _, _, h5⟩ := h.exp (List.getElem?_eq_getElem hi)
    rw [hq] at h1
    injection h1 with h1
    rw [h1]; exact h5) en (by rw [hl, hN]; exact hw.le)
  unfold FS.lat at hk
  rw [h.row hw hN] at hk
  obtain ⟨q, h1, h2, h3, _⟩ := (hfold _ y).1 hk
  have hy : y < ks.length := by rw [← hl]; exact (List.getElem?_eq_some_iff.1 h2).1
  obtain ⟨q', g1, _, g3, g4, _⟩ := h.exp (List.getElem?_eq_getElem hy)
  rw [h2] at g1
  injection g1 with g1
  subst g1
  refine ⟨atP ks[y], atP_lt _, ?_⟩
  rw [← h3, g3, g4]
  unfold atP
  cases hlo : looP ks[y]
  · have : ¬ (2 * strP ks[y] + 0) % 2 = 1 := by omega
    simp
  · have : (2 * strP ks[y] + 1) % 2 = 1 := by omega
    have h4 : (2 * strP ks[y] + 1) / 2 = strP ks[y] := by omega
    simp [this, h4]
/-- What is skipped, line by line. -/
def wantP (L : Nat → Nat) (n : Nat) : List Skp := ((List.range n).filter fun x => decide (0 < L x)).map fun x => (x / 2, decide (x % 2 = 1), L x - 1)
theorem wantP_succ (L : Nat → Nat) (n : Nat) : wantP L (n + 1) = wantP L n ++ (if 0 < L n then [(n / 2, decide (n % 2 = 1), L n - 1)] else []) := by
  unfold wantP
  rw [List.range_succ, List.filter_append, List.map_append]
  by_cases h : 0 < L n
  · simp [h]
  · simp [h]
theorem skLt_trans_no {a b : Skp} (h : skLt a b) : ¬ skLt b a := by
  unfold skLt at *
  rintro (h1 | ⟨h1, h2, h3⟩)
  · omega
  · rcases h with h | ⟨h4, h5, h6⟩
    · omega
    · rw [h2] at h6; cases h6
theorem skLt_irr (a : Skp) : ¬ skLt a a := fun h => skLt_trans_no h h
theorem sk_eq : ∀ (l l' : List Skp), l.Pairwise skLt → l'.Pairwise skLt → (∀ x, x ∈ l ↔ x ∈ l') → l = l'
  | [], [], _, _, _ => rfl
  | [], b :: _, _, _, h => by have := (h b).2 List.mem_cons_self; cases this
  | a :: _, [], _, _, h => by have := (h a).1 List.mem_cons_self; cases this
  | a :: l, b :: l', h1, h2, h => by
    have h1' := List.pairwise_cons.1 h1
    have h2' := List.pairwise_cons.1 h2
    have e : a = b := by
      rcases List.mem_cons.1 ((h a).1 List.mem_cons_self) with e | ha
      · exact e
      · rcases List.mem_cons.1 ((h b).2 List.mem_cons_self) with e | hb
        · exact e.symm
        · exact absurd (h2'.1 a ha) (skLt_trans_no (h1'.1 b hb))
    subst e
    congr 1
    refine sk_eq l l' h1'.2 h2'.2 (fun x => ?_)
    have hx := h x
    constructor
    · intro hl
      rcases List.mem_cons.1 (hx.1 (List.mem_cons_of_mem _ hl)) with e | h3
      · subst e; exact absurd (h1'.1 x hl) (skLt_irr x)
      · exact h3
    · intro hl
      rcases List.mem_cons.1 (hx.2 (List.mem_cons_of_mem _ hl)) with e | h3
      · subst e; exact absurd (h2'.1 x hl) (skLt_irr x)
      · exact h3
theorem wantP_sort (L : Nat → Nat) (n : Nat) : (wantP L n).Pairwise skLt := by
  unfold wantP
  refine List.pairwise_map.2 (List.Pairwise.imp ?_ (List.Pairwise.filter _ List.pairwise_lt_range))
  intro a b h
  unfold skLt
  simp only
  rcases Nat.lt_or_ge (a / 2) (b / 2) with h1 | h1
  · exact .inl h1
  · refine .inr ⟨by omega, decide_eq_false (by omega), decide_eq_true (by omega)⟩
theorem PoS.skips (h : PoS ks s) (hw : PoW N ks en fd L) (hN : ks.length = N) (hb : N ≤ 1000) {sk : List Skp} (ho : SkOk true ((s.expire 6).told).lat sk) : sk = wantP L 8 := by
  refine sk_eq _ _ ho.sort (wantP_sort _ _) (fun a => ?_)
  rw [ho.mem]
  unfold wantP
  rw [List.mem_map]
  obtain ⟨a1, a2, a3⟩ := a
  constructor
  · rintro ⟨h1, _⟩
    obtain ⟨x, hx, e⟩ := h.lat_dom hw hN hb h1
    injection e with e1 e2
    simp only at h1 e1 e2
    rw [e1, e2, h.lat hw hN hb x hx] at h1
    by_cases h0 : L x = 0
    · rw [if_pos h0] at h1; cases h1
    · rw [if_neg h0] at h1
      injection h1 with h1
      exact ⟨x, List.mem_filter.2 ⟨List.mem_range.2 hx, decide_eq_true (by omega)⟩, by rw [e1, e2, h1]⟩
  · rintro ⟨x, hx, e⟩
    obtain ⟨h1, h2⟩ := List.mem_filter.1 hx
    have h1' := List.mem_range.1 h1
    have h2' := of_decide_eq_true h2
    injection e with e1 e2
    injection e2 with e2 e3
    refine ⟨?_, .inl rfl⟩
    simp only
    rw [← e1, ← e2, ← e3, h.lat hw hN hb x h1', if_neg (by omega)]
end
theorem skC_len' (l : List Skp) : (skC l).length = l.length * 3 := by
  induction l with
  | nil => rfl
  | cons a l ih =>
    have : skC (a :: l) = [.int .u16 (a.1 : Int), .bool a.2.1, .int .u32 (a.2.2 : Int)] ++ skC l := by simp [skC]
    simp only [this, List.length_append, ih, List.length_cons, List.length_nil]
    omega
def laA (L : Nat → Nat) : Array Value := #[.int .i64 (L 0 : Int), .int .i64 (L 1 : Int), .int .i64 (L 2 : Int), .int .i64 (L 3 : Int), .int .i64 (L 4 : Int), .int .i64 (L 5 : Int), .int .i64 (L 6 : Int), .int .i64 (L 7 : Int)]
theorem laA_at (L : Nat → Nat) {x : Nat} (hx : x < 8) : (laA L)[x]? = some (.int .i64 (L x : Int)) := by
  have : x = 0 ∨ x = 1 ∨ x = 2 ∨ x = 3 ∨ x = 4 ∨ x = 5 ∨ x = 6 ∨ x = 7 := by omega
  rcases this with rfl | rfl | rfl | rfl | rfl | rfl | rfl | rfl <;> rfl
theorem laA_set (L : Nat → Nat) {x : Nat} (hx : x < 8) (v : Nat) : (laA L).setIfInBounds x (.int .i64 (v : Int)) = laA (fun y => if y = x then v else L y) := by
  have : x = 0 ∨ x = 1 ∨ x = 2 ∨ x = 3 ∨ x = 4 ∨ x = 5 ∨ x = 6 ∨ x = 7 := by omega
  rcases this with rfl | rfl | rfl | rfl | rfl | rfl | rfl | rfl <;> rfl
theorem la_info : (Try.prog.info? 62).map (fun i => (i.zero, i.size)) = some (some (.agg (laA fun _ => 0)), 8) := by kernel_rfl
theorem la_sz : (Try.prog.info? 62).map (·.size) = some 8 := by kernel_rfl
theorem la_ix0 (L : Nat → Nat) (w : World) : (Instr.index 62 (.agg (laA L)) (.int .i64 0)).run Try.prog w = .ok (.int .i64 (L 0 : Int)) w := by kernel_rfl
theorem la_ix1 (L : Nat → Nat) (w : World) : (Instr.index 62 (.agg (laA L)) (.int .i64 1)).run Try.prog w = .ok (.int .i64 (L 1 : Int)) w := by kernel_rfl
theorem la_ix2 (L : Nat → Nat) (w : World) : (Instr.index 62 (.agg (laA L)) (.int .i64 2)).run Try.prog w = .ok (.int .i64 (L 2 : Int)) w := by kernel_rfl
theorem la_ix3 (L : Nat → Nat) (w : World) : (Instr.index 62 (.agg (laA L)) (.int .i64 3)).run Try.prog w = .ok (.int .i64 (L 3 : Int)) w := by kernel_rfl
theorem la_ix4 (L : Nat → Nat) (w : World) : (Instr.index 62 (.agg (laA L)) (.int .i64 4)).run Try.prog w = .ok (.int .i64 (L 4 : Int)) w := by kernel_rfl
theorem la_ix5 (L : Nat → Nat) (w : World) : (Instr.index 62 (.agg (laA L)) (.int .i64 5)).run Try.prog w = .ok (.int .i64 (L 5 : Int)) w := by kernel_rfl
theorem la_ix6 (L : Nat → Nat) (w : World) : (Instr.index 62 (.agg (laA L)) (.int .i64 6)).run Try.prog w = .ok (.int .i64 (L 6 : Int)) w := by kernel_rfl
theorem la_ix7 (L : Nat → Nat) (w : World) : (Instr.index 62 (.agg (laA L)) (.int .i64 7)).run Try.prog w = .ok (.int .i64 (L 7 : Int)) w := by kernel_rfl
theorem la_index (L : Nat → Nat) {x : Nat} (hx : x < 8) (w : World) : (Instr.index 62 (.agg (laA L)) (.int .i64 (x : Int))).run Try.prog w = .ok (.int .i64 (L x : Int)) w := by
  have : x = 0 ∨ x = 1 ∨ x = 2 ∨ x = 3 ∨ x = 4 ∨ x = 5 ∨ x = 6 ∨ x = 7 := by omega
  rcases this with rfl | rfl | rfl | rfl | rfl | rfl | rfl | rfl
  · exact la_ix0 L w
  · exact la_ix1 L w
  · exact la_ix2 L w
  · exact la_ix3 L w
  · exact la_ix4 L w
  · exact la_ix5 L w
  · exact la_ix6 L w
  · exact la_ix7 L w
theorem alloc_la (w : World) : (Instr.alloc 62 true (.tuple #[])).run Try.prog w = .ok (.pointer (some ⟨w.heap.size, 0, none⟩)) (w.alloc (.cells (laA fun _ => 0) 62)) := run_alloc_agg la_info w
theorem built_po (k i : Nat) (A : Option Addr) (n c : Nat) : Try.prog.built 35 [(0, .int .u8 64), (6, .int .u16 (strP k : Int)), (3, .bool (looP k)), (7, .int .u32 (i : Int)), (18, .slice A n c)] = some (bareA (poK k i) A n c) := by kernel_rfl
theorem poK_ok {k i : Nat} (hi : i < 65536) : (poK k i).ok :=
  ⟨by show 64 < 256; omega, by show 0 < _; omega, by show strP k < _; unfold strP; omega, by show i < _; omega, by show 0 < _; omega, by show 0 < _; omega, by show 0 < _; omega, by show 0 < _; omega, by show 0 < _; omega, by show 0 < _; omega, fun _ h => by simp [poK, zeroC] at h, fun _ h => by simp [poK, zeroC] at h, fun _ h => by simp [poK, zeroC] at h, fun _ h => by simp [poK, zeroC] at h⟩
structure PoL (R : World → (Nat → Prop) → Nat → FS → Prop) (w : World) (p g N : Nat) (ks ks2 : List Nat) (en : Nat) (fd : Bool) (L : Nat → Nat) (s : FS) (V : World) : Prop where
  fv : FV R w p (fun i => i = g) s V
  la : Blk V g 62 (laA L)
  ps : PoS ks s
  pw : PoW N ks2 en fd L
section
variable {R : World → (Nat → Prop) → Nat → FS → Prop} {w V V' : World} {p g N en k : Nat} {ks ks2 : List Nat} {fd : Bool} {L : Nat → Nat} {s : FS}
theorem PoL.grows (I : FlI R) (h : PoL R w p g N ks ks2 en fd L s V) (hb : Below V.heap.size V V') : PoL R w p g N ks ks2 en fd L s V' := ⟨h.fv.grows I hb, blk_below h.la hb, h.ps, h.pw⟩
theorem PoL.note (I : FlI R) (h : PoL R w p g N ks2 ks N fd L s V) (hs : stayP k = false) (hn : ks.length < N) (hg : w.heap.size ≤ g) {i : Nat} (hi : i = ks.length) : PoL R w p g N ks2 (ks ++ [k]) N true (fun x => if x = atP k then i + 1 else L x) s (V.setCell ⟨g, atP k, none⟩ (.int .i64 ((i + 1 : Nat) : Int))) := by
  refine ⟨h.fv.turns I ((Fr.refl (fun i => i = g) V).setCell (p := ⟨g, atP k, none⟩) (.inl rfl) _) (fun i e => by rw [show i = g from e]; exact hg), ?_, h.ps, h.pw.note hs hn hi⟩
  have h1 := h.la.set_ (atP k) (.int .i64 ((i + 1 : Nat) : Int))
  rw [laA_set L (atP_lt k)] at h1
  exact h1
theorem PoL.send (I : FlI R) (h : PoL R w p g N ks ks2 en fd L s V) (hb : Below V.heap.size V V') {i : Nat} (hi : i = ks.length) (hib : i < 1000) {b : Nat} (hg : V.heap.size ≤ b) (hy : Byt V' V'.heap.size (some ⟨b, 0, none⟩) [120]) :
    Calls Try.prog 15 #[fptr p, .int .i64 (i : Int), .agg #[.int .i64 ((if stayP k = true then 0 else 2 : Nat) : Int), .int .u32 ((if stayP k = true then 0 else 5 : Nat) : Int)], .agg (bareA (poK k i) (some ⟨b, 0, none⟩) 1 1), .int .u32 0] V' fun e w' => ∃ (A' : Option Addr) (cp' : Nat) (s' : FS), e = .returned (.agg (bareA { (poK k i) with tsn := s.next } A' 1 cp')) ∧ Hid (PoL R w p g N (ks ++ [k]) ks2 en fd L s' w') := by
  refine (h.fv.sendX I hb (c := poK k i) (now := 0) h.ps.fresh (by rw [h.ps.ms]; omega) (by omega) (by split <;> omega) (by split <;> omega) (by omega) ⟨rfl, rfl, rfl, rfl⟩ (poK_ok (by omega)) (by show 1 ≤ _; omega) rfl hg hy).mono ?_
  rintro e w' ⟨A', cp', rfl, hf, hk⟩
  exact ⟨A', cp', _, rfl, hf.out, hk.out.blk (blk_below h.la hb) (fun hx => hx rfl), h.ps.snoc hi, h.pw⟩
end
end Go.Proofs.Yteobobodangbgaa.Fl
