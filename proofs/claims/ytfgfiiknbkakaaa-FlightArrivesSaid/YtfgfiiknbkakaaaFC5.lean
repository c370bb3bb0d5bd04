/-
  Of the texts FlPo, FlTm, FlAk, FlAr: what the laws reach.
-/
import Derived.Test.YtfgfiiknbkakaaaFC4

set_option linter.unusedVariables false
set_option linter.unusedSimpArgs false
namespace Go.Proofs.Ytfgfiiknbkakaaa.Fl
open Go.ChangeShapes Go.WideShapes Go.ChangeAt Go.RowKit Go.Deep Go.Proofs.Ytfgfiiknbkakaaa.Words Go.Proofs.Ytfgfiiknbkakaaa.Oct Go.Proofs.Ytfgfiiknbkakaaa.Par Go.Proofs.Ytfgfiiknbkakaaa.Chk
def strP (k : Nat) : Nat := k / 4 % 4
def looP (k : Nat) : Bool := decide (k / 16 % 2 = 1)
def stayP (k : Nat) : Bool := decide (k % 4 = 0)
def atP (k : Nat) : Nat := 2 * strP k + (if looP k = true then 1 else 0)
theorem atP_lt (k : Nat) : atP k < 8 := by unfold atP strP; split <;> omega
def lineP (k : Nat) : Ln := (strP k, looP k)
/-- A flight of pieces, each of a message of its own: one in four stays. -/
structure PoS (ks : List Nat) (s : FS) : Prop where
  fresh : s.fresh = true
  gone : ∀ x, s.gone x = false
  mark : s.mark = 99
  ms : s.ms.length = ks.length
  len : s.ps.length = ks.length
  at_ : ∀ (i : Nat) q, s.ps[i]? = some q → q.m = (i : Int) ∧ q.st = 0 ∧ ∃ k, ks[i]? = some k ∧ q.lk = (if stayP k = true then 0 else 2) ∧ q.ln = (if stayP k = true then 0 else 5) ∧ q.c.st = strP k ∧ q.c.lo = looP k ∧ q.c.mid = i
/-- What the law has noted: up to where, whether anything, the latest of each line. -/
structure PoW (N : Nat) (ks : List Nat) (en : Nat) (fd : Bool) (L : Nat → Nat) : Prop where
  le : en ≤ N
  en_ : (en < ks.length ∧ ∃ k, ks[en]? = some k ∧ stayP k = true) ∨ (en = N ∧ ks.length ≤ N)
  no : ∀ (j : Nat) k, j < en → ks[j]? = some k → stayP k = false
  fd : fd = decide (0 < min en ks.length)
  la : ∀ x, (L x = 0 ∧ ∀ (j : Nat) k, j < en → ks[j]? = some k → atP k ≠ x) ∨ (∃ (j : Nat) (k : Nat), j < en ∧ ks[j]? = some k ∧ L x = j + 1 ∧ atP k = x ∧ ∀ (j' : Nat) k', j < j' → j' < en → ks[j']? = some k' → atP k' ≠ x)
section
variable {ks : List Nat} {s : FS} {k N en : Nat} {fd : Bool} {L : Nat → Nat}
theorem PoS.nil : PoS [] (fs0 100) := ⟨rfl, fun _ => rfl, rfl, rfl, rfl, fun i q h => by simp [fs0] at h⟩
theorem PoW.nil : PoW N [] N false (fun _ => 0) := ⟨Nat.le_refl _, .inr ⟨rfl, Nat.zero_le _⟩, fun j k _ h => by simp at h, by simp, fun x => .inl ⟨rfl, fun j k _ h => by simp at h⟩⟩
def poK (k i : Nat) : Ck := { zeroC 64 with st := strP k, lo := looP k, mid := i, body := [120] }
theorem PoS.snoc (h : PoS ks s) {i : Nat} (hi : i = ks.length) : PoS (ks ++ [k]) (s.send (i : Int) (if stayP k = true then 0 else 2) (if stayP k = true then 0 else 5) (poK k i) 0) := by
  refine ⟨h.fresh, h.gone, h.mark, ?_, ?_, fun j q hq => ?_⟩
  · show (_ :: s.ms).length = _
    simp [h.ms]
  · show (s.ps ++ [_]).length = _
    simp [h.len]
  · change (s.ps ++ [_])[j]? = some q at hq
    rcases gets_snoc hq with ⟨h1, h2⟩ | ⟨rfl, rfl⟩
    · obtain ⟨a, b, v, hv, h3⟩ := h.at_ j q h2
      exact ⟨a, b, v, by rw [List.getElem?_append_left (by rw [← h.len]; exact h1)]; exact hv, h3⟩
    · refine ⟨by rw [hi, h.len], rfl, k, ?_, rfl, rfl, rfl, rfl, by rw [h.len, ← hi]; rfl⟩
      rw [h.len]; simp
theorem PoW.skip (h : PoW N ks en fd L) (hs : stayP k = false) (hn : ks.length < N) (he : en ≠ N) : PoW N (ks ++ [k]) en fd L := by
  rcases h.en_ with ⟨h1, k0, h2, h3⟩ | ⟨h1, _⟩
  · refine ⟨h.le, .inl ⟨by simp; omega, k0, by rw [List.getElem?_append_left h1]; exact h2, h3⟩, fun j k' hj hk => ?_, ?_, fun x => ?_⟩
    · exact h.no j k' hj (by rw [List.getElem?_append_left (by omega)] at hk; exact hk)
    · rw [h.fd]; simp; omega
    · rcases h.la x with ⟨a, b⟩ | ⟨j, k', a, b, c, d, e'⟩
      · exact .inl ⟨a, fun j k' hj hk => b j k' hj (by rw [List.getElem?_append_left (by omega)] at hk; exact hk)⟩
      · exact .inr ⟨j, k', a, by rw [List.getElem?_append_left (by omega)]; exact b, c, d, fun j' k'' h5 h6 h7 => e' j' k'' h5 h6 (by rw [List.getElem?_append_left (by omega)] at h7; exact h7)⟩
  · exact absurd h1 he
theorem PoS.exp (h : PoS ks s) {i : Nat} {k : Nat} (hk : ks[i]? = some k) : ∃ q, ((s.expire 6).told).ps[i]? = some q ∧ (q.st == 3) = !(stayP k) ∧ q.c.st = strP k ∧ q.c.lo = looP k ∧ q.c.mid = i := by
  have hi : i < s.ps.length := by rw [h.len]; exact (List.getElem?_eq_some_iff.1 hk).1
  have hq := List.getElem?_eq_getElem hi
  obtain ⟨q, hqq⟩ : ∃ q, q = s.ps[i] := ⟨_, rfl⟩
  rw [← hqq] at hq
  obtain ⟨h1, h2, k', hk', h3, h4, h5, h6, h7⟩ := h.at_ i q hq
  rw [hk] at hk'
  injection hk' with hk'
  subst hk'
  have hl : q.left = true := by unfold Pt.left; rw [h2]; rfl
  have hd : deadB 6 s.ps q.m = !(stayP k) := by
    cases hs : stayP k
    · refine List.any_eq_true.2 ⟨q, List.mem_of_getElem? hq, ?_⟩
      rw [hs] at h3 h4
      simp only [Bool.and_eq_true, decide_eq_true_eq]
      refine ⟨trivial, hl, ?_⟩
      unfold Pt.late
      rw [h3, h4]
      decide
    · refine List.any_eq_false.2 (fun r hr => ?_)
      obtain ⟨j, hj⟩ := List.mem_iff_getElem?.1 hr
      obtain ⟨a1, _, k2, hk2, a3, _⟩ := h.at_ j r hj
      simp only [Bool.and_eq_true, decide_eq_true_eq, not_and]
      intro hm _
      rw [a1, h1] at hm
      have hij : j = i := by omega
      subst hij
      rw [hk] at hk2
      injection hk2 with hk2
      subst hk2
      rw [hs] at a3
      unfold Pt.late
      rw [a3]
      simp
  refine ⟨if q.left = true ∧ deadB 6 s.ps q.m = true then q.turn 3 else q, ?_, ?_⟩
  · show (s.ps.map _)[i]? = _
    rw [List.getElem?_map, hq]
    rfl
  · rw [hd, hl]
    cases hs : stayP k
    · simp only [Bool.not_false, and_self, if_true]
      exact ⟨rfl, h5, h6, h7⟩
    · simp only [Bool.not_true, Bool.false_eq_true, and_false, if_false]
      exact ⟨by rw [h2]; rfl, h5, h6, h7⟩
theorem tw_take' {α : Type} (f : α → Bool) : ∀ (l : List α) (k : Nat), k ≤ l.length → (∀ (j : Nat) x, j < k → l[j]? = some x → f x = true) → (∀ x, l[k]? = some x → f x = false) → l.takeWhile f = l.take k
  | [], k, _, _, _ => by simp
  | a :: l, 0, _, _, h2 => by
    have := h2 a rfl
    simp [List.takeWhile_cons, this]
  | a :: l, k + 1, h0, h1, h2 => by
    have := h1 0 a (by omega) rfl
    rw [List.takeWhile_cons, if_pos this, List.take_succ_cons, tw_take' f l k (by simpa using h0) (fun j x hj hx => h1 (j + 1) x (by omega) hx) (fun x hx => h2 x hx)]
theorem PoS.row (h : PoS ks s) (hw : PoW N ks en fd L) (hN : ks.length = N) : ((s.expire 6).told).row = ((s.expire 6).told).ps.take en := by
  have hl : ((s.expire 6).told).ps.length = ks.length := by show (s.ps.map _).length = _; rw [List.length_map, h.len]
  refine tw_take' _ _ _ (by rw [hl, hN]; exact hw.le) (fun j q hj hq => ?_) (fun q hq => ?_)
  · have hjl : j < ks.length := by rw [← hl]; exact (List.getElem?_eq_some_iff.1 hq).1
    obtain ⟨q', h1, h2, _⟩ := h.exp (List.getElem?_eq_getElem hjl)
    rw [hq] at h1
    injection h1 with h1
    rw [h1, h2, hw.no j _ hj (List.getElem?_eq_getElem hjl)]
    rfl
  · have hjl : en < ks.length := by rw [← hl]; exact (List.getElem?_eq_some_iff.1 hq).1
    rcases hw.en_ with ⟨_, k, h3, h4⟩ | ⟨h3, _⟩
    · obtain ⟨q', h1, h2, _⟩ := h.exp h3
      rw [hq] at h1
      injection h1 with h1
      rw [h1, h2, h4]
      rfl
    · omega
/-- The latest of each line. -/
theorem lat_fold (ps : List Pt) (hb : ps.length ≤ 100000) (hmid : ∀ (i : Nat) q, ps[i]? = some q → q.c.mid = i) : ∀ m, m ≤ ps.length → ∀ k x, ((ps.take m).foldl latF fun _ => none) k = some x ↔ ∃ q, x < m ∧ ps[x]? = some q ∧ (q.c.st, q.c.lo) = k ∧ ∀ (j : Nat) q', x < j → j < m → ps[j]? = some q' → (q'.c.st, q'.c.lo) ≠ k := by
  intro m
  induction m with
  | zero => intro _ k x; simp
  | succ m ih =>
    intro hm k x
    have hq := List.getElem?_eq_getElem (show m < ps.length by omega)
    obtain ⟨q, hqq⟩ : ∃ q, q = ps[m] := ⟨_, rfl⟩
    rw [← hqq] at hq
    have hih := ih (by omega)
    rw [List.take_add_one, hq, Option.toList, List.foldl_append]
    show latF ((ps.take m).foldl latF fun _ => none) q k = some x ↔ _
    generalize hf : (ps.take m).foldl latF (fun _ => none) = f at hih ⊢
    unfold latF
    by_cases hk : k = (q.c.st, q.c.lo)
    · rw [if_pos hk]
      have hlt : laterN ((f k).getD q.c.mid) q.c.mid = m := by
        rw [hmid m q hq]
        cases hfk : f k with
        | none =>
          show laterN m m = m
          unfold laterN
          split <;> rfl
        | some y =>
          obtain ⟨_, hy, _⟩ := (hih k y).1 hfk
          show laterN y m = m
          unfold laterN Ser.lessB Ser.dist
          rw [if_pos (decide_eq_true (by omega))]
      rw [hlt]
      constructor
      · intro e
        injection e with e
        subst e
        exact ⟨q, by omega, hq, hk.symm, fun j q' h1 h2 => by omega⟩
      · rintro ⟨q', h1, h2, h3, h4⟩
        rcases Nat.lt_or_ge x m with h5 | h5
        · exact absurd hk.symm (h4 m q h5 (by omega) hq)
        · rw [show x = m by omega]
    · rw [if_neg hk, hih]
      constructor
      · rintro ⟨q', h1, h2, h3, h4⟩
        refine ⟨q', by omega, h2, h3, fun j q'' h5 h6 h7 => ?_⟩
        rcases Nat.lt_or_ge j m with h8 | h8
        · exact h4 j q'' h5 h8 h7
        · have : j = m := by omega
          subst this
          rw [hq] at h7
          injection h7 with h7
          rw [← h7]
          exact fun e => hk e.symm
      · rintro ⟨q', h1, h2, h3, h4⟩
        rcases Nat.lt_or_ge x m with h8 | h8
        · exact ⟨q', h8, h2, h3, fun j q'' h5 h6 h7 => h4 j q'' h5 (by omega) h7⟩
        · have : x = m := by omega
          subst this
          rw [hq] at h2
          injection h2 with h2
          rw [← h2] at h3
          exact absurd h3.symm hk
theorem PoS.lat (h : PoS ks s) (hw : PoW N ks en fd L) (hN : ks.length = N) (hb : N ≤ 1000) (x : Nat) (hx : x < 8) : ((s.expire 6).told).lat (x / 2, decide (x % 2 = 1)) = if L x = 0 then none else some (L x - 1) := by
  have hl : ((s.expire 6).told).ps.length = ks.length := by show (s.ps.map _).length = _; rw [List.length_map, h.len]
  have hln : ∀ k, lineP k = (x / 2, decide (x % 2 = 1)) ↔ atP k = x := fun k => by
    unfold lineP atP
    constructor
    · intro e
      injection e with e1 e2
      rw [e1, e2]
      by_cases h1 : x % 2 = 1
      · simp [h1]; omega
      · simp [h1]; omega
    · intro e
      cases hlo : looP k <;> rw [hlo] at e
      · simp at e
        have h1 : ¬ x % 2 = 1 := by omega
        rw [decide_eq_false h1, show strP k = x / 2 by omega]
      · simp at e
        have h1 : x % 2 = 1 := by omega
        rw [decide_eq_true h1, show strP k = x / 2 by omega]
  have hfold := lat_fold ((s.expire 6).told).ps (by rw [hl]; omega) (fun i q hq => by
    have hi : i < ks.length := by rw [← hl]; exact (List.getElem?_eq_some_iff.1 hq).1
    obtain ⟨q', h1, _, _, _, h5⟩ := h.exp (List.getElem?_eq_getElem hi)
    rw [hq] at h1
    injection h1 with h1
    rw [h1]; exact h5) en (by rw [hl, hN]; exact hw.le)
  unfold FS.lat
  rw [h.row hw hN]
  have key : ∀ (j : Nat) k q, ks[j]? = some k → ((s.expire 6).told).ps[j]? = some q → ((q.c.st, q.c.lo) = (x / 2, decide (x % 2 = 1)) ↔ atP k = x) := fun j k q hk hq => by
    obtain ⟨q', h1, _, h3, h4, _⟩ := h.exp hk
    rw [hq] at h1
    injection h1 with h1
    rw [h1, h3, h4]
    exact hln k
  rcases hw.la x with ⟨a, b⟩ | ⟨j, k, a, b, c, d, e⟩
  · rw [if_pos a]
    cases hf : (((s.expire 6).told).ps.take en).foldl latF (fun _ => none) (x / 2, decide (x % 2 = 1)) with
    | none => rfl
    | some y =>
      obtain ⟨q, h1, h2, h3, _⟩ := (hfold _ y).1 hf
      have hy : y < ks.length := by rw [← hl]; exact (List.getElem?_eq_some_iff.1 h2).1
      exact absurd ((key y _ q (List.getElem?_eq_getElem hy) h2).1 h3) (b y _ h1 (List.getElem?_eq_getElem hy))
  · rw [if_neg (by omega), c, Nat.add_sub_cancel]
    obtain ⟨q, h1, _⟩ := h.exp b
    refine (hfold _ j).2 ⟨q, a, h1, (key j k q b h1).2 d, fun j' q' h5 h6 h7 e' => ?_⟩
    have hj' : j' < ks.length := by rw [← hl]; exact (List.getElem?_eq_some_iff.1 h7).1
    exact e j' _ h5 h6 (List.getElem?_eq_getElem hj') ((key j' _ q' (List.getElem?_eq_getElem hj') h7).1 e')
theorem PoS.lat_dom (h : PoS ks s) (hw : PoW N ks en fd L) (hN : ks.length = N) (hb : N ≤ 1000) {k : Ln} {y : Nat} (hk : ((s.expire 6).told).lat k = some y) : ∃ x, x < 8 ∧ k = (x / 2, decide (x % 2 = 1)) := by
  have hl : ((s.expire 6).told).ps.length = ks.length := by show (s.ps.map _).length = _; rw [List.length_map, h.len]
  have hfold := lat_fold ((s.expire 6).told).ps (by rw [hl]; omega) (fun i q hq => by
    have hi : i < ks.length := by rw [← hl]; exact (List.getElem?_eq_some_iff.1 hq).1
    obtain ⟨q', h1, _, _, _, h5⟩ := h.exp (List.getElem?_eq_getElem hi)
    rw [hq] at h1
    injection h1 with h1
    rw [h1]; exact h5) en (by rw [hl, hN]; exact hw.le)
  unfold FS.lat at hk
  rw [h.row hw hN] at hk
  obtain ⟨q, h1, h2, h3, _⟩ := (hfold _ y).1 hk
  have hy : y < ks.length := by rw [← hl]; exact (List.getElem?_eq_some_iff.1 h2).1
  obtain ⟨q', g1, _, g3, g4, _⟩ := h.exp (List.getElem?_eq_getElem hy)
  rw [h2] at g1
  injection g1 with g1
  subst g1
  refine ⟨atP ks[y], atP_lt _, ?_⟩
  rw [← h3, g3, g4]
  unfold atP
  cases hlo : looP ks[y]
  · have : ¬ (2 * strP ks[y] + 0) % 2 = 1 := by omega
    simp
  · have : (2 * strP ks[y] + 1) % 2 = 1 := by omega
    have h4 : (2 * strP ks[y] + 1) / 2 = strP ks[y] := by omega
    simp [this, h4]
/-- What is skipped, line by line. -/
def wantP (L : Nat → Nat) (n : Nat) : List Skp := ((List.range n).filter fun x => decide (0 < L x)).map fun x => (x / 2, decide (x % 2 = 1), L x - 1)
theorem skLt_trans_no {a b : Skp} (h : skLt a b) : ¬ skLt b a := by
  unfold skLt at *
  rintro (h1 | ⟨h1, h2, h3⟩)
  · omega
  · rcases h with h | ⟨h4, h5, h6⟩
    · omega
    · rw [h2] at h6; cases h6
theorem skLt_irr (a : Skp) : ¬ skLt a a := fun h => skLt_trans_no h h
theorem sk_eq : ∀ (l l' : List Skp), l.Pairwise skLt → l'.Pairwise skLt → (∀ x, x ∈ l ↔ x ∈ l') → l = l'
  | [], [], _, _, _ => rfl
  | [], b :: _, _, _, h => by have := (h b).2 List.mem_cons_self; cases this
  | a :: _, [], _, _, h => by have := (h a).1 List.mem_cons_self; cases this
  | a :: l, b :: l', h1, h2, h => by
    have h1' := List.pairwise_cons.1 h1
    have h2' := List.pairwise_cons.1 h2
    have e : a = b := by
      rcases List.mem_cons.1 ((h a).1 List.mem_cons_self) with e | ha
      · exact e
      · rcases List.mem_cons.1 ((h b).2 List.mem_cons_self) with e | hb
        · exact e.symm
        · exact absurd (h2'.1 a ha) (skLt_trans_no (h1'.1 b hb))
    subst e
    congr 1
    refine sk_eq l l' h1'.2 h2'.2 (fun x => ?_)
    have hx := h x
    constructor
    · intro hl
      rcases List.mem_cons.1 (hx.1 (List.mem_cons_of_mem _ hl)) with e | h3
      · subst e; exact absurd (h1'.1 x hl) (skLt_irr x)
      · exact h3
    · intro hl
      rcases List.mem_cons.1 (hx.2 (List.mem_cons_of_mem _ hl)) with e | h3
      · subst e; exact absurd (h2'.1 x hl) (skLt_irr x)
      · exact h3
theorem wantP_sort (L : Nat → Nat) (n : Nat) : (wantP L n).Pairwise skLt := by
  unfold wantP
  refine List.pairwise_map.2 (List.Pairwise.imp ?_ (List.Pairwise.filter _ List.pairwise_lt_range))
  intro a b h
  unfold skLt
  simp only
  rcases Nat.lt_or_ge (a / 2) (b / 2) with h1 | h1
  · exact .inl h1
  · refine .inr ⟨by omega, decide_eq_false (by omega), decide_eq_true (by omega)⟩
theorem PoS.skips (h : PoS ks s) (hw : PoW N ks en fd L) (hN : ks.length = N) (hb : N ≤ 1000) {sk : List Skp} (ho : SkOk true ((s.expire 6).told).lat sk) : sk = wantP L 8 := by
  refine sk_eq _ _ ho.sort (wantP_sort _ _) (fun a => ?_)
  rw [ho.mem]
  unfold wantP
  rw [List.mem_map]
  obtain ⟨a1, a2, a3⟩ := a
  constructor
  · rintro ⟨h1, _⟩
    obtain ⟨x, hx, e⟩ := h.lat_dom hw hN hb h1
    injection e with e1 e2
    simp only at h1 e1 e2
    rw [e1, e2, h.lat hw hN hb x hx] at h1
    by_cases h0 : L x = 0
    · rw [if_pos h0] at h1; cases h1
    · rw [if_neg h0] at h1
      injection h1 with h1
      exact ⟨x, List.mem_filter.2 ⟨List.mem_range.2 hx, decide_eq_true (by omega)⟩, by rw [e1, e2, h1]⟩
  · rintro ⟨x, hx, e⟩
    obtain ⟨h1, h2⟩ := List.mem_filter.1 hx
    have h1' := List.mem_range.1 h1
    have h2' := of_decide_eq_true h2
    injection e with e1 e2
    injection e2 with e2 e3
    refine ⟨?_, .inl rfl⟩
    simp only
    rw [← e1, ← e2, ← e3, h.lat hw hN hb x h1', if_neg (by omega)]
end
section
variable {R : World → (Nat → Prop) → Nat → FS → Prop} {w V V' : World} {p g N en k : Nat} {ks ks2 : List Nat} {fd : Bool} {L : Nat → Nat} {s : FS}
end
end Go.Proofs.Ytfgfiiknbkakaaa.Fl

set_option linter.unusedVariables false
set_option linter.unusedSimpArgs false
namespace Go.Proofs.Ytfgfiiknbkakaaa.Fl
open Go.ChangeShapes Go.WideShapes Go.ChangeAt Go.RowKit Go.Deep Go.Proofs.Ytfgfiiknbkakaaa.Words Go.Proofs.Ytfgfiiknbkakaaa.Oct Go.Proofs.Ytfgfiiknbkakaaa.Par Go.Proofs.Ytfgfiiknbkakaaa.Chk
section
variable {s s' : FS} {now i j : Nat} {p q : Pt} {r : Option Ck}
theorem firstLost.uniq (h : firstLost s i) (h' : firstLost s j) : i = j := by
  obtain ⟨p, h1, h2, h3⟩ := h
  obtain ⟨q, h4, h5, h6⟩ := h'
  rcases Nat.lt_trichotomy i j with e | e | e
  · exact absurd h2 (h6 i p e h1)
  · exact e
  · exact absurd h5 (h3 j q e h4)
theorem AgainR.hit_inv (h : AgainR now s s' r) (hf : firstLost s i) (hp : s.ps[i]? = some p) (hs : p.spent = false) : s' = { s with ps := s.ps.modify i (againP now) } ∧ r = some p.c := by
  cases h with
  | none hn => obtain ⟨q, h1, h2, _⟩ := hf; exact absurd h2 (hn q (List.mem_of_getElem? h1))
  | skip hf' hp' hs' _ =>
    have := hf.uniq hf'
    subst this
    rw [hp] at hp'
    injection hp' with hp'
    rw [← hp', hs] at hs'
    cases hs'
  | hit hf' hp' _ =>
    have := hf.uniq hf'
    subst this
    rw [hp] at hp'
    injection hp' with hp'
    rw [hp']
    exact ⟨rfl, rfl⟩
theorem AgainR.skip_inv (h : AgainR now s s' r) (hf : firstLost s i) (hp : s.ps[i]? = some p) (hs : p.spent = true) : AgainR now (s.abandon p.m) s' r := by
  cases h with
  | none hn => obtain ⟨q, h1, h2, _⟩ := hf; exact absurd h2 (hn q (List.mem_of_getElem? h1))
  | skip hf' hp' hs' h' =>
    have := hf.uniq hf'
    subst this
    rw [hp] at hp'
    injection hp' with hp'
    rw [hp']
    exact h'
  | hit hf' hp' hs' =>
    have := hf.uniq hf'
    subst this
    rw [hp] at hp'
    injection hp' with hp'
    rw [← hp', hs] at hs'
    cases hs'
end
theorem modGet {α : Type} (l : List α) (i j : Nat) (f : α → α) : (l.modify i f)[j]? = if i = j then (l[j]?).map f else l[j]? := by
  rw [List.getElem?_modify]
  split
  · rename_i h; subst h; cases l[i]? <;> simp
  · rename_i h; cases l[j]? <;> simp
/-- A fragment's part that never turns. -/
structure TmP (k : Nat) (pn : Nat) (other : Int) (i : Nat) (q : Pt) : Prop where
  m : q.m = if i < pn then 7 else other
  lk : q.lk = if i < pn then 1 else 0
  ln : q.ln = if i < pn then k else 0
  st : q.c.st = if i < pn then 4 else 1
  lo : q.c.lo = false
  mid : q.c.mid = if i < pn then 9 else 0
/-- Pieces of message 7, and another one: how often each was sent, and its state. -/
structure TmS (k pn : Nat) (other : Int) (n : Nat) (sent st : Nat → Nat) (s : FS) : Prop where
  fresh : s.fresh = true
  mark : s.mark = 99
  ms : s.ms.length = n
  len : s.ps.length = n
  gone : ∀ x, s.gone x = false
  at_ : ∀ (i : Nat) q, s.ps[i]? = some q → q.sent = sent i ∧ q.st = st i ∧ TmP k pn other i q ∧ (q.st ≤ 1 → q.c.tsn = 100 + i)
section
variable {k pn n : Nat} {other : Int} {sent st : Nat → Nat} {s : FS}
theorem TmS.nil : TmS k pn other 0 (fun _ => 1) (fun _ => 0) (fs0 100) := ⟨rfl, rfl, rfl, rfl, fun _ => rfl, fun i q h => by simp [fs0] at h⟩
def tmK (i : Nat) : Ck := { zeroC 64 with st := 4, mid := 9, fr := i, body := [120] }
def tmO : Ck := { zeroC 64 with st := 1, body := [121] }
theorem TmS.snoc (h : TmS k pn other n (fun _ => 1) (fun _ => 0) s) (hn : n < pn) (hb : n < 1000) : TmS k pn other (n + 1) (fun _ => 1) (fun _ => 0) (s.send 7 1 k (tmK n) 0) := by
  have hnx : s.next = 100 + n := by
    unfold FS.next tsnOf
    rw [h.mark, h.len]
    omega
  refine ⟨h.fresh, h.mark, ?_, ?_, h.gone, fun j q hq => ?_⟩
  · show (_ :: s.ms).length = _
    simp [h.ms]
  · show (s.ps ++ [_]).length = _
    simp [h.len]
  · change (s.ps ++ [_])[j]? = some q at hq
    rcases gets_snoc hq with ⟨h1, h2⟩ | ⟨rfl, rfl⟩
    · exact h.at_ j q h2
    · rw [h.len]
      refine ⟨rfl, rfl, ⟨by rw [if_pos hn], by rw [if_pos hn], by rw [if_pos hn], by rw [if_pos hn]; rfl, rfl, by rw [if_pos hn]; rfl⟩, fun _ => hnx⟩
theorem TmS.last (h : TmS k pn other pn (fun _ => 1) (fun _ => 0) s) (hb : pn < 1000) : TmS k pn other (pn + 1) (fun _ => 1) (fun _ => 0) (s.send other 0 0 tmO 0) := by
  have hnx : s.next = 100 + pn := by
    unfold FS.next tsnOf
    rw [h.mark, h.len]
    omega
  have hn : ¬ pn < pn := Nat.lt_irrefl _
  refine ⟨h.fresh, h.mark, ?_, ?_, h.gone, fun j q hq => ?_⟩
  · show (_ :: s.ms).length = _
    simp [h.ms]
  · show (s.ps ++ [_]).length = _
    simp [h.len]
  · change (s.ps ++ [_])[j]? = some q at hq
    rcases gets_snoc hq with ⟨h1, h2⟩ | ⟨rfl, rfl⟩
    · exact h.at_ j q h2
    · rw [h.len]
      refine ⟨rfl, rfl, ⟨by rw [if_neg hn], by rw [if_neg hn], by rw [if_neg hn], by rw [if_neg hn]; rfl, rfl, by rw [if_neg hn]; rfl⟩, fun _ => hnx⟩
theorem TmS.late (h : TmS k pn other n sent (fun _ => 0) s) : TmS k pn other n sent (fun _ => 1) s.late := by
  refine ⟨h.fresh, h.mark, h.ms, by show (s.ps.map _).length = _; rw [List.length_map, h.len], h.gone, fun j q hq => ?_⟩
  change (s.ps.map _)[j]? = some q at hq
  rw [List.getElem?_map] at hq
  cases hj : s.ps[j]? with
  | none => rw [hj] at hq; cases hq
  | some y =>
    rw [hj] at hq
    injection hq with hq
    obtain ⟨h1, h2, h3, h4⟩ := h.at_ j y hj
    change y.st = 0 at h2
    simp only at hq
    rw [if_pos h2] at hq
    rw [← hq]
    exact ⟨h1, rfl, ⟨h3.m, h3.lk, h3.ln, h3.st, h3.lo, h3.mid⟩, fun _ => h4 (by omega)⟩
def upd (f : Nat → Nat) (i v : Nat) : Nat → Nat := fun j => if j = i then v else f j
/-- Which is lost first. -/
theorem TmS.first (h : TmS k pn other n sent st s) {i : Nat} (hi : i < n) (h1 : st i = 1) (h0 : ∀ j, j < i → st j ≠ 1) : ∃ q, s.ps[i]? = some q ∧ firstLost s i ∧ TmP k pn other i q ∧ q.sent = sent i ∧ q.c.tsn = 100 + i := by
  have hq := List.getElem?_eq_getElem (show i < s.ps.length by rw [h.len]; exact hi)
  obtain ⟨a, b, c, d⟩ := h.at_ i _ hq
  refine ⟨_, hq, ⟨_, hq, by rw [b]; exact h1, fun j q' hj hq' => ?_⟩, c, a, d (by rw [b, h1]; exact Nat.le_refl _)⟩
  rw [(h.at_ j q' hq').2.1]
  exact h0 j hj
theorem TmS.hit (h : TmS k pn other n sent st s) {i : Nat} (hi : i < n) (h1 : st i = 1) (hb : sent i < 1000) : TmS k pn other n (upd sent i (sent i + 1)) (upd st i 0) { s with ps := s.ps.modify i (againP 1) } := by
  refine ⟨h.fresh, h.mark, h.ms, by show (s.ps.modify i _).length = _; rw [List.length_modify, h.len], h.gone, fun j q hq => ?_⟩
  change (s.ps.modify i (againP 1))[j]? = some q at hq
  rw [modGet] at hq
  unfold upd
  by_cases e : i = j
  · subst e
    rw [if_pos rfl] at hq
    rw [if_pos rfl, if_pos rfl]
    cases hj : s.ps[i]? with
    | none => rw [hj] at hq; cases hq
    | some y =>
      rw [hj] at hq
      injection hq with hq
      obtain ⟨a, b, c, d⟩ := h.at_ i y hj
      rw [← hq]
      refine ⟨?_, rfl, ⟨c.m, c.lk, c.ln, c.st, c.lo, c.mid⟩, fun _ => d (by rw [b, h1]; exact Nat.le_refl _)⟩
      show (y.sent + 1) % _ = _
      rw [a]; omega
  · rw [if_neg e] at hq
    rw [if_neg (fun e' => e e'.symm), if_neg (fun e' => e e'.symm)]
    exact h.at_ j q hq
theorem TmS.again (h : TmS k pn other n sent st s) {s' : FS} {r : Option Ck} (ha : AgainR 1 s s' r) {i : Nat} (hi : i < n) (h1 : st i = 1) (h0 : ∀ j, j < i → st j ≠ 1) (hsp : i < pn → sent i ≤ k) (hb : sent i < 1000) : TmS k pn other n (upd sent i (sent i + 1)) (upd st i 0) s' ∧ ∃ c, r = some c ∧ c.tsn = 100 + i ∧ c.st = if i < pn then 4 else 1 := by
  obtain ⟨q, hq, hf, ht, hse, htn⟩ := h.first hi h1 h0
  have hs : q.spent = false := by
    unfold Pt.spent
    rw [ht.lk, ht.ln, hse]
    by_cases e : i < pn
    · rw [if_pos e, if_pos e, decide_eq_false (by have := hsp e; omega)]; rfl
    · rw [if_neg e]; rfl
  obtain ⟨rfl, rfl⟩ := ha.hit_inv hf hq hs
  exact ⟨h.hit hi h1 hb, q.c, rfl, htn, ht.st⟩
theorem TmS.noexp (h : TmS k pn other n sent st s) (x : Int) : deadB 1 s.ps x = false := by
  refine List.any_eq_false.2 (fun q hq => ?_)
  obtain ⟨i, hi⟩ := List.mem_iff_getElem?.1 hq
  obtain ⟨_, _, c, _⟩ := h.at_ i q hi
  have : q.late 1 = false := by
    unfold Pt.late
    rw [c.lk]
    split <;> rfl
  rw [this]
  simp
theorem TmS.exp (h : TmS k pn other n sent st s) : (∀ x, (s.expire 1).gone x = false) ∧ TmS k pn other n sent st (s.expire 1).told := by
  have e : (s.expire 1).told = { s with gone := fun _ => false } := by
    have : s.ps.map (fun p => if p.left = true ∧ deadB 1 s.ps p.m = true then p.turn 3 else p) = s.ps := by
      conv => rhs; rw [← List.map_id s.ps]
      refine List.map_congr_left (fun q _ => ?_)
      rw [h.noexp]
      simp
    show ({ s with ps := _, gone := _ } : FS).told = _
    rw [this]
    rfl
  refine ⟨fun x => ?_, by rw [e]; exact ⟨h.fresh, h.mark, h.ms, h.len, fun _ => rfl, h.at_⟩⟩
  show (s.gone x || deadB 1 s.ps x) = false
  rw [h.gone, h.noexp]
  rfl
structure TmE (pn : Nat) (s : FS) : Prop where
  mark : s.mark = 99
  len : s.ps.length = pn + 1
  gone : ∀ x, s.gone x = decide (x = 7)
  row : ∀ (i : Nat) q, i < pn → s.ps[i]? = some q → q.st = 3 ∧ q.c.st = 4 ∧ q.c.lo = false ∧ q.c.mid = 9
  end_ : ∀ q, s.ps[pn]? = some q → q.st = 0 ∧ q.lk = 0
theorem TmS.spent (h : TmS k pn other (pn + 1) (fun _ => 1 + k) (fun _ => 1) s) (hp : 0 < pn) {s' : FS} {r : Option Ck} (ha : AgainR 1 s s' r) : AgainR 1 (s.abandon 7) s' r := by
  obtain ⟨q, hq, hf, ht, hse, _⟩ := h.first (i := 0) (by omega) rfl (fun j hj => by omega)
  have hs : q.spent = true := by
    unfold Pt.spent
    rw [ht.lk, ht.ln, hse, if_pos hp, if_pos hp, decide_eq_true (by omega)]
    rfl
  have := ha.skip_inv hf hq hs
  rw [ht.m, if_pos hp] at this
  exact this
theorem TmE.row_eq (h : TmE pn s) : s.row = s.ps.take pn := by
  refine tw_take' _ _ _ (by rw [h.len]; omega) (fun j q hj hq => by rw [(h.row j q hj hq).1]; rfl) (fun q hq => by rw [(h.end_ q hq).1]; rfl)
theorem TmE.skips (h : TmE pn s) (hp : 0 < pn) {sk : List Skp} (ho : SkOk true s.lat sk) : sk = [(4, false, 9)] := by
  have key : ∀ m, m ≤ pn → ∀ k, ((s.ps.take m).foldl latF fun _ => none) k = if 0 < m ∧ k = (4, false) then some 9 else none := by
    intro m
    induction m with
    | zero => intro _ k; simp
    | succ m ih =>
      intro hm k
      obtain ⟨y, hq⟩ : ∃ y, s.ps[m]? = some y := ⟨_, List.getElem?_eq_getElem (show m < s.ps.length by rw [h.len]; omega)⟩
      obtain ⟨_, h2, h3, h4⟩ := h.row m _ (by omega) hq
      rw [List.take_add_one, hq, Option.toList, List.foldl_append]
      have hih := ih (by omega)
      show latF ((s.ps.take m).foldl latF fun _ => none) y k = _
      generalize (s.ps.take m).foldl latF (fun _ => none) = f at hih ⊢
      unfold latF
      rw [h2, h3, h4]
      by_cases e : k = (4, false)
      · rw [if_pos e, if_pos ⟨by omega, e⟩, hih, e]
        by_cases e2 : 0 < m
        · rw [if_pos ⟨e2, rfl⟩]; rfl
        · rw [if_neg (fun x => e2 x.1)]; rfl
      · rw [if_neg e, hih, if_neg (fun x => e x.2), if_neg (fun x => e x.2)]
  have hl : ∀ k, s.lat k = if k = (4, false) then some 9 else none := fun k => by
    unfold FS.lat
    rw [h.row_eq, key pn (Nat.le_refl _)]
    by_cases e : k = (4, false)
    · rw [if_pos ⟨hp, e⟩, if_pos e]
    · rw [if_neg (fun x => e x.2), if_neg e]
  refine sk_eq _ _ ho.sort (List.pairwise_singleton _ _) (fun a => ?_)
  rw [ho.mem, hl, List.mem_singleton]
  obtain ⟨a1, a2, a3⟩ := a
  simp only
  constructor
  · rintro ⟨h1, _⟩
    by_cases e : ((a1, a2) : Ln) = (4, false)
    · rw [if_pos e] at h1
      injection h1 with h1
      injection e with e1 e2
      rw [e1, e2, ← h1]
    · rw [if_neg e] at h1; cases h1
  · intro e
    injection e with e1 e2
    injection e2 with e2 e3
    rw [e1, e2, e3]
    exact ⟨rfl, .inl trivial⟩
theorem TmE.nolate (h : TmE pn s) (x : Int) : deadB 1 s.ps x = false := by
  refine List.any_eq_false.2 (fun q hq => ?_)
  obtain ⟨i, hi⟩ := List.mem_iff_getElem?.1 hq
  have hil : i < pn + 1 := by rw [← h.len]; exact (List.getElem?_eq_some_iff.1 hi).1
  rcases Nat.lt_or_ge i pn with h1 | h1
  · have : q.left = false := by unfold Pt.left; rw [(h.row i q h1 hi).1]; rfl
    rw [this]; simp
  · have e : i = pn := by omega
    subst e
    have : q.late 1 = false := by unfold Pt.late; rw [(h.end_ q hi).2]; rfl
    rw [this]; simp
theorem TmE.left (h : TmE pn s) : (s.expire 1).told.left = 1 := by
  have e : (s.expire 1).told.ps = s.ps := by
    show s.ps.map (fun p => if p.left = true ∧ deadB 1 s.ps p.m = true then p.turn 3 else p) = s.ps
    conv => rhs; rw [← List.map_id s.ps]
    refine List.map_congr_left (fun q _ => ?_)
    rw [h.nolate]
    simp
  unfold FS.left
  rw [e]
  have hs : s.ps = s.ps.take pn ++ s.ps.drop pn := (List.take_append_drop _ _).symm
  rw [hs, List.countP_append]
  have h1 : (s.ps.take pn).countP Pt.left = 0 := by
    rw [List.countP_eq_zero]
    intro q hq
    obtain ⟨i, hi⟩ := List.mem_iff_getElem?.1 hq
    rw [List.getElem?_take] at hi
    split at hi
    · rename_i hlt
      unfold Pt.left
      rw [(h.row i q hlt hi).1]
      decide
    · cases hi
  have h2 : (s.ps.drop pn).length = 1 := by rw [List.length_drop, h.len]; omega
  obtain ⟨y, hy⟩ : ∃ y, s.ps.drop pn = [y] := List.length_eq_one_iff.1 h2
  have h3 : s.ps[pn]? = some y := by
    have := congrArg (fun l => l[0]?) hy
    simpa using this
  rw [h1, hy]
  have : y.left = true := by unfold Pt.left; rw [(h.end_ y h3).1]; rfl
  simp [this]
theorem bareA_oneF (c : Ck) (A : Option Addr) (n cp : Nat) : (bareA c A n cp).all (·.oneCell') = true := by simp [bareA, ckArr, Value.oneCell']
end
end Go.Proofs.Ytfgfiiknbkakaaa.Fl

set_option linter.unusedVariables false
set_option linter.unusedSimpArgs false
namespace Go.Proofs.Ytfgfiiknbkakaaa.Fl
open Go.ChangeShapes Go.WideShapes Go.ChangeAt Go.RowKit Go.Deep Go.Proofs.Ytfgfiiknbkakaaa.Words Go.Proofs.Ytfgfiiknbkakaaa.Oct Go.Proofs.Ytfgfiiknbkakaaa.Par Go.Proofs.Ytfgfiiknbkakaaa.Chk
def arP (q : Pt) : Pt := if q.st = 2 then q else q.turn 2
theorem arP_two (q : Pt) : (arP q).st = 2 := by
  unfold arP
  split
  · assumption
  · rfl
theorem arP_idem (q : Pt) : arP (arP q) = arP q := by
  have h := arP_two q
  generalize arP q = r at h ⊢
  unfold arP
  rw [if_pos h]
section
variable {now i j : Nat} {a : AS} {s : FS} {c : Ck}
theorem arrG (now : Nat) (a : AS) (i j : Nat) : (arriveF now a i).s.ps[j]? = if i = j then (a.s.ps[j]?).map arP else a.s.ps[j]? := by
  unfold arriveF
  cases hp : a.s.ps[i]? with
  | none =>
    simp only
    split
    · rename_i e; subst e; rw [hp]; rfl
    · rfl
  | some p =>
    simp only
    by_cases h2 : p.st = 2
    · rw [if_pos h2]
      split
      · rename_i e; subst e; rw [hp]
        show _ = some (arP p)
        unfold arP
        rw [if_pos h2]
      · rfl
    · rw [if_neg h2]
      show (a.s.ps.modify i (Pt.turn 2))[j]? = _
      rw [modGet]
      split
      · rename_i e; subst e; rw [hp]
        show some _ = some (arP p)
        unfold arP
        rw [if_neg h2]
      · rfl
/-- All that a fold of arrivals leaves as it was. -/
structure SameA (x y : AS) : Prop where
  mark : y.s.mark = x.s.mark
  gone : y.s.gone = x.s.gone
  len : y.s.ps.length = x.s.ps.length
theorem arrSame (now : Nat) (a : AS) (i : Nat) : SameA a (arriveF now a i) := by
  unfold arriveF
  split
  · exact ⟨rfl, rfl, rfl⟩
  · split
    · exact ⟨rfl, rfl, rfl⟩
    · exact ⟨rfl, rfl, List.length_modify ..⟩
theorem foldSame (now : Nat) (l : List Nat) (a : AS) : SameA a (l.foldl (arriveF now) a) := by
  induction l generalizing a with
  | nil => exact ⟨rfl, rfl, rfl⟩
  | cons i l ih =>
    have h1 := arrSame now a i
    have h2 := ih (arriveF now a i)
    exact ⟨h2.mark.trans h1.mark, h2.gone.trans h1.gone, h2.len.trans h1.len⟩
theorem foldG (now : Nat) (l : List Nat) (a : AS) (j : Nat) : (l.foldl (arriveF now) a).s.ps[j]? = if j ∈ l then (a.s.ps[j]?).map arP else a.s.ps[j]? := by
  induction l generalizing a with
  | nil => simp
  | cons i l ih =>
    show (l.foldl (arriveF now) (arriveF now a i)).s.ps[j]? = _
    rw [ih, arrG]
    by_cases e : i = j
    · subst e
      rw [if_pos rfl, if_pos List.mem_cons_self]
      split
      · cases a.s.ps[i]? with
        | none => rfl
        | some q => show some _ = some _; rw [arP_idem]
      · rfl
    · rw [if_neg e]
      by_cases hj : j ∈ l
      · rw [if_pos hj, if_pos (List.mem_cons_of_mem _ hj)]
      · rw [if_neg hj, if_neg (fun h => (List.mem_cons.1 h).elim (fun h => e h.symm) hj)]
theorem missG (s : FS) (n j : Nat) : (s.miss n).ps[j]? = if j < n then (s.ps[j]?).map missP else s.ps[j]? := by
  show ((s.ps.take n).map missP ++ s.ps.drop n)[j]? = _
  rw [List.getElem?_append]
  have hl : ((s.ps.take n).map missP).length = min n s.ps.length := by simp
  rw [hl]
  split
  · rename_i h
    rw [if_pos (by omega), List.getElem?_map, List.getElem?_take, if_pos (by omega)]
  · rename_i h
    rw [List.getElem?_drop]
    rcases Nat.lt_or_ge j n with h1 | h1
    · have h2 : s.ps.length ≤ j := by omega
      rw [if_pos h1, List.getElem?_eq_none (by omega), List.getElem?_eq_none h2]; rfl
    · rw [if_neg (by omega)]
      rcases Nat.lt_or_ge s.ps.length n with h3 | h3
      · rw [List.getElem?_eq_none (by omega), List.getElem?_eq_none (by omega)]
      · congr 1; omega
theorem missLen (s : FS) (n : Nat) : (s.miss n).ps.length = s.ps.length := by
  show ((s.ps.take n).map missP ++ s.ps.drop n).length = _
  simp
  omega
theorem missP_two {q : Pt} (h : q.st = 2) : missP q = q := by
  unfold missP
  rw [if_neg (by omega)]
/-- What missing leaves of a fragment in flight or lost. -/
theorem missP_keep {q : Pt} (h : q.st = 0) : ((missP q).st = 0 ∨ (missP q).st = 1) ∧ (missP q).c = q.c ∧ (missP q).lk = q.lk ∧ (missP q).sent = q.sent := by
  unfold missP
  rw [if_pos h]
  split
  · exact ⟨.inr rfl, rfl, rfl, rfl⟩
  · exact ⟨.inl h, rfl, rfl, rfl⟩
/-- A Sack that is sound: fragment by fragment. -/
theorem ackG (now : Nat) (h : sound s c = true) {on : Nat} (hon : distN s.mark c.tsn = on) (j : Nat) : ∃ (n : Nat) (f : Option Pt), f = (if on + j ∈ hits on c.gaps then (s.ps[on + j]?).map arP else s.ps[on + j]?) ∧ (ackF now s c).1.ps[j]? = if on + j < n then f.map missP else f := by
  have hf := foldG now (hits on c.gaps) ⟨s, 0, 0, -1⟩ (on + j)
  have hA : ackA now s c = (hits on c.gaps).foldl (arriveF now) ⟨s, 0, 0, -1⟩ := by unfold ackA; rw [hon]
  have hps : (ackF now s c).1.ps = ((ackA now s c).s.miss (ackA now s c).newest).ps.drop on := by
    unfold ackF
    rw [if_pos h, hon]
    rfl
  refine ⟨(ackA now s c).newest, _, rfl, ?_⟩
  rw [hps, List.getElem?_drop, missG, hA, hf]
theorem forgetMark (s : FS) (n : Nat) : (s.forget n).mark = (s.mark + n) % 4294967296 := rfl
theorem forgetPs (s : FS) (n : Nat) : (s.forget n).ps = s.ps.drop n := rfl
theorem forgetGone (s : FS) (n : Nat) : (s.forget n).gone = s.gone := rfl
theorem missMark (s : FS) (n : Nat) : (s.miss n).mark = s.mark := rfl
theorem missGone (s : FS) (n : Nat) : (s.miss n).gone = s.gone := rfl
theorem ackF_eq (now : Nat) (h : sound s c = true) {on : Nat} (hon : distN s.mark c.tsn = on) : ackF now s c = (((ackA now s c).s.miss (ackA now s c).newest).forget on, ⟨(ackA now s c).bytes, decide (0 < on), ((ackA now s c).s.ps.take (ackA now s c).newest).any lostP, (ackA now s c).rtt, false⟩) := by
  unfold ackF
  rw [if_pos h, hon]
theorem ackSame (now : Nat) : SameA ⟨s, 0, 0, -1⟩ (ackA now s c) := foldSame now _ _
theorem ackMk (now : Nat) (h : sound s c = true) {on : Nat} (hon : distN s.mark c.tsn = on) : (ackF now s c).1.mark = (s.mark + on) % 4294967296 := by
  have h1 := (ackSame (s := s) (c := c) now).mark
  rw [ackF_eq now h hon, forgetMark, missMark, h1]
theorem ackGone (now : Nat) (h : sound s c = true) {on : Nat} (hon : distN s.mark c.tsn = on) : (ackF now s c).1.gone = s.gone := by
  have h1 := (ackSame (s := s) (c := c) now).gone
  rw [ackF_eq now h hon, forgetGone, missGone, h1]
theorem ackLen (now : Nat) (h : sound s c = true) {on : Nat} (hon : distN s.mark c.tsn = on) : (ackF now s c).1.ps.length = s.ps.length - on := by
  have h1 := (ackSame (s := s) (c := c) now).len
  rw [ackF_eq now h hon, forgetPs, List.length_drop, missLen, h1]
theorem ackBad (now : Nat) (h : sound s c = true) {on : Nat} (hon : distN s.mark c.tsn = on) : (ackF now s c).2.bad = false := by
  rw [ackF_eq now h hon]
theorem pairBytes (f : FS) (b : Nat) (o l : Bool) (r : Int) (x : Bool) : ((f, (⟨b, o, l, r, x⟩ : Ak)) : FS × Ak).2.bytes = b := rfl
theorem ackBytes (now : Nat) (h : sound s c = true) {on : Nat} (hon : distN s.mark c.tsn = on) : (ackF now s c).2.bytes = (ackA now s c).bytes := by
  rw [ackF_eq now h hon, pairBytes]
theorem hits_mem {on k : Nat} {gs : List Gp} : k ∈ hits on gs ↔ k < on ∨ ∃ g ∈ gs, ∃ d, g.1 ≤ d ∧ d ≤ g.2 ∧ k = on + d - 1 := by
  unfold hits
  rw [List.mem_append, List.mem_range, List.mem_flatten]
  constructor
  · rintro (h | ⟨l, hl, hk⟩)
    · exact .inl h
    · obtain ⟨g, hg, rfl⟩ := List.mem_map.1 hl
      unfold gapPl at hk
      obtain ⟨d, hd, e⟩ := List.mem_map.1 hk
      have := List.mem_range.1 hd
      exact .inr ⟨g, hg, g.1 + d, by omega, by omega, e.symm⟩
  · rintro (h | ⟨g, hg, d, h1, h2, rfl⟩)
    · exact .inl h
    · refine .inr ⟨_, List.mem_map.2 ⟨g, hg, rfl⟩, ?_⟩
      unfold gapPl
      exact List.mem_map.2 ⟨d - g.1, List.mem_range.2 (by omega), by rw [show g.1 + (d - g.1) = d by omega]⟩
end
end Go.Proofs.Ytfgfiiknbkakaaa.Fl

set_option linter.unusedVariables false
set_option linter.unusedSimpArgs false
set_option maxRecDepth 20000
namespace Go.Proofs.Ytfgfiiknbkakaaa.Fl
open Go.ChangeShapes Go.WideShapes Go.ChangeAt Go.RowKit Go.Deep Go.Proofs.Ytfgfiiknbkakaaa.Words Go.Proofs.Ytfgfiiknbkakaaa.Oct Go.Proofs.Ytfgfiiknbkakaaa.Par Go.Proofs.Ytfgfiiknbkakaaa.Chk
def nextL : Nat → List Gp → Nat
  | l, [] => l
  | _, g :: gs => nextL (g.2 + 2) gs
theorem nextL_snoc (l : Nat) (gs : List Gp) (g : Gp) : nextL l (gs ++ [g]) = g.2 + 2 := by
  induction gs generalizing l with
  | nil => rfl
  | cons a gs ih => exact ih _
theorem gapsOk_snoc (far l : Nat) (gs : List Gp) (g : Gp) : gapsOk far l (gs ++ [g]) = (gapsOk far l gs && decide (nextL l gs ≤ g.1 ∧ g.1 ≤ g.2 ∧ g.2 ≤ far)) := by
  induction gs generalizing l with
  | nil =>
    show (decide _ && true) = (true && decide _)
    rw [Bool.and_true, Bool.true_and]
    rfl
  | cons a gs ih =>
    show (decide _ && gapsOk far (a.2 + 2) (gs ++ [g])) = (decide _ && gapsOk far (a.2 + 2) gs && decide _)
    rw [ih, Bool.and_assoc]
    rfl
theorem gapsOk_far {far far' l : Nat} {gs : List Gp} (h : gapsOk far l gs = true) (hf : far ≤ far') : gapsOk far' l gs = true := by
  induction gs generalizing l with
  | nil => rfl
  | cons a gs ih =>
    have h' : (decide (l ≤ a.1 ∧ a.1 ≤ a.2 ∧ a.2 ≤ far) && gapsOk far (a.2 + 2) gs) = true := h
    rw [Bool.and_eq_true, decide_eq_true_eq] at h'
    show (decide _ && gapsOk far' (a.2 + 2) gs) = true
    rw [ih h'.2, Bool.and_true, decide_eq_true_eq]
    omega
/-- The gaps of what arrived between up and i. -/
structure GpI (up i : Nat) (H : Nat → Bool) (gs : List Gp) : Prop where
  ok : gapsOk (i - up) 2 gs = true
  nx : nextL 2 gs ≤ i - up + 2
  mem : ∀ d, (∃ g ∈ gs, g.1 ≤ d ∧ d ≤ g.2) ↔ (2 ≤ d ∧ d ≤ i - up ∧ H (up + d - 1) = true)
section
variable {up i : Nat} {H : Nat → Bool} {gs : List Gp}
theorem GpI.nil : GpI up (up + 1) H [] := by
  refine ⟨rfl, by show 2 ≤ _; omega, fun d => ⟨fun ⟨g, hg, _⟩ => (by cases hg), fun ⟨h1, h2, _⟩ => by omega⟩⟩
/-- The next has not arrived. -/
theorem GpI.no (h : GpI up i H gs) (hi : up < i) (hn : H i = false) : GpI up (i + 1) H gs := by
  refine ⟨gapsOk_far h.ok (by omega), by have := h.nx; omega, fun d => ?_⟩
  rw [h.mem]
  constructor
  · rintro ⟨h1, h2, h3⟩
    exact ⟨h1, by omega, h3⟩
  · rintro ⟨h1, h2, h3⟩
    refine ⟨h1, ?_, h3⟩
    rcases Nat.lt_or_ge d (i + 1 - up) with h4 | h4
    · omega
    · have e : up + d - 1 = i := by omega
      rw [e, hn] at h3
      cases h3
/-- The next has arrived, and the gap before it ends right ahead of it. -/
theorem GpI.grow {g : Gp} (h : GpI up i H (gs ++ [g])) (hi : up < i) (hy : H i = true) (he : g.2 = i - up) : GpI up (i + 1) H (gs ++ [(g.1, i - up + 1)]) := by
  have h1 := h.ok
  rw [gapsOk_snoc, Bool.and_eq_true, decide_eq_true_eq] at h1
  have hf := gapsOk_far (far' := i + 1 - up) h1.1 (by omega)
  refine ⟨?_, by rw [nextL_snoc]; show i - up + 1 + 2 ≤ _; omega, fun d => ?_⟩
  · rw [gapsOk_snoc, hf, Bool.true_and, decide_eq_true_eq]
    exact ⟨h1.2.1, by show g.1 ≤ i - up + 1; omega, by show i - up + 1 ≤ _; omega⟩
  · have hm := h.mem d
    constructor
    · rintro ⟨x, hx, h2, h3⟩
      rcases List.mem_append.1 hx with hx | hx
      · obtain ⟨k1, k2, k3⟩ := hm.1 ⟨x, List.mem_append_left _ hx, h2, h3⟩
        exact ⟨k1, by omega, k3⟩
      · rw [List.mem_singleton.1 hx] at h2 h3
        dsimp only at h2 h3
        rcases Nat.lt_or_ge d (i - up + 1) with h4 | h4
        · obtain ⟨k1, k2, k3⟩ := hm.1 ⟨g, List.mem_append_right _ (List.mem_singleton.2 rfl), h2, by omega⟩
          exact ⟨k1, by omega, k3⟩
        · clear hm
          have e : up + d - 1 = i := by omega
          exact ⟨by omega, by omega, by rw [e]; exact hy⟩
    · rintro ⟨h2, h3, h4⟩
      rcases Nat.lt_or_ge d (i - up + 1) with h5 | h5
      · obtain ⟨x, hx, k1, k2⟩ := hm.2 ⟨h2, by omega, h4⟩
        rcases List.mem_append.1 hx with hx | hx
        · exact ⟨x, List.mem_append_left _ hx, k1, k2⟩
        · rw [List.mem_singleton.1 hx] at k1 k2
          exact ⟨_, List.mem_append_right _ (List.mem_singleton.2 rfl), k1, by show d ≤ i - up + 1; omega⟩
      · clear hm
        exact ⟨_, List.mem_append_right _ (List.mem_singleton.2 rfl), by show g.1 ≤ d; omega, by show d ≤ i - up + 1; omega⟩
/-- The next has arrived, and a gap of its own begins. -/
theorem GpI.more (h : GpI up i H gs) (hi : up < i) (hy : H i = true) (he : nextL 2 gs ≠ i - up + 2 ∨ gs = []) : GpI up (i + 1) H (gs ++ [(i - up + 1, i - up + 1)]) := by
  have hf := gapsOk_far (far' := i + 1 - up) h.ok (by omega)
  have hx := h.nx
  have hnx : nextL 2 gs ≤ i - up + 1 := by
    rcases he with he | rfl
    · omega
    · show 2 ≤ _; omega
  refine ⟨?_, by rw [nextL_snoc]; show i - up + 1 + 2 ≤ _; omega, fun d => ?_⟩
  · rw [gapsOk_snoc, hf, Bool.true_and, decide_eq_true_eq]
    exact ⟨hnx, Nat.le_refl _, by show i - up + 1 ≤ _; omega⟩
  · have hm := h.mem d
    constructor
    · rintro ⟨x, hx, h2, h3⟩
      rcases List.mem_append.1 hx with hx | hx
      · obtain ⟨k1, k2, k3⟩ := hm.1 ⟨x, hx, h2, h3⟩
        exact ⟨k1, by omega, k3⟩
      · rw [List.mem_singleton.1 hx] at h2 h3
        dsimp only at h2 h3
        clear hm
        have e : up + d - 1 = i := by omega
        exact ⟨by omega, by omega, by rw [e]; exact hy⟩
    · rintro ⟨h2, h3, h4⟩
      rcases Nat.lt_or_ge d (i - up + 1) with h5 | h5
      · obtain ⟨x, hx, k1, k2⟩ := hm.2 ⟨h2, by omega, h4⟩
        exact ⟨x, List.mem_append_left _ hx, k1, k2⟩
      · clear hm
        exact ⟨_, List.mem_append_right _ (List.mem_singleton.2 rfl), by show i - up + 1 ≤ d; omega, by show d ≤ i - up + 1; omega⟩
end
/-- A flight of n pieces of which those of H have arrived, all up to u, and the others are in the states that P tells. -/
structure ArS (st n u : Nat) (H : Nat → Bool) (sz : Nat → Nat) (P : Nat → Nat → Prop) (s : FS) : Prop where
  mark : s.mark = (st + 4294967295 + u) % 4294967296
  un : u ≤ n
  len : s.ps.length = n - u
  gone : ∀ x, s.gone x = false
  up : ∀ j, j < u → H j = true
  at_ : ∀ (i : Nat) q, s.ps[i]? = some q → q.lk = 0 ∧ (H (u + i) = true → q.st = 2) ∧ (H (u + i) = false → P (u + i) q.st ∧ q.c.tsn = (st + (u + i)) % 4294967296 ∧ q.c.mid = u + i ∧ q.c.body.length = sz (u + i))
section
variable {st n u up : Nat} {H H' : Nat → Bool} {sz : Nat → Nat} {P P' : Nat → Nat → Prop} {s s' : FS} {gs : List Gp} {r : Option Ck} {now : Nat}
theorem ArS.weak (h : ArS st n u H sz P s) (hp : ∀ j x, H j = false → P j x → P' j x) : ArS st n u H sz P' s :=
  ⟨h.mark, h.un, h.len, h.gone, h.up, fun i q hq => by
    obtain ⟨a, b, c⟩ := h.at_ i q hq
    exact ⟨a, b, fun hh => ⟨hp _ _ hh (c hh).1, (c hh).2⟩⟩⟩
theorem ArS.late (h : ArS st n u H sz (fun _ x => x = 0 ∨ x = 1) s) : ArS st n u H sz (fun _ x => x = 1) s.late := by
  refine ⟨h.mark, h.un, ?_, h.gone, h.up, fun i q hq => ?_⟩
  · show (s.ps.map _).length = _
    rw [List.length_map, h.len]
  · change (s.ps.map _)[i]? = some q at hq
    rw [List.getElem?_map] at hq
    cases hx : s.ps[i]? with
    | none => rw [hx] at hq; cases hq
    | some y =>
      rw [hx] at hq
      injection hq with hq
      dsimp only at hq
      obtain ⟨a, b, c⟩ := h.at_ i y hx
      cases hH : H (u + i) with
      | true =>
        have h2 := b hH
        rw [if_neg (by omega)] at hq
        subst hq
        exact ⟨a, fun _ => h2, fun e => by cases e⟩
      | false =>
        obtain ⟨c1, c2⟩ := c hH
        by_cases h0 : y.st = 0
        · rw [if_pos h0] at hq
          subst hq
          exact ⟨a, fun e => (by cases e), fun _ => ⟨rfl, c2⟩⟩
        · rw [if_neg h0] at hq
          subst hq
          exact ⟨a, fun e => (by cases e), fun _ => ⟨by omega, c2⟩⟩
/-- One that has not arrived comes again. -/
theorem ArS.again {i : Nat} (h : ArS st n u H sz (fun j x => x = if j < i then 0 else 1) s) (hi : i < n) (hH : H i = false) (ha : AgainR now s s' r) : ∃ c, r = some c ∧ c.tsn = (st + i) % 4294967296 ∧ c.mid = i ∧ c.body.length = sz i ∧ ArS st n u H sz (fun j x => x = if j < i + 1 then 0 else 1) s' := by
  have hui : u ≤ i := by
    rcases Nat.lt_or_ge i u with h1 | h1
    · have := h.up i h1; rw [hH] at this; cases this
    · exact h1
  have hl := h.len
  have hlt : i - u < s.ps.length := by omega
  have hq := List.getElem?_eq_getElem hlt
  obtain ⟨q, hqe⟩ : ∃ q, q = s.ps[i - u] := ⟨_, rfl⟩
  rw [← hqe] at hq
  have eui : u + (i - u) = i := by omega
  obtain ⟨a, b, c⟩ := h.at_ _ q hq
  rw [eui] at b c
  obtain ⟨c1, c2, c3, c4⟩ := c hH
  rw [if_neg (Nat.lt_irrefl i)] at c1
  have hf : firstLost s (i - u) := ⟨q, hq, c1, fun j y hj hy => by
    obtain ⟨_, b', c'⟩ := h.at_ j y hy
    cases hHj : H (u + j) with
    | true => have := b' hHj; omega
    | false => have := (c' hHj).1; rw [if_pos (by omega)] at this; omega⟩
  have hs : q.spent = false := by unfold Pt.spent; rw [a]; rfl
  obtain ⟨rfl, rfl⟩ := ha.hit_inv hf hq hs
  refine ⟨q.c, rfl, c2, c3, c4, ⟨h.mark, h.un, by show (s.ps.modify _ _).length = _; rw [List.length_modify, h.len], h.gone, h.up, fun k y hy => ?_⟩⟩
  change (s.ps.modify (i - u) (againP now))[k]? = some y at hy
  rw [modGet] at hy
  split at hy
  · rename_i e
    subst e
    rw [hq] at hy
    injection hy with hy
    subst hy
    rw [eui]
    exact ⟨a, fun e => (by rw [hH] at e; cases e), fun _ => ⟨by rw [if_pos (by omega)]; rfl, c2, c3, c4⟩⟩
  · rename_i e
    obtain ⟨a', b', c'⟩ := h.at_ k y hy
    refine ⟨a', b', fun hh => ⟨?_, (c' hh).2⟩⟩
    have h1 := (c' hh).1
    by_cases hk : u + k < i
    · rw [if_pos hk] at h1; rw [if_pos (by omega)]; exact h1
    · rw [if_neg hk] at h1; rw [if_neg (by omega)]; exact h1
theorem ArS.skip {i : Nat} (h : ArS st n u H sz (fun j x => x = if j < i then 0 else 1) s) (hH : H i = true) : ArS st n u H sz (fun j x => x = if j < i + 1 then 0 else 1) s :=
  h.weak (fun j x hj hx => by
    have : j ≠ i := fun e => by rw [e, hH] at hj; cases hj
    by_cases hk : j < i
    · rw [if_pos hk] at hx; rw [if_pos (by omega)]; exact hx
    · rw [if_neg hk] at hx; rw [if_neg (by omega)]; exact hx)
/-- None is left to come again. -/
theorem ArS.done (h : ArS st n u H sz (fun _ x => x = 0) s) (ha : AgainR now s s' r) : r = none ∧ s' = s := by
  have hno : ∀ i, ¬ firstLost s i := fun i ⟨p, h1, h2, _⟩ => by
    obtain ⟨_, b, c⟩ := h.at_ i p h1
    cases hH : H (u + i) with
    | true => have := b hH; omega
    | false => have := (c hH).1; omega
  cases ha with
  | none _ => exact ⟨rfl, rfl⟩
  | skip hf _ _ _ => exact absurd hf (hno _)
  | hit hf _ _ => exact absurd hf (hno _)
theorem ArS.row (h : ArS st n u H sz (fun _ x => x = 0) s) : s.row = [] := by
  unfold FS.row
  cases hp : s.ps with
  | nil => rfl
  | cons q l =>
    obtain ⟨_, b, c⟩ := h.at_ 0 q (by rw [hp]; rfl)
    have h3 : q.st ≠ 3 := by
      cases hH : H (u + 0) with
      | true => have := b hH; omega
      | false => have := (c hH).1; omega
    rw [List.takeWhile_cons_of_neg (by simpa using h3)]
theorem ArS.noexp (h : ArS st n u H sz (fun _ x => x = 0) s) (x : Int) : (s.expire now).gone x = false := by
  show (s.gone x || deadB now s.ps x) = false
  rw [h.gone, Bool.false_or]
  refine List.any_eq_false.2 (fun q hq => ?_)
  obtain ⟨i, hi⟩ := List.mem_iff_getElem?.1 hq
  obtain ⟨a, _⟩ := h.at_ i q hi
  unfold Pt.late
  rw [a]
  simp
/-- The Sack that the law lays. -/
def skA (st up : Nat) (gs : List Gp) : Ck := { zeroC 3 with tsn := (st + up + 4294967295) % 4294967296, gaps := gs }
theorem ArS.dist (h : ArS st n u H sz P s) (h1 : u ≤ up) (h2 : up ≤ n) (hn : n ≤ 40) : distN s.mark (skA st up gs).tsn = up - u := by
  have hm := h.mark
  have e : (skA st up gs).tsn = (st + up + 4294967295) % 4294967296 := rfl
  rw [e]
  generalize s.mark = M at *
  unfold distN
  omega
theorem ArS.snd (h : ArS st n u H sz P s) (h1 : u ≤ up) (h2 : up ≤ n) (hn : n ≤ 40) (hg : gapsOk (n - up) 2 gs = true) : Fl.sound s (skA st up gs) = true := by
  have hm := h.mark
  have h3 : s.last = (s.mark + (n - u)) % 4294967296 := by unfold FS.last; rw [h.len]
  obtain ⟨T, hT⟩ : ∃ T, T = (st + up + 4294967295) % 4294967296 := ⟨_, rfl⟩
  have e : Fl.sound s (skA st up gs) = (decide ((3 : Nat) = 3) && (Ser.inB (((st + up + 4294967295) % 4294967296 : Nat) : Int) (s.mark : Int) (s.last : Int) && gapsOk (distN ((st + up + 4294967295) % 4294967296) s.last) 2 gs)) := rfl
  rw [e, ← hT]
  generalize s.last = L at *
  generalize s.mark = M at *
  have hf : distN T L = n - up := by unfold distN; omega
  rw [hf, hg, Bool.and_true, decide_eq_true (rfl : (3 : Nat) = 3), Bool.true_and]
  unfold Ser.inB Ser.dist
  rw [decide_eq_true_eq]
  omega
theorem ArS.ack (h : ArS st n u H sz P s) (hP : ∀ j x, P j x → x = 0) (h1 : u ≤ up) (h2 : up ≤ n) (hn : n ≤ 40) (hH : ∀ j, H j = true → H' j = true) (hup : ∀ j, j < up → H' j = true) (hno : up < n → H' up = false) (hg : GpI up (if up < n then n else up + 1) H' gs) :
    ArS st n up H' sz (fun _ x => x = 0 ∨ x = 1) (ackF 5 s (skA st up gs)).1 ∧ (ackF 5 s (skA st up gs)).2.bad = false := by
  have hgo : gapsOk (n - up) 2 gs = true := by
    have := hg.ok
    by_cases e : up < n
    · rw [if_pos e] at this; exact this
    · rw [if_neg e] at this
      cases gs with
      | nil => rfl
      | cons g l =>
        have h9 := (hg.mem g.1).1 ⟨g, List.mem_cons_self, Nat.le_refl _, by
          have h8 : (decide (2 ≤ g.1 ∧ g.1 ≤ g.2 ∧ g.2 ≤ up + 1 - up) && gapsOk (up + 1 - up) (g.2 + 2) l) = true := this
          rw [Bool.and_eq_true, decide_eq_true_eq] at h8
          exact h8.1.2.1⟩
        rw [if_neg e] at h9
        omega
  have hs := h.snd (gs := gs) h1 h2 hn hgo
  obtain ⟨on, hon⟩ : ∃ on, on = up - u := ⟨_, rfl⟩
  have hd : distN s.mark (skA st up gs).tsn = on := by rw [h.dist h1 h2 hn, hon]
  have m1 := ackMk 5 hs hd
  have m2 := ackGone 5 hs hd
  have m3 := ackLen 5 hs hd
  have m4 := ackBad 5 hs hd
  refine ⟨⟨?_, h2, ?_, fun x => by rw [m2]; exact h.gone x, hup, fun i q hq => ?_⟩, m4⟩
  · rw [m1, h.mark, hon]
    clear m1 m2 m3 m4 hd hs hg
    omega
  · rw [m3, h.len, hon]
    omega
  · obtain ⟨n0, f, hf, hps⟩ := ackG 5 hs hd i
    rw [hps] at hq
    have hlen : up + i < n := by
      have hil : i < (ackF 5 s (skA st up gs)).1.ps.length := by
        rcases Nat.lt_or_ge i (ackF 5 s (skA st up gs)).1.ps.length with e | e
        · exact e
        · rw [← hps, List.getElem?_eq_none e] at hq
          cases hq
      rw [m3, h.len, hon] at hil
      omega
    have hhit : (on + i ∈ hits on (skA st up gs).gaps) ↔ (0 < i ∧ H' (up + i) = true) := by
      rw [hits_mem]
      have hm := hg.mem (i + 1)
      rw [if_pos (by omega : up < n)] at hm
      have e1 : up + (i + 1) - 1 = up + i := by omega
      rw [e1] at hm
      have hgs : (skA st up gs).gaps = gs := rfl
      rw [hgs]
      constructor
      · rintro (h9 | ⟨g, k1, d, k2, k3, k4⟩)
        · omega
        · have ed : d = i + 1 := by
            have hd2 := ((hg.mem d).1 ⟨g, k1, k2, k3⟩).1
            clear hm hps m1 m2 m3 m4
            omega
          subst ed
          obtain ⟨k5, _, k6⟩ := hm.1 ⟨g, k1, k2, k3⟩
          exact ⟨Nat.lt_of_succ_lt_succ k5, k6⟩
      · rintro ⟨k1, k2⟩
        obtain ⟨g, k3, k4, k5⟩ := hm.2 ⟨by omega, by omega, k2⟩
        exact .inr ⟨g, k3, i + 1, k4, k5, by omega⟩
    have hidx : u + (on + i) = up + i := by omega
    cases hx : s.ps[on + i]? with
    | none =>
      rw [hx] at hf
      have : f = none := by rw [hf]; split <;> rfl
      rw [this] at hq
      split at hq <;> cases hq
    | some y =>
      obtain ⟨a, b, c⟩ := h.at_ _ y hx
      rw [hidx] at b c
      have key : ∀ z : Pt, z.lk = 0 → (H' (up + i) = true → z.st = 2) → (H' (up + i) = false → (z.st = 0 ∨ z.st = 1) ∧ z.c.tsn = (st + (up + i)) % 4294967296 ∧ z.c.mid = up + i ∧ z.c.body.length = sz (up + i)) → ((if on + i < n0 then (some z).map missP else some z) = some q) → q.lk = 0 ∧ (H' (up + i) = true → q.st = 2) ∧ (H' (up + i) = false → (q.st = 0 ∨ q.st = 1) ∧ q.c.tsn = (st + (up + i)) % 4294967296 ∧ q.c.mid = up + i ∧ q.c.body.length = sz (up + i)) := by
        intro z z1 z2 z3 hz
        split at hz
        · injection hz with hz
          subst hz
          by_cases h0 : z.st = 0
          · obtain ⟨k1, k2, k3, _⟩ := missP_keep h0
            refine ⟨by rw [k3]; exact z1, fun e => by have := z2 e; omega, fun e => ⟨k1, ?_⟩⟩
            rw [k2]
            exact (z3 e).2
          · have e9 : missP z = z := by unfold missP; rw [if_neg h0]
            rw [e9]
            exact ⟨z1, z2, z3⟩
        · injection hz with hz
          subst hz
          exact ⟨z1, z2, z3⟩
      by_cases hh : on + i ∈ hits on (skA st up gs).gaps
      · rw [if_pos hh, hx] at hf
        have hf' : f = some (arP y) := hf
        rw [hf'] at hq
        refine key (arP y) ?_ (fun _ => arP_two y) (fun e => ?_) hq
        · unfold arP; split <;> exact a
        · have := (hhit.1 hh).2
          rw [e] at this
          cases this
      · rw [if_neg hh, hx] at hf
        rw [hf] at hq
        refine key y a (fun e => ?_) (fun e => ?_) hq
        · cases hHo : H (up + i) with
          | true => exact b hHo
          | false =>
            exfalso
            rcases Nat.eq_zero_or_pos i with h0 | h0
            · subst h0
              have h8 := hno (by omega)
              rw [Nat.add_zero] at e
              rw [h8] at e
              cases e
            · exact hh (hhit.2 ⟨h0, e⟩)
        · have hHo : H (up + i) = false := by
            cases hHo : H (up + i) with
            | true => rw [hH _ hHo] at e; cases e
            | false => rfl
          obtain ⟨c1, c2⟩ := c hHo
          exact ⟨.inl (hP _ _ c1), c2⟩
end
end Go.Proofs.Ytfgfiiknbkakaaa.Fl
