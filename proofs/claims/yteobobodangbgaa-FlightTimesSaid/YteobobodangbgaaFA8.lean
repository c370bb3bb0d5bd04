/-
  Of the texts FlTm: what the laws reach.
-/
import Derived.Test.YteobobodangbgaaFA6

set_option linter.unusedVariables false
set_option linter.unusedSimpArgs false
namespace Go.Proofs.Yteobobodangbgaa.Fl
open Go.ChangeShapes Go.WideShapes Go.ChangeAt Go.RowKit Go.Deep Go.Proofs.Yteobobodangbgaa.Words Go.Proofs.Yteobobodangbgaa.Oct Go.Proofs.Yteobobodangbgaa.Par Go.Proofs.Yteobobodangbgaa.Chk
section
variable {s s' : FS} {now i j : Nat} {p q : Pt} {r : Option Ck}
theorem firstLost.uniq (h : firstLost s i) (h' : firstLost s j) : i = j := by
  obtain ⟨p, h1, h2, h3⟩ := h
  obtain ⟨q, h4, h5, h6⟩ := h'
  rcases Nat.lt_trichotomy i j with e | e | e
  · exact absurd h2 (h6 i p e h1)
  · exact e
  · exact absurd h5 (h3 j q e h4)
theorem AgainR.none_inv (h : AgainR now s s' r) (hn : ∀ p ∈ s.ps, p.st ≠ 1) : s' = s ∧ r = Option.none := by
  cases h with
  | none _ => exact ⟨rfl, rfl⟩
  | skip hf _ _ _ => obtain ⟨q, h1, h2, _⟩ := hf; exact absurd h2 (hn q (List.mem_of_getElem? h1))
  | hit hf _ _ => obtain ⟨q, h1, h2, _⟩ := hf; exact absurd h2 (hn q (List.mem_of_getElem? h1))
theorem AgainR.hit_inv (h : AgainR now s s' r) (hf : firstLost s i) (hp : s.ps[i]? = some p) (hs : p.spent = false) : s' = { s with ps := s.ps.modify i (againP now) } ∧ r = some p.c := by
  cases h with
  | none hn => obtain ⟨q, h1, h2, _⟩ := hf; exact absurd h2 (hn q (List.mem_of_getElem? h1))
  | skip hf' hp' hs' _ =>
    have := hf.uniq hf'
    subst this
    rw [hp] at hp'
    injection hp' with hp'
    rw [← hp', hs] at hs'
    cases hs'
  | hit hf' hp' _ =>
    have := hf.uniq hf'
    subst this
    rw [hp] at hp'
    injection hp' with hp'
    rw [hp']
    exact ⟨rfl, rfl⟩
theorem AgainR.skip_inv (h : AgainR now s s' r) (hf : firstLost s i) (hp : s.ps[i]? = some p) (hs : p.spent = true) : AgainR now (s.abandon p.m) s' r := by
  cases h with
  | none hn => obtain ⟨q, h1, h2, _⟩ := hf; exact absurd h2 (hn q (List.mem_of_getElem? h1))
  | skip hf' hp' hs' h' =>
    have := hf.uniq hf'
    subst this
    rw [hp] at hp'
    injection hp' with hp'
    rw [hp']
    exact h'
  | hit hf' hp' hs' =>
    have := hf.uniq hf'
    subst this
    rw [hp] at hp'
    injection hp' with hp'
    rw [← hp', hs] at hs'
    cases hs'
end
theorem modGet {α : Type} (l : List α) (i j : Nat) (f : α → α) : (l.modify i f)[j]? = if i = j then (l[j]?).map f else l[j]? := by
  rw [List.getElem?_modify]
  split
  · rename_i h; subst h; cases l[i]? <;> simp
  · rename_i h; cases l[j]? <;> simp
/-- A fragment's part that never turns. -/
structure TmP (k : Nat) (pn : Nat) (other : Int) (i : Nat) (q : Pt) : Prop where
  m : q.m = if i < pn then 7 else other
  lk : q.lk = if i < pn then 1 else 0
  ln : q.ln = if i < pn then k else 0
  st : q.c.st = if i < pn then 4 else 1
  lo : q.c.lo = false
  mid : q.c.mid = if i < pn then 9 else 0
/-- Pieces of message 7, and another one: how often each was sent, and its state. -/
structure TmS (k pn : Nat) (other : Int) (n : Nat) (sent st : Nat → Nat) (s : FS) : Prop where
  fresh : s.fresh = true
  mark : s.mark = 99
  ms : s.ms.length = n
  len : s.ps.length = n
  gone : ∀ x, s.gone x = false
  at_ : ∀ (i : Nat) q, s.ps[i]? = some q → q.sent = sent i ∧ q.st = st i ∧ TmP k pn other i q ∧ (q.st ≤ 1 → q.c.tsn = 100 + i)
section
variable {k pn n : Nat} {other : Int} {sent st : Nat → Nat} {s : FS}
theorem TmS.nil : TmS k pn other 0 (fun _ => 1) (fun _ => 0) (fs0 100) := ⟨rfl, rfl, rfl, rfl, fun _ => rfl, fun i q h => by simp [fs0] at h⟩
def tmK (i : Nat) : Ck := { zeroC 64 with st := 4, mid := 9, fr := i, body := [120] }
def tmO : Ck := { zeroC 64 with st := 1, body := [121] }
theorem TmS.snoc (h : TmS k pn other n (fun _ => 1) (fun _ => 0) s) (hn : n < pn) (hb : n < 1000) : TmS k pn other (n + 1) (fun _ => 1) (fun _ => 0) (s.send 7 1 k (tmK n) 0) := by
  have hnx : s.next = 100 + n := by
    unfold FS.next tsnOf
    rw [h.mark, h.len]
    omega
  refine ⟨h.fresh, h.mark, ?_, ?_, h.gone, fun j q hq => ?_⟩
  · show (_ :: s.ms).length = _
    simp [h.ms]
  · show (s.ps ++ [_]).length = _
    simp [h.len]
  · change (s.ps ++ [_])[j]? = some q at hq
    rcases gets_snoc hq with ⟨h1, h2⟩ | ⟨rfl, rfl⟩
    · exact h.at_ j q h2
    · rw [h.len]
      refine ⟨rfl, rfl, ⟨by rw [if_pos hn], by rw [if_pos hn], by rw [if_pos hn], by rw [if_pos hn]; rfl, rfl, by rw [if_pos hn]; rfl⟩, fun _ => hnx⟩
theorem TmS.last (h : TmS k pn other pn (fun _ => 1) (fun _ => 0) s) (hb : pn < 1000) : TmS k pn other (pn + 1) (fun _ => 1) (fun _ => 0) (s.send other 0 0 tmO 0) := by
  have hnx : s.next = 100 + pn := by
    unfold FS.next tsnOf
    rw [h.mark, h.len]
    omega
  have hn : ¬ pn < pn := Nat.lt_irrefl _
  refine ⟨h.fresh, h.mark, ?_, ?_, h.gone, fun j q hq => ?_⟩
  · show (_ :: s.ms).length = _
    simp [h.ms]
  · show (s.ps ++ [_]).length = _
    simp [h.len]
  · change (s.ps ++ [_])[j]? = some q at hq
    rcases gets_snoc hq with ⟨h1, h2⟩ | ⟨rfl, rfl⟩
    · exact h.at_ j q h2
    · rw [h.len]
      refine ⟨rfl, rfl, ⟨by rw [if_neg hn], by rw [if_neg hn], by rw [if_neg hn], by rw [if_neg hn]; rfl, rfl, by rw [if_neg hn]; rfl⟩, fun _ => hnx⟩
theorem TmS.late (h : TmS k pn other n sent (fun _ => 0) s) : TmS k pn other n sent (fun _ => 1) s.late := by
  refine ⟨h.fresh, h.mark, h.ms, by show (s.ps.map _).length = _; rw [List.length_map, h.len], h.gone, fun j q hq => ?_⟩
  change (s.ps.map _)[j]? = some q at hq
  rw [List.getElem?_map] at hq
  cases hj : s.ps[j]? with
  | none => rw [hj] at hq; cases hq
  | some y =>
    rw [hj] at hq
    injection hq with hq
    obtain ⟨h1, h2, h3, h4⟩ := h.at_ j y hj
    change y.st = 0 at h2
    simp only at hq
    rw [if_pos h2] at hq
    rw [← hq]
    exact ⟨h1, rfl, ⟨h3.m, h3.lk, h3.ln, h3.st, h3.lo, h3.mid⟩, fun _ => h4 (by omega)⟩
def upd (f : Nat → Nat) (i v : Nat) : Nat → Nat := fun j => if j = i then v else f j
/-- Which is lost first. -/
theorem TmS.first (h : TmS k pn other n sent st s) {i : Nat} (hi : i < n) (h1 : st i = 1) (h0 : ∀ j, j < i → st j ≠ 1) : ∃ q, s.ps[i]? = some q ∧ firstLost s i ∧ TmP k pn other i q ∧ q.sent = sent i ∧ q.c.tsn = 100 + i := by
  have hq := List.getElem?_eq_getElem (show i < s.ps.length by rw [h.len]; exact hi)
  obtain ⟨a, b, c, d⟩ := h.at_ i _ hq
  refine ⟨_, hq, ⟨_, hq, by rw [b]; exact h1, fun j q' hj hq' => ?_⟩, c, a, d (by rw [b, h1]; exact Nat.le_refl _)⟩
  rw [(h.at_ j q' hq').2.1]
  exact h0 j hj
theorem TmS.hit (h : TmS k pn other n sent st s) {i : Nat} (hi : i < n) (h1 : st i = 1) (hb : sent i < 1000) : TmS k pn other n (upd sent i (sent i + 1)) (upd st i 0) { s with ps := s.ps.modify i (againP 1) } := by
  refine ⟨h.fresh, h.mark, h.ms, by show (s.ps.modify i _).length = _; rw [List.length_modify, h.len], h.gone, fun j q hq => ?_⟩
  change (s.ps.modify i (againP 1))[j]? = some q at hq
  rw [modGet] at hq
  unfold upd
  by_cases e : i = j
  · subst e
    rw [if_pos rfl] at hq
    rw [if_pos rfl, if_pos rfl]
    cases hj : s.ps[i]? with
    | none => rw [hj] at hq; cases hq
    | some y =>
      rw [hj] at hq
      injection hq with hq
      obtain ⟨a, b, c, d⟩ := h.at_ i y hj
      rw [← hq]
      refine ⟨?_, rfl, ⟨c.m, c.lk, c.ln, c.st, c.lo, c.mid⟩, fun _ => d (by rw [b, h1]; exact Nat.le_refl _)⟩
      show (y.sent + 1) % _ = _
      rw [a]; omega
  · rw [if_neg e] at hq
    rw [if_neg (fun e' => e e'.symm), if_neg (fun e' => e e'.symm)]
    exact h.at_ j q hq
theorem TmS.again (h : TmS k pn other n sent st s) {s' : FS} {r : Option Ck} (ha : AgainR 1 s s' r) {i : Nat} (hi : i < n) (h1 : st i = 1) (h0 : ∀ j, j < i → st j ≠ 1) (hsp : i < pn → sent i ≤ k) (hb : sent i < 1000) : TmS k pn other n (upd sent i (sent i + 1)) (upd st i 0) s' ∧ ∃ c, r = some c ∧ c.tsn = 100 + i ∧ c.st = if i < pn then 4 else 1 := by
  obtain ⟨q, hq, hf, ht, hse, htn⟩ := h.first hi h1 h0
  have hs : q.spent = false := by
    unfold Pt.spent
    rw [ht.lk, ht.ln, hse]
    by_cases e : i < pn
    · rw [if_pos e, if_pos e, decide_eq_false (by have := hsp e; omega)]; rfl
    · rw [if_neg e]; rfl
  obtain ⟨rfl, rfl⟩ := ha.hit_inv hf hq hs
  exact ⟨h.hit hi h1 hb, q.c, rfl, htn, ht.st⟩
theorem TmS.sent_eq (h : TmS k pn other n sent st s) {sent' st' : Nat → Nat} (h1 : ∀ i, i < n → sent i = sent' i) (h2 : ∀ i, i < n → st i = st' i) : TmS k pn other n sent' st' s :=
  ⟨h.fresh, h.mark, h.ms, h.len, h.gone, fun i q hq => by
    have hi : i < n := by rw [← h.len]; exact (List.getElem?_eq_some_iff.1 hq).1
    obtain ⟨a, b, c, d⟩ := h.at_ i q hq
    exact ⟨a.trans (h1 i hi), b.trans (h2 i hi), c, d⟩⟩
theorem TmS.noexp (h : TmS k pn other n sent st s) (x : Int) : deadB 1 s.ps x = false := by
  refine List.any_eq_false.2 (fun q hq => ?_)
  obtain ⟨i, hi⟩ := List.mem_iff_getElem?.1 hq
  obtain ⟨_, _, c, _⟩ := h.at_ i q hi
  have : q.late 1 = false := by
    unfold Pt.late
    rw [c.lk]
    split <;> rfl
  rw [this]
  simp
theorem TmS.exp (h : TmS k pn other n sent st s) : (∀ x, (s.expire 1).gone x = false) ∧ TmS k pn other n sent st (s.expire 1).told := by
  have e : (s.expire 1).told = { s with gone := fun _ => false } := by
    have : s.ps.map (fun p => if p.left = true ∧ deadB 1 s.ps p.m = true then p.turn 3 else p) = s.ps := by
      conv => rhs; rw [← List.map_id s.ps]
      refine List.map_congr_left (fun q _ => ?_)
      rw [h.noexp]
      simp
    show ({ s with ps := _, gone := _ } : FS).told = _
    rw [this]
    rfl
  refine ⟨fun x => ?_, by rw [e]; exact ⟨h.fresh, h.mark, h.ms, h.len, fun _ => rfl, h.at_⟩⟩
  show (s.gone x || deadB 1 s.ps x) = false
  rw [h.gone, h.noexp]
  rfl
theorem TmS.norow (h : TmS k pn other n sent st s) (h0 : 0 < n) (hs : st 0 ≠ 3) : s.row = [] := by
  unfold FS.row
  have hl := h.len
  cases hp : s.ps with
  | nil => rfl
  | cons q l =>
    obtain ⟨_, b, _⟩ := h.at_ 0 q (by rw [hp]; rfl)
    have : (q.st == 3) = false := by rw [b]; simpa using hs
    rw [List.takeWhile_cons, this]
    rfl
structure TmE (pn : Nat) (s : FS) : Prop where
  mark : s.mark = 99
  len : s.ps.length = pn + 1
  gone : ∀ x, s.gone x = decide (x = 7)
  row : ∀ (i : Nat) q, i < pn → s.ps[i]? = some q → q.st = 3 ∧ q.c.st = 4 ∧ q.c.lo = false ∧ q.c.mid = 9
  end_ : ∀ q, s.ps[pn]? = some q → q.st = 0 ∧ q.lk = 0
theorem abandon_get (s : FS) (m : Int) (i : Nat) : (s.abandon m).ps[i]? = (s.ps[i]?).map fun p => if p.m = m ∧ p.left = true then p.turn 3 else p := by
  show (s.ps.map _)[i]? = _
  rw [List.getElem?_map]
theorem TmS.spent (h : TmS k pn other (pn + 1) (fun _ => 1 + k) (fun _ => 1) s) (hp : 0 < pn) {s' : FS} {r : Option Ck} (ha : AgainR 1 s s' r) : AgainR 1 (s.abandon 7) s' r := by
  obtain ⟨q, hq, hf, ht, hse, _⟩ := h.first (i := 0) (by omega) rfl (fun j hj => by omega)
  have hs : q.spent = true := by
    unfold Pt.spent
    rw [ht.lk, ht.ln, hse, if_pos hp, if_pos hp, decide_eq_true (by omega)]
    rfl
  have := ha.skip_inv hf hq hs
  rw [ht.m, if_pos hp] at this
  exact this
theorem TmS.end7 (h : TmS k pn 7 (pn + 1) (fun _ => 1 + k) (fun _ => 1) s) (hp : 0 < pn) {s' : FS} {r : Option Ck} (ha : AgainR 1 s s' r) : r = none ∧ s'.left = 0 := by
  have h2 := h.spent hp ha
  have hall : ∀ q ∈ (s.abandon 7).ps, q.st = 3 := fun q hq => by
    obtain ⟨i, hi⟩ := List.mem_iff_getElem?.1 hq
    rw [abandon_get] at hi
    cases hj : s.ps[i]? with
    | none => rw [hj] at hi; cases hi
    | some y =>
      rw [hj] at hi
      injection hi with hi
      obtain ⟨_, b, c, _⟩ := h.at_ i y hj
      have hm : y.m = 7 := by rw [c.m]; split <;> rfl
      have hl : y.left = true := by unfold Pt.left; rw [b]; rfl
      simp only at hi
      rw [if_pos ⟨hm, hl⟩] at hi
      rw [← hi]
      rfl
  obtain ⟨rfl, rfl⟩ := h2.none_inv (fun q hq => by rw [hall q hq]; decide)
  refine ⟨rfl, ?_⟩
  unfold FS.left
  rw [List.countP_eq_zero]
  intro q hq
  unfold Pt.left
  rw [hall q hq]
  decide
theorem TmS.endO (h : TmS k pn other (pn + 1) (fun _ => 1 + k) (fun _ => 1) s) (hp : 0 < pn) (ho : other ≠ 7) {s' : FS} {r : Option Ck} (ha : AgainR 1 s s' r) : TmE pn s' ∧ ∃ c, r = some c ∧ c.st = 1 := by
  have h2 := h.spent hp ha
  obtain ⟨y, hO⟩ : ∃ y, s.ps[pn]? = some y := ⟨_, List.getElem?_eq_getElem (show pn < s.ps.length by rw [h.len]; omega)⟩
  obtain ⟨_, b, c, _⟩ := h.at_ pn y hO
  have hn : ¬ pn < pn := Nat.lt_irrefl _
  have hym : ¬ (y.m = 7 ∧ y.left = true) := fun e => by
    have := e.1
    rw [c.m, if_neg hn] at this
    exact ho this
  have hO2 : (s.abandon 7).ps[pn]? = some y := by rw [abandon_get, hO]; show some (if y.m = 7 ∧ y.left = true then y.turn 3 else y) = _; rw [if_neg hym]
  have hrow : ∀ (i : Nat) q, i < pn → (s.abandon 7).ps[i]? = some q → q.st = 3 ∧ q.c.st = 4 ∧ q.c.lo = false ∧ q.c.mid = 9 := fun i q hi hq => by
    rw [abandon_get] at hq
    cases hj : s.ps[i]? with
    | none => rw [hj] at hq; cases hq
    | some z =>
      rw [hj] at hq
      injection hq with hq
      obtain ⟨_, b', c', _⟩ := h.at_ i z hj
      have hm : z.m = 7 := by rw [c'.m, if_pos hi]
      have hl : z.left = true := by unfold Pt.left; rw [b']; rfl
      simp only at hq
      rw [if_pos ⟨hm, hl⟩] at hq
      rw [← hq]
      exact ⟨rfl, by show z.c.st = _; rw [c'.st, if_pos hi], c'.lo, by show z.c.mid = _; rw [c'.mid, if_pos hi]⟩
  have hf : firstLost (s.abandon 7) pn := ⟨y, hO2, by rw [b], fun j q hj hq => by rw [(hrow j q hj hq).1]; decide⟩
  have hs : y.spent = false := by unfold Pt.spent; rw [c.lk, if_neg hn]; rfl
  obtain ⟨rfl, rfl⟩ := h2.hit_inv hf hO2 hs
  refine ⟨⟨h.mark, ?_, fun x => ?_, fun i q hi hq => ?_, fun q hq => ?_⟩, y.c, rfl, by rw [c.st, if_neg hn]⟩
  · show ((s.abandon 7).ps.modify pn _).length = _
    rw [List.length_modify]
    show (s.ps.map _).length = _
    rw [List.length_map, h.len]
  · show (decide (x = 7) || s.gone x) = _
    rw [h.gone, Bool.or_false]
  · change ((s.abandon 7).ps.modify pn (againP 1))[i]? = some q at hq
    rw [modGet, if_neg (by omega)] at hq
    exact hrow i q hi hq
  · change ((s.abandon 7).ps.modify pn (againP 1))[pn]? = some q at hq
    rw [modGet, if_pos rfl, hO2] at hq
    injection hq with hq
    rw [← hq]
    exact ⟨rfl, by show y.lk = 0; rw [c.lk, if_neg hn]⟩
theorem TmE.row_eq (h : TmE pn s) : s.row = s.ps.take pn := by
  refine tw_take' _ _ _ (by rw [h.len]; omega) (fun j q hj hq => by rw [(h.row j q hj hq).1]; rfl) (fun q hq => by rw [(h.end_ q hq).1]; rfl)
theorem TmE.row_len (h : TmE pn s) : s.row.length = pn := by rw [h.row_eq, List.length_take, h.len]; omega
theorem TmE.skips (h : TmE pn s) (hp : 0 < pn) {sk : List Skp} (ho : SkOk true s.lat sk) : sk = [(4, false, 9)] := by
  have key : ∀ m, m ≤ pn → ∀ k, ((s.ps.take m).foldl latF fun _ => none) k = if 0 < m ∧ k = (4, false) then some 9 else none := by
    intro m
    induction m with
    | zero => intro _ k; simp
    | succ m ih =>
      intro hm k
      obtain ⟨y, hq⟩ : ∃ y, s.ps[m]? = some y := ⟨_, List.getElem?_eq_getElem (show m < s.ps.length by rw [h.len]; omega)⟩
      obtain ⟨_, h2, h3, h4⟩ := h.row m _ (by omega) hq
      rw [List.take_add_one, hq, Option.toList, List.foldl_append]
      have hih := ih (by omega)
      show latF ((s.ps.take m).foldl latF fun _ => none) y k = _
      generalize (s.ps.take m).foldl latF (fun _ => none) = f at hih ⊢
      unfold latF
      rw [h2, h3, h4]
      by_cases e : k = (4, false)
      · rw [if_pos e, if_pos ⟨by omega, e⟩, hih, e]
        by_cases e2 : 0 < m
        · rw [if_pos ⟨e2, rfl⟩]; rfl
        · rw [if_neg (fun x => e2 x.1)]; rfl
      · rw [if_neg e, hih, if_neg (fun x => e x.2), if_neg (fun x => e x.2)]
  have hl : ∀ k, s.lat k = if k = (4, false) then some 9 else none := fun k => by
    unfold FS.lat
    rw [h.row_eq, key pn (Nat.le_refl _)]
    by_cases e : k = (4, false)
    · rw [if_pos ⟨hp, e⟩, if_pos e]
    · rw [if_neg (fun x => e x.2), if_neg e]
  refine sk_eq _ _ ho.sort (List.pairwise_singleton _ _) (fun a => ?_)
  rw [ho.mem, hl, List.mem_singleton]
  obtain ⟨a1, a2, a3⟩ := a
  simp only
  constructor
  · rintro ⟨h1, _⟩
    by_cases e : ((a1, a2) : Ln) = (4, false)
    · rw [if_pos e] at h1
      injection h1 with h1
      injection e with e1 e2
      rw [e1, e2, ← h1]
    · rw [if_neg e] at h1; cases h1
  · intro e
    injection e with e1 e2
    injection e2 with e2 e3
    rw [e1, e2, e3]
    exact ⟨rfl, .inl trivial⟩
theorem TmE.nolate (h : TmE pn s) (x : Int) : deadB 1 s.ps x = false := by
  refine List.any_eq_false.2 (fun q hq => ?_)
  obtain ⟨i, hi⟩ := List.mem_iff_getElem?.1 hq
  have hil : i < pn + 1 := by rw [← h.len]; exact (List.getElem?_eq_some_iff.1 hi).1
  rcases Nat.lt_or_ge i pn with h1 | h1
  · have : q.left = false := by unfold Pt.left; rw [(h.row i q h1 hi).1]; rfl
    rw [this]; simp
  · have e : i = pn := by omega
    subst e
    have : q.late 1 = false := by unfold Pt.late; rw [(h.end_ q hi).2]; rfl
    rw [this]; simp
theorem TmE.gone_iff (h : TmE pn s) (x : Int) : (s.expire 1).gone x = true ↔ x ∈ [(7 : Int)] := by
  show (s.gone x || deadB 1 s.ps x) = true ↔ _
  rw [h.gone, h.nolate, Bool.or_false, decide_eq_true_eq, List.mem_singleton]
theorem TmE.left (h : TmE pn s) : (s.expire 1).told.left = 1 := by
  have e : (s.expire 1).told.ps = s.ps := by
    show s.ps.map (fun p => if p.left = true ∧ deadB 1 s.ps p.m = true then p.turn 3 else p) = s.ps
    conv => rhs; rw [← List.map_id s.ps]
    refine List.map_congr_left (fun q _ => ?_)
    rw [h.nolate]
    simp
  unfold FS.left
  rw [e]
  have hs : s.ps = s.ps.take pn ++ s.ps.drop pn := (List.take_append_drop _ _).symm
  rw [hs, List.countP_append]
  have h1 : (s.ps.take pn).countP Pt.left = 0 := by
    rw [List.countP_eq_zero]
    intro q hq
    obtain ⟨i, hi⟩ := List.mem_iff_getElem?.1 hq
    rw [List.getElem?_take] at hi
    split at hi
    · rename_i hlt
      unfold Pt.left
      rw [(h.row i q hlt hi).1]
      decide
    · cases hi
  have h2 : (s.ps.drop pn).length = 1 := by rw [List.length_drop, h.len]; omega
  obtain ⟨y, hy⟩ : ∃ y, s.ps.drop pn = [y] := List.length_eq_one_iff.1 h2
  have h3 : s.ps[pn]? = some y := by
    have := congrArg (fun l => l[0]?) hy
    simpa using this
  rw [h1, hy]
  have : y.left = true := by unfold Pt.left; rw [(h.end_ y h3).1]; rfl
  simp [this]
theorem built_tm (i : Nat) (A : Option Addr) (n c : Nat) : Try.prog.built 35 [(0, .int .u8 64), (6, .int .u16 4), (7, .int .u32 9), (9, .int .u32 (i : Int)), (18, .slice A n c)] = some (bareA (tmK i) A n c) := by kernel_rfl
theorem built_tmO (A : Option Addr) (n c : Nat) : Try.prog.built 35 [(0, .int .u8 64), (6, .int .u16 1), (18, .slice A n c)] = some (bareA tmO A n c) := by kernel_rfl
theorem tmK_ok {i : Nat} (hi : i < 65536) : (tmK i).ok :=
  ⟨by show 64 < 256; omega, by show 0 < _; omega, by show 4 < _; omega, by show 9 < _; omega, by show 0 < _; omega, by show i < _; omega, by show 0 < _; omega, by show 0 < _; omega, by show 0 < _; omega, by show 0 < _; omega, fun _ h => by simp [tmK, zeroC] at h, fun _ h => by simp [tmK, zeroC] at h, fun _ h => by simp [tmK, zeroC] at h, fun _ h => by simp [tmK, zeroC] at h⟩
theorem tmO_ok : tmO.ok :=
  ⟨by show 64 < 256; omega, by show 0 < _; omega, by show 1 < _; omega, by show 0 < _; omega, by show 0 < _; omega, by show 0 < _; omega, by show 0 < _; omega, by show 0 < _; omega, by show 0 < _; omega, by show 0 < _; omega, fun _ h => by simp [tmO, zeroC] at h, fun _ h => by simp [tmO, zeroC] at h, fun _ h => by simp [tmO, zeroC] at h, fun _ h => by simp [tmO, zeroC] at h⟩
theorem bareA_oneF (c : Ck) (A : Option Addr) (n cp : Nat) : (bareA c A n cp).all (·.oneCell') = true := by simp [bareA, ckArr, Value.oneCell']
end
end Go.Proofs.Yteobobodangbgaa.Fl
