/-
  Plain facts on packets: which chunks may be one's, its bytes, what is got of bytes.
-/
import Derived.Test.YtabkjgklmibagaaChGt
import Derived.Test.YtabkjgklmibagaaCrcPlain
import Derived.Test.YtabkjgklmibagaaChLaw
set_option linter.unusedVariables false
set_option linter.unusedSimpArgs false
namespace Go.Proofs.Ytabkjgklmibagaa.Chk
open Go.RowKit Go.Proofs.Ytabkjgklmibagaa.Words Go.Proofs.Ytabkjgklmibagaa.Oct Go.Proofs.Ytabkjgklmibagaa.Par
open Go.Proofs.Ytabkjgklmibagaa.Crc (sealL)

/-! ### which chunks -/
def aloneK (k : Nat) : Bool := k == 1 || k == 2 || k == 14
def anyAlone (ls : List Ck) : Bool := ls.any fun c => aloneK c.kind
def fitsL (ls : List Ck) : Bool := decide (1 ≤ ls.length) && decide (ls.length ≤ 64) && (decide (ls.length = 1) || !anyAlone ls)
theorem fitsL_iff {ls : List Ck} : fitsL ls = true ↔ 1 ≤ ls.length ∧ ls.length ≤ 64 ∧ (ls.length = 1 ∨ anyAlone ls = false) := by
  unfold fitsL
  simp only [Bool.and_eq_true, Bool.or_eq_true, decide_eq_true_eq, Bool.not_eq_true']
  exact ⟨fun ⟨⟨a, b⟩, c⟩ => ⟨a, b, c⟩, fun ⟨a, b, c⟩ => ⟨⟨a, b⟩, c⟩⟩
def sumC (ls : List Ck) : Nat := (ls.map fun c => 4 + sizeC c).sum
theorem sumC_snoc (ls : List Ck) (c : Ck) : sumC (ls ++ [c]) = sumC ls + (4 + sizeC c) := by simp [sumC]
theorem sumC_nil : sumC [] = 0 := rfl
theorem sumC_cons (c : Ck) (ls : List Ck) : sumC (c :: ls) = 4 + sizeC c + sumC ls := by simp [sumC]
theorem sumC_mem {ls : List Ck} {c : Ck} (h : c ∈ ls) : 4 + sizeC c ≤ sumC ls := by
  induction ls with
  | nil => simp at h
  | cons d r ih =>
    rw [sumC_cons]
    rcases List.mem_cons.1 h with rfl | h
    · omega
    · have := ih h; omega
theorem sumC_len (ls : List Ck) : 4 * ls.length ≤ sumC ls := by
  induction ls with
  | nil => simp
  | cons d r ih => rw [sumC_cons, List.length_cons]; omega
theorem small_size {c : Ck} (h : sizeC c ≤ 400000) : Small c := by
  unfold sizeC at h
  exact ⟨by omega, by omega, by omega⟩

/-! ### the bytes -/
def bodyB (ls : List Ck) : List UInt8 := (ls.map bytesC).flatten
theorem bodyB_nil : bodyB [] = [] := rfl
theorem bodyB_cons (c : Ck) (ls : List Ck) : bodyB (c :: ls) = bytesC c ++ bodyB ls := by simp [bodyB]
theorem bodyB_snoc (ls : List Ck) (c : Ck) : bodyB (ls ++ [c]) = bodyB ls ++ bytesC c := by simp [bodyB]
def AllPuts (ls : List Ck) : Prop := ∀ c ∈ ls, Puts c
/-- The first chunk that has no bytes, and its error. -/
def BadL (ls : List Ck) (k : Nat) : Prop := ∃ a c b, ls = a ++ c :: b ∧ AllPuts a ∧ PutErr c k
theorem err_one' {c : Ck} {k k' : Nat} (h : PutErr c k) (h' : PutErr c k') : k = k' := by
  rcases h with ⟨rfl, a⟩ | ⟨rfl, a, b⟩ | ⟨rfl, a, b, d⟩ <;> rcases h' with ⟨rfl, a'⟩ | ⟨rfl, a', b'⟩ | ⟨rfl, a', b', d'⟩ <;> first | rfl | (simp_all)
theorem err_puts' {c : Ck} {k : Nat} (h : PutErr c k) (p : Puts c) : False := by
  rcases h with ⟨rfl, a⟩ | ⟨rfl, a, b⟩ | ⟨rfl, a, b, d⟩
  · rw [p.known] at a; cases a
  · rw [p.full] at b; cases b
  · exact p.short d
theorem err_pos' {c : Ck} {k : Nat} (h : PutErr c k) : k ≠ 0 ∧ k ≤ 100 := by rcases h with ⟨rfl, _⟩ | ⟨rfl, _⟩ | ⟨rfl, _⟩ <;> decide
theorem bad_all {ls : List Ck} {k : Nat} (h : BadL ls k) (p : AllPuts ls) : False := by
  obtain ⟨a, c, b, rfl, _, he⟩ := h
  exact err_puts' he (p c (by simp))
theorem bad_one : ∀ {ls : List Ck} {k k' : Nat}, BadL ls k → BadL ls k' → k = k'
  | [], _, _, ⟨a, c, b, h, _, _⟩, _ => by simp at h
  | d :: r, k, k', ⟨a, c, b, h, ha, he⟩, ⟨a', c', b', h', ha', he'⟩ => by
    cases a with
    | nil =>
      cases a' with
      | nil =>
        simp only [List.nil_append, List.cons.injEq] at h h'
        rw [← h.1] at he
        rw [← h'.1] at he'
        exact err_one' he he'
      | cons x a' =>
        simp only [List.nil_append, List.cons_append, List.cons.injEq] at h h'
        rw [← h.1] at he
        exact (err_puts' he (by rw [h'.1]; exact ha' x (by simp))).elim
    | cons x a =>
      cases a' with
      | nil =>
        simp only [List.nil_append, List.cons_append, List.cons.injEq] at h h'
        rw [← h'.1] at he'
        exact (err_puts' he' (by rw [h.1]; exact ha x (by simp))).elim
      | cons x' a' =>
        simp only [List.cons_append, List.cons.injEq] at h h'
        exact bad_one ⟨a, c, b, h.2, fun y hy => ha y (by simp [hy]), he⟩ ⟨a', c', b', h'.2, fun y hy => ha' y (by simp [hy]), he'⟩
/-- What Put answers: the error, the bytes. -/
def PutP (hd : List UInt8) (ls : List Ck) (kk : Nat) (l : List UInt8) : Prop :=
  (fitsL ls = false ∧ kk = 42 ∧ l = []) ∨ (fitsL ls = true ∧ BadL ls kk ∧ l = []) ∨ (fitsL ls = true ∧ AllPuts ls ∧ 1188 < (bodyB ls).length ∧ kk = 43 ∧ l = []) ∨
  (fitsL ls = true ∧ AllPuts ls ∧ (bodyB ls).length ≤ 1188 ∧ kk = 0 ∧ l = sealL (hd ++ bodyB ls) 8)
theorem putP_one {hd : List UInt8} {ls : List Ck} {kk kk' : Nat} {l l' : List UInt8} (h : PutP hd ls kk l) (h' : PutP hd ls kk' l') : kk = kk' ∧ l = l' := by
  rcases h with ⟨a, rfl, rfl⟩ | ⟨a, b, rfl⟩ | ⟨a, b, c, rfl, rfl⟩ | ⟨a, b, c, rfl, rfl⟩ <;> rcases h' with ⟨a', rfl, rfl⟩ | ⟨a', b', rfl⟩ | ⟨a', b', c', rfl, rfl⟩ | ⟨a', b', c', rfl, rfl⟩ <;>
    first
      | exact ⟨rfl, rfl⟩
      | exact absurd (a.symm.trans a') (by decide)
      | exact ⟨bad_one b b', rfl⟩
      | exact (bad_all b b').elim
      | exact (bad_all b' b).elim
      | (exfalso; omega)
def headB (f t g : Nat) : List UInt8 := be f 2 ++ (be t 2 ++ (be g 4 ++ be 0 4))
theorem headB_len (f t g : Nat) : (headB f t g).length = 12 := by simp [headB, be_length]
theorem putP_ok {hd : List UInt8} {ls : List Ck} {l : List UInt8} (h : PutP hd ls 0 l) : fitsL ls = true ∧ AllPuts ls ∧ (bodyB ls).length ≤ 1188 ∧ l = sealL (hd ++ bodyB ls) 8 := by
  rcases h with ⟨_, h, _⟩ | ⟨_, ⟨_, _, _, _, _, h⟩, _⟩ | ⟨_, _, _, h, _⟩ | ⟨a, b, c, _, e⟩
  · omega
  · exact absurd rfl (err_pos' h).1
  · omega
  · exact ⟨a, b, c, e⟩
theorem putP_bad {hd : List UInt8} {ls : List Ck} {kk : Nat} {l : List UInt8} (h : PutP hd ls kk l) (hk : kk ≠ 0) : l = [] := by
  rcases h with ⟨_, h, e⟩ | ⟨_, _, e⟩ | ⟨_, _, _, h, e⟩ | ⟨_, _, _, h, _⟩
  · exact e
  · exact e
  · exact e
  · exact absurd h hk

/-! ### what is got -/
def stepP (b : List UInt8) : Except Nat (List Ck × Nat) :=
  match getC b with
  | .ok (c, n) => .ok ([c], n)
  | .error k => if k = 60 ∧ 128 ≤ num (b.take 1) then .ok ([], (num ((b.drop 2).take 2) + 3) / 4 * 4) else .error k
def consP (l : List Ck) : Except Nat (List Ck) → Except Nat (List Ck)
  | .ok r => .ok (l ++ r)
  | .error k => .error k
def chunksF : Nat → List UInt8 → Except Nat (List Ck)
  | 0, _ => .ok []
  | f + 1, b => if b = [] then .ok [] else match stepP b with
    | .error k => .error k
    | .ok (l, n) => consP l (chunksF f (b.drop n))
def chunksP (b : List UInt8) : Except Nat (List Ck) := chunksF b.length b
/-- Bytes that begin with a chunk of a kind that nobody knows. -/
theorem getC_60 {b : List UInt8} (h : getC b = .error 60) : 4 ≤ b.length ∧ 4 ≤ num ((b.drop 2).take 2) ∧ (num ((b.drop 2).take 2) + 3) / 4 * 4 ≤ b.length ∧ known (num (b.take 1)) = false := by
  unfold getC at h
  by_cases q1 : b.length < 4
  · rw [if_pos q1] at h; injection h with h; omega
  rw [if_neg q1] at h
  by_cases q2 : num ((b.drop 2).take 2) < 4
  · rw [if_pos q2] at h; injection h with h; omega
  rw [if_neg q2] at h
  by_cases q3 : b.length < (num ((b.drop 2).take 2) + 3) / 4 * 4
  · rw [if_pos q3] at h; injection h with h; omega
  rw [if_neg q3] at h
  by_cases q4 : ((b.drop (num ((b.drop 2).take 2))).take ((num ((b.drop 2).take 2) + 3) / 4 * 4 - num ((b.drop 2).take 2))).any (· != 0) = true
  · rw [if_pos q4] at h; injection h with h; omega
  rw [if_neg q4] at h
  by_cases q5 : known (num (b.take 1)) = false
  · exact ⟨by omega, by omega, by omega, q5⟩
  rw [if_neg q5] at h
  cases hd : decC (num (b.take 1)) (num ((b.drop 1).take 1)) ((b.drop 4).take (num ((b.drop 2).take 2) - 4)) with
  | none => rw [hd] at h; injection h with h; omega
  | some c => rw [hd] at h; cases h
theorem getC_err {b : List UInt8} {k : Nat} (h : getC b = .error k) : k ≠ 0 ∧ k ≤ 100 := by
  unfold getC at h
  repeat (first | (split at h) | (injection h with h; omega) | cases h)
theorem stepP_pos {b : List UInt8} {l : List Ck} {n : Nat} (h : stepP b = .ok (l, n)) : 4 ≤ n ∧ n ≤ b.length := by
  unfold stepP at h
  cases hg : getC b with
  | ok q =>
    obtain ⟨c, m⟩ := q
    rw [hg] at h
    injection h with h
    injection h with h1 h2
    subst h2
    obtain ⟨_, _, _, _, h1, _, h2⟩ := getC_puts hg
    exact ⟨h2, h1⟩
  | error k =>
    rw [hg] at h
    simp only at h
    by_cases hk : k = 60 ∧ 128 ≤ num (b.take 1)
    · rw [if_pos hk] at h
      injection h with h
      injection h with h1 h2
      obtain ⟨h3, h4, h5, _⟩ := getC_60 (hk.1 ▸ hg)
      omega
    · rw [if_neg hk] at h; cases h
theorem chunksF_more : ∀ (f : Nat) (b : List UInt8), b.length ≤ f → chunksF f b = chunksF b.length b
  | 0, b, h => by have : b.length = 0 := by omega
                  rw [this]
  | f + 1, b, h => by
    by_cases hb : b = []
    · subst hb; rfl
    have hlen : 0 < b.length := by cases b with
      | nil => exact absurd rfl hb
      | cons x r => simp
    obtain ⟨m, hm⟩ : ∃ m, b.length = m + 1 := ⟨b.length - 1, by omega⟩
    rw [hm]
    unfold chunksF
    rw [if_neg hb, if_neg hb]
    cases hs : stepP b with
    | error k => rfl
    | ok q =>
      obtain ⟨l, n⟩ := q
      have := stepP_pos hs
      simp only
      rw [chunksF_more f (b.drop n) (by rw [List.length_drop]; omega), chunksF_more m (b.drop n) (by rw [List.length_drop]; omega)]
theorem chunksP_nil : chunksP [] = .ok [] := rfl
theorem chunksF_succ (f : Nat) (b : List UInt8) : chunksF (f + 1) b = if b = [] then .ok [] else match stepP b with
    | .error k => .error k
    | .ok (l, n) => consP l (chunksF f (b.drop n)) := rfl
theorem chunksP_step {b : List UInt8} (hb : b ≠ []) : chunksP b = match stepP b with
    | .error k => .error k
    | .ok (l, n) => consP l (chunksP (b.drop n)) := by
  have hlen : 0 < b.length := by cases b with
    | nil => exact absurd rfl hb
    | cons x r => simp
  obtain ⟨m, hm⟩ : ∃ m, b.length = m + 1 := ⟨b.length - 1, by omega⟩
  have e : chunksP b = chunksF (m + 1) b := by unfold chunksP; rw [hm]
  rw [e, chunksF_succ, if_neg hb]
  cases hs : stepP b with
  | error k => rfl
  | ok q =>
    obtain ⟨l, n⟩ := q
    have := stepP_pos hs
    show consP l (chunksF m (b.drop n)) = consP l (chunksP (b.drop n))
    rw [chunksF_more m (b.drop n) (by rw [List.length_drop]; omega)]
    rfl
theorem consP_nil (r : Except Nat (List Ck)) : consP [] r = r := by cases r <;> rfl
theorem consP_two (a b : List Ck) (r : Except Nat (List Ck)) : consP a (consP b r) = consP (a ++ b) r := by cases r <;> simp [consP]
theorem chunksP_err : ∀ (n : Nat) {b : List UInt8} {k : Nat}, b.length ≤ n → chunksP b = .error k → k ≠ 0 ∧ k ≤ 100
  | n, b, k, hn, h => by
    by_cases hb : b = []
    · subst hb; cases h
    rw [chunksP_step hb] at h
    cases hs : stepP b with
    | error k' =>
      rw [hs] at h
      injection h with h
      subst h
      unfold stepP at hs
      cases hg : getC b with
      | ok q => obtain ⟨c, m⟩ := q; rw [hg] at hs; cases hs
      | error k2 =>
        rw [hg] at hs
        simp only at hs
        by_cases hk : k2 = 60 ∧ 128 ≤ num (b.take 1)
        · rw [if_pos hk] at hs; cases hs
        · rw [if_neg hk] at hs
          injection hs with hs
          subst hs
          exact getC_err hg
    | ok q =>
      obtain ⟨l, m⟩ := q
      have hp := stepP_pos hs
      rw [hs] at h
      simp only at h
      cases hc : chunksP (b.drop m) with
      | ok r => rw [hc] at h; cases h
      | error k3 =>
        rw [hc] at h
        injection h with h
        subst h
        cases n with
        | zero => omega
        | succ n => exact chunksP_err n (by rw [List.length_drop]; omega) hc
/-- What Get answers. -/
def getP (b : List UInt8) : Except Nat (Nat × Nat × Nat × List Ck) :=
  if b.length < 12 then .error 40 else if 1200 < b.length then .error 43 else if sealL b 8 ≠ b then .error 70 else
  match chunksP (b.drop 12) with
  | .error k => .error k
  | .ok ls => if fitsL ls = true then .ok (num (b.take 2), num ((b.drop 2).take 2), num ((b.drop 4).take 4), ls) else .error 42
end Go.Proofs.Ytabkjgklmibagaa.Chk
