/-
  Plain facts on parameters as bytes: encL (a list's bytes), getL (bytes read as a list, or the first error), each the other's way back.
-/
import Derived.Test.YtabkjgklmibagaaOctPlain
set_option linter.unusedVariables false
set_option linter.unusedSimpArgs false
namespace Go.Proofs.Ytabkjgklmibagaa.Par
open Go.RowKit Go.Proofs.Ytabkjgklmibagaa.Words Go.Proofs.Ytabkjgklmibagaa.Oct

/-- A parameter: its kind and its value. -/
abbrev Prm := Nat × List UInt8
def okP (p : Prm) : Prop := p.1 < 65536 ∧ p.2.length ≤ 65531
def padC (n : Nat) : Nat := (4 - n % 4) % 4
def encP (p : Prm) : List UInt8 := be p.1 2 ++ (be (p.2.length + 4) 2 ++ (p.2 ++ List.replicate (padC p.2.length) 0))
def encL (ls : List Prm) : List UInt8 := (ls.map encP).flatten
theorem encP_length (p : Prm) : (encP p).length = (p.2.length + 4 + 3) / 4 * 4 := by
  simp only [encP, List.length_append, be_length, List.length_replicate, padC]
  omega
theorem encL_nil : encL [] = [] := rfl
theorem encL_cons (p : Prm) (ls : List Prm) : encL (p :: ls) = encP p ++ encL ls := rfl
theorem encL_snoc (ls : List Prm) (p : Prm) : encL (ls ++ [p]) = encL ls ++ encP p := by simp [encL]
theorem encL_append (a b : List Prm) : encL (a ++ b) = encL a ++ encL b := by simp [encL]
theorem encL_mod (ls : List Prm) : (encL ls).length % 4 = 0 := by
  induction ls with
  | nil => rfl
  | cons p ls ih => rw [encL_cons, List.length_append, encP_length]; omega
/-- How long a list is as bytes, at most. -/
def sizeL (ls : List Prm) : Nat := (ls.map fun p => 4 + p.2.length).sum
theorem sizeL_cons (p : Prm) (ls : List Prm) : sizeL (p :: ls) = 4 + p.2.length + sizeL ls := by simp [sizeL]
theorem encL_le (ls : List Prm) : (encL ls).length ≤ 2 * sizeL ls := by
  induction ls with
  | nil => simp [encL]
  | cons p ls ih => rw [encL_cons, List.length_append, encP_length, sizeL_cons]; omega
theorem len_le_size (ls : List Prm) : 4 * ls.length ≤ sizeL ls := by
  induction ls with
  | nil => simp
  | cons p ls ih => rw [sizeL_cons, List.length_cons]; omega
theorem val_le_size (ls : List Prm) (p : Prm) (h : p ∈ ls) : 4 + p.2.length ≤ sizeL ls := by
  induction ls with
  | nil => simp at h
  | cons q ls ih =>
    rw [sizeL_cons]
    rcases List.mem_cons.1 h with rfl | h
    · omega
    · have := ih h; omega

/-- The first parameter of bytes, and how many bytes it has. -/
def one (b : List UInt8) : Except Nat (Prm × Nat) :=
  if b.length < 4 then .error 40 else
  if num ((b.drop 2).take 2) < 4 then .error 42 else
  if b.length < (num ((b.drop 2).take 2) + 3) / 4 * 4 then .error 40 else
  if ((b.drop (num ((b.drop 2).take 2))).take ((num ((b.drop 2).take 2) + 3) / 4 * 4 - num ((b.drop 2).take 2))).any (· != 0) then .error 42
  else .ok ((num (b.take 2), (b.drop 4).take (num ((b.drop 2).take 2) - 4)), (num ((b.drop 2).take 2) + 3) / 4 * 4)
def andThenP (p : Prm) : Except Nat (List Prm) → Except Nat (List Prm)
  | .error e => .error e
  | .ok ps => .ok (p :: ps)
def getF : Nat → List UInt8 → Except Nat (List Prm)
  | 0, _ => .ok []
  | f + 1, b => if b = [] then .ok [] else match one b with
    | .error e => .error e
    | .ok (p, k) => andThenP p (getF f (b.drop k))
def getL (b : List UInt8) : Except Nat (List Prm) := getF b.length b
theorem one_len {b : List UInt8} {p : Prm} {k : Nat} (h : one b = .ok (p, k)) : 4 ≤ k ∧ k ≤ b.length ∧ k % 4 = 0 := by
  unfold one at h
  split at h
  · cases h
  · split at h
    · cases h
    · split at h
      · cases h
      · split at h
        · cases h
        · injection h with h
          injection h with h1 h2
          subst h2
          omega
theorem getF_more : ∀ (f g : Nat) (b : List UInt8), b.length ≤ f → b.length ≤ g → getF f b = getF g b
  | 0, 0, b, _, _ => rfl
  | 0, g + 1, b, h, _ => by
    have : b = [] := List.eq_nil_of_length_eq_zero (by omega)
    subst this
    simp [getF]
  | f + 1, 0, b, _, h => by
    have : b = [] := List.eq_nil_of_length_eq_zero (by omega)
    subst this
    simp [getF]
  | f + 1, g + 1, b, hf, hg => by
    unfold getF
    split
    · rfl
    · rename_i hb
      cases ho : one b with
      | error e => rfl
      | ok x =>
        obtain ⟨p, k⟩ := x
        obtain ⟨h4, hk, _⟩ := one_len ho
        simp only
        rw [getF_more f g (b.drop k) (by rw [List.length_drop]; omega) (by rw [List.length_drop]; omega)]
theorem getL_nil : getL [] = .ok [] := rfl
theorem getL_err {b : List UInt8} {e : Nat} (hb : b ≠ []) (h : one b = .error e) : getL b = .error e := by
  unfold getL
  cases hn : b.length with
  | zero => exact absurd (List.eq_nil_of_length_eq_zero hn) hb
  | succ f => unfold getF; rw [if_neg hb, h]
theorem getL_ok {b : List UInt8} {p : Prm} {k : Nat} (h : one b = .ok (p, k)) : getL b = andThenP p (getL (b.drop k)) := by
  obtain ⟨h4, hk, _⟩ := one_len h
  have hb : b ≠ [] := fun e => by subst e; simp at hk; omega
  unfold getL
  cases hn : b.length with
  | zero => omega
  | succ f =>
    conv => lhs; unfold getF
    rw [if_neg hb, h]
    simp only
    rw [getF_more f (b.drop k).length (b.drop k) (by rw [List.length_drop]; omega) (Nat.le_refl _)]
/-- What has been read so far, ahead of what is still to read. -/
def behind (acc : List Prm) : Except Nat (List Prm) → Except Nat (List Prm)
  | .error e => .error e
  | .ok ps => .ok (acc ++ ps)
theorem behind_nil (r : Except Nat (List Prm)) : behind [] r = r := by cases r <;> rfl
theorem behind_snoc (acc : List Prm) (p : Prm) (r : Except Nat (List Prm)) : behind acc (andThenP p r) = behind (acc ++ [p]) r := by cases r <;> simp [behind, andThenP]

theorem two_num (l : List UInt8) (h : l.length = 2) : be (num l) 2 = l := by
  match l, h with
  | [a, b], _ =>
    have ha := a.toNat_lt
    have hb := b.toNat_lt
    have hn : num [a, b] = 256 * a.toNat + b.toNat := by simp [num]
    rw [hn]
    show [byteAt (256 * a.toNat + b.toNat) 1, byteAt (256 * a.toNat + b.toNat) 0] = [a, b]
    have h1 : byteAt (256 * a.toNat + b.toNat) 1 = a := by
      apply UInt8.toNat_inj.1
      rw [byteAt_nat]
      omega
    have h0 : byteAt (256 * a.toNat + b.toNat) 0 = b := by
      apply UInt8.toNat_inj.1
      rw [byteAt_nat]
      omega
    rw [h1, h0]
theorem num2_lt (l : List UInt8) (h : l.length ≤ 2) : num l < 65536 := Nat.lt_of_lt_of_le (num_lt l) (Nat.pow_le_pow_right (n := 256) (by decide) h)
theorem take_be (v n : Nat) (r : List UInt8) : (be v n ++ r).take n = be v n := by
  have := List.take_left (l₁ := be v n) (l₂ := r)
  rwa [be_length] at this
theorem drop_be (v n : Nat) (r : List UInt8) : (be v n ++ r).drop n = r := by
  have := List.drop_left (l₁ := be v n) (l₂ := r)
  rwa [be_length] at this
theorem any_zero (k : Nat) : (List.replicate k (0 : UInt8)).any (· != 0) = false := by
  induction k with
  | zero => rfl
  | succ k ih => rw [List.replicate_succ, List.any_cons, ih]; rfl
theorem zeros_of_any (l : List UInt8) (h : l.any (· != 0) = false) : l = List.replicate l.length 0 := by
  induction l with
  | nil => rfl
  | cons x l ih =>
    simp only [List.any_cons, Bool.or_eq_false_iff] at h
    have hx : x = 0 := by simpa using h.1
    rw [List.length_cons, List.replicate_succ, ← ih h.2, hx]
/-- Got back as it was put. -/
theorem one_enc (p : Prm) (hp : okP p) (r : List UInt8) : one (encP p ++ r) = .ok (p, (encP p).length) := by
  obtain ⟨h1, h2⟩ := hp
  have e1 : (encP p ++ r).take 2 = be p.1 2 := by rw [encP, List.append_assoc]; exact take_be _ _ _
  have e2 : (encP p ++ r).drop 2 = be (p.2.length + 4) 2 ++ ((p.2 ++ List.replicate (padC p.2.length) 0) ++ r) := by
    rw [encP, List.append_assoc, drop_be, List.append_assoc]
  have e3 : num (((encP p ++ r).drop 2).take 2) = p.2.length + 4 := by rw [e2, take_be, num_be]; omega
  have e4 : (encP p ++ r).drop 4 = (p.2 ++ List.replicate (padC p.2.length) 0) ++ r := by
    rw [show (4 : Nat) = 2 + 2 by rfl, ← List.drop_drop, e2, drop_be]
  have e5 : num ((encP p ++ r).take 2) = p.1 := by rw [e1, num_be]; omega
  have hl := encP_length p
  unfold one
  rw [e3, e5, e4, if_neg (by rw [List.length_append]; omega), if_neg (by omega), if_neg (by rw [List.length_append]; omega)]
  have e6 : (encP p ++ r).drop (p.2.length + 4) = List.replicate (padC p.2.length) 0 ++ r := by
    rw [show p.2.length + 4 = 4 + p.2.length by omega, ← List.drop_drop, e4, List.append_assoc, List.drop_left]
  have e7 : ((encP p ++ r).drop (p.2.length + 4)).take ((p.2.length + 4 + 3) / 4 * 4 - (p.2.length + 4)) = List.replicate (padC p.2.length) 0 := by
    rw [e6]
    have : (p.2.length + 4 + 3) / 4 * 4 - (p.2.length + 4) = (List.replicate (padC p.2.length) (0 : UInt8)).length := by rw [List.length_replicate, padC]; omega
    rw [this, List.take_left]
  rw [e7, any_zero, if_neg (by decide)]
  have e8 : ((p.2 ++ List.replicate (padC p.2.length) 0) ++ r).take (p.2.length + 4 - 4) = p.2 := by
    rw [show p.2.length + 4 - 4 = p.2.length by omega, List.append_assoc, List.take_left]
  rw [e8, hl]
theorem getL_enc : ∀ (ls : List Prm), (∀ p ∈ ls, okP p) → getL (encL ls) = .ok ls
  | [], _ => rfl
  | p :: ls, h => by
    rw [encL_cons, getL_ok (one_enc p (h p (by simp)) (encL ls)), List.drop_left, getL_enc ls (fun q hq => h q (by simp [hq]))]
    rfl
/-- Put again as it was got: one form alone. -/
theorem enc_one {b : List UInt8} {p : Prm} {k : Nat} (h : one b = .ok (p, k)) : okP p ∧ b = encP p ++ b.drop k := by
  have hk := one_len h
  unfold one at h
  split at h
  · cases h
  · rename_i h4
    split at h
    · cases h
    · rename_i hn4
      split at h
      · cases h
      · rename_i hall
        split at h
        · cases h
        · rename_i hz
          injection h with h
          injection h with h1 h2
          have hlen2 : ((b.drop 2).take 2).length = 2 := by rw [List.length_take, List.length_drop]; omega
          have hn := num2_lt ((b.drop 2).take 2) (by omega)
          have hd2 := two_num ((b.drop 2).take 2) hlen2
          have ht2 := two_num (b.take 2) (by rw [List.length_take]; omega)
          have hzz := zeros_of_any _ (by simpa using hz)
          generalize num ((b.drop 2).take 2) = n at *
          have hvl : p.2.length = n - 4 := by
            rw [← h1]
            simp only [List.length_take, List.length_drop]
            omega
          have hp1 : p.1 = num (b.take 2) := by rw [← h1]
          refine ⟨⟨by rw [hp1]; exact num2_lt _ (by rw [List.length_take]; omega), by omega⟩, ?_⟩
          have hp2 : p.2 = (b.drop 4).take (n - 4) := by rw [← h1]
          have hpad : List.replicate (padC p.2.length) (0 : UInt8) = (b.drop n).take ((n + 3) / 4 * 4 - n) := by
            rw [hzz]
            congr 1
            rw [List.length_take, List.length_drop, padC, hvl]
            omega
          subst h2
          unfold encP
          rw [hp1, ht2, show p.2.length + 4 = n by omega, hd2, hpad, hp2]
          have s1 : b = b.take 2 ++ b.drop 2 := (List.take_append_drop 2 b).symm
          have s2 : b.drop 2 = (b.drop 2).take 2 ++ b.drop 4 := by
            have := (List.take_append_drop 2 (b.drop 2)).symm
            rwa [List.drop_drop] at this
          have s3 : b.drop 4 = (b.drop 4).take (n - 4) ++ b.drop n := by
            have := (List.take_append_drop (n - 4) (b.drop 4)).symm
            rwa [List.drop_drop, show 4 + (n - 4) = n by omega] at this
          have s4 : b.drop n = (b.drop n).take ((n + 3) / 4 * 4 - n) ++ b.drop ((n + 3) / 4 * 4) := by
            have := (List.take_append_drop ((n + 3) / 4 * 4 - n) (b.drop n)).symm
            rwa [List.drop_drop, show n + ((n + 3) / 4 * 4 - n) = (n + 3) / 4 * 4 by omega] at this
          simp only [List.append_assoc]
          rw [← s4, ← s3, ← s2, ← s1]
theorem enc_getL : ∀ (n : Nat) (b : List UInt8) (ls : List Prm), b.length ≤ n → getL b = .ok ls → (∀ p ∈ ls, okP p) ∧ encL ls = b
  | n, b, ls, hn, h => by
    by_cases hb : b = []
    · subst hb
      rw [getL_nil] at h
      injection h with h
      subst h
      exact ⟨by simp, rfl⟩
    · cases ho : one b with
      | error e => rw [getL_err hb ho] at h; cases h
      | ok x =>
        obtain ⟨p, k⟩ := x
        have hk := one_len ho
        obtain ⟨hp, he⟩ := enc_one ho
        rw [getL_ok ho] at h
        cases hr : getL (b.drop k) with
        | error e => rw [hr] at h; cases h
        | ok ps =>
          rw [hr] at h
          simp only [andThenP] at h
          injection h with h
          subst h
          match n, hn with
          | 0, hn => exact absurd (List.eq_nil_of_length_eq_zero (by omega)) hb
          | n + 1, hn =>
            obtain ⟨h1, h2⟩ := enc_getL n (b.drop k) ps (by rw [List.length_drop]; omega) hr
            refine ⟨fun q hq => ?_, ?_⟩
            · rcases List.mem_cons.1 hq with rfl | hq
              · exact hp
              · exact h1 q hq
            · rw [encL_cons, h2]; exact he.symm
/-- Bytes behind a list. -/
theorem getL_append : ∀ (ls : List Prm) (b : List UInt8), (∀ p ∈ ls, okP p) → getL (encL ls ++ b) = behind ls (getL b)
  | [], b, _ => by rw [encL_nil, List.nil_append, behind_nil]
  | p :: ls, b, h => by
    rw [encL_cons, List.append_assoc, getL_ok (one_enc p (h p (by simp)) _), List.drop_left, getL_append ls b (fun q hq => h q (by simp [hq]))]
    cases getL b <;> rfl
theorem size_le_enc (ls : List Prm) : sizeL ls ≤ (encL ls).length := by
  induction ls with
  | nil => simp [sizeL]
  | cons p ls ih => rw [sizeL_cons, encL_cons, List.length_append, encP_length]; omega
theorem one_err {b : List UInt8} {e : Nat} (h : one b = .error e) : e = 40 ∨ e = 42 := by
  unfold one at h
  split at h
  · injection h with h; omega
  · split at h
    · injection h with h; omega
    · split at h
      · injection h with h; omega
      · split at h
        · injection h with h; omega
        · cases h
theorem getF_errs : ∀ (f : Nat) (b : List UInt8) (e : Nat), getF f b = .error e → e = 40 ∨ e = 42
  | 0, b, e, h => by cases h
  | f + 1, b, e, h => by
    unfold getF at h
    split at h
    · cases h
    · split at h
      · rename_i e' he
        injection h with h
        subst h
        exact one_err he
      · rename_i p k he
        cases hr : getF f (b.drop k) with
        | error e' =>
          rw [hr] at h
          simp only [andThenP] at h
          injection h with h
          subst h
          exact getF_errs f _ _ hr
        | ok ps => rw [hr] at h; cases h
theorem getL_errs {b : List UInt8} {e : Nat} (h : getL b = .error e) : e = 40 ∨ e = 42 := getF_errs _ _ _ h
/-! ### lists cut off -/
def offs (ls : List Prm) (j : Nat) : Nat := (encL (ls.take j)).length
theorem offs_zero (ls : List Prm) : offs ls 0 = 0 := rfl
theorem offs_step {ls : List Prm} {j : Nat} (h : j < ls.length) : offs ls (j + 1) = offs ls j + (4 + (ls[j].2.length + 3) / 4 * 4) := by
  unfold offs
  rw [List.take_succ_eq_append_getElem h, encL_snoc, List.length_append, encP_length]
  omega
theorem offs_end (ls : List Prm) : offs ls ls.length = (encL ls).length := by unfold offs; rw [List.take_length]
theorem offs_mono (ls : List Prm) {i j : Nat} (h : i ≤ j) : offs ls i ≤ offs ls j := by
  unfold offs
  have : ls.take j = ls.take i ++ (ls.take j).drop i := by
    have := (List.take_append_drop i (ls.take j)).symm
    rwa [List.take_take, Nat.min_eq_left h] at this
  rw [this, encL_append, List.length_append]
  omega
theorem one_part {p : Prm} (hp : okP p) {d : Nat} (r : List UInt8) (h0 : 0 < d) (hd : d < (encP p).length) : one ((encP p ++ r).take d) = .error 40 := by
  have hl := encP_length p
  rw [List.take_append_of_le_length (by omega)]
  have hdl : ((encP p).take d).length = d := by rw [List.length_take]; omega
  by_cases h4 : d < 4
  · unfold one; rw [if_pos (by rw [hdl]; exact h4)]
  · have hn : num ((((encP p).take d).drop 2).take 2) = p.2.length + 4 := by
      rw [List.drop_take, List.take_take, Nat.min_eq_left (by omega)]
      have e2 : (encP p).drop 2 = be (p.2.length + 4) 2 ++ (p.2 ++ List.replicate (padC p.2.length) 0) := by rw [encP, drop_be]
      rw [e2, take_be, num_be]
      have := hp.2
      omega
    unfold one
    rw [if_neg (by rw [hdl]; exact h4), hn, if_neg (by omega), if_pos (by rw [hdl]; omega)]
theorem get_cut {ls : List Prm} {n k : Nat} (hok : ∀ p ∈ ls, okP p) (hn : n ≤ ls.length) (h1 : offs ls n ≤ k) (h2 : k ≤ (encL ls).length) (h3 : n < ls.length → k < offs ls (n + 1)) :
    getL ((encL ls).take k) = if offs ls n = k then .ok (ls.take n) else .error 40 := by
  have e : encL ls = encL (ls.take n) ++ encL (ls.drop n) := by rw [← encL_append, List.take_append_drop]
  have et : (encL ls).take k = encL (ls.take n) ++ (encL (ls.drop n)).take (k - offs ls n) := by
    rw [e, List.take_append]
    unfold offs at h1 ⊢
    rw [List.take_of_length_le h1]
  rw [et, getL_append _ _ (fun p hp => hok p (List.mem_of_mem_take hp))]
  split
  · rename_i hk
    rw [hk, Nat.sub_self, List.take_zero, getL_nil]
    simp [behind]
  · rename_i hk
    have hlt : n < ls.length := by
      rcases Nat.lt_or_ge n ls.length with h | h
      · exact h
      · have : n = ls.length := by omega
        rw [this, offs_end] at h1 hk
        omega
    have hst := offs_step hlt
    have h3 := h3 hlt
    rw [List.drop_eq_getElem_cons hlt, encL_cons]
    have hp := hok ls[n] (List.getElem_mem _)
    have hl := encP_length ls[n]
    have ho := one_part hp (encL (ls.drop (n + 1))) (d := k - offs ls n) (by omega) (by omega)
    rw [getL_err (fun e => by
      have := congrArg List.length e
      rw [List.length_take, List.length_append] at this
      simp only [List.length_nil] at this
      omega) ho]
    rfl
end Go.Proofs.Ytabkjgklmibagaa.Par
