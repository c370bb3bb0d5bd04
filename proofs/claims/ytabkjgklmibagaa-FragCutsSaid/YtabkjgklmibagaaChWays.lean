/-
  Plain facts on chunks as bytes: got back as they were put; put again as they were got; cut off; with other flags.
-/
import Derived.Test.YtabkjgklmibagaaChPlain
set_option linter.unusedVariables false
set_option linter.unusedSimpArgs false
namespace Go.Proofs.Ytabkjgklmibagaa.Chk
open Go.RowKit Go.Proofs.Ytabkjgklmibagaa.Words Go.Proofs.Ytabkjgklmibagaa.Oct Go.Proofs.Ytabkjgklmibagaa.Par

theorem take4 (l : List UInt8) (n : Nat) : num ((l.drop n).take 4) < 4294967296 := num4_lt _ (by rw [List.length_take]; omega)
theorem take2 (l : List UInt8) (n : Nat) : num ((l.drop n).take 2) < 65536 := num2_lt _ (by rw [List.length_take]; omega)
theorem take4' (l : List UInt8) : num (l.take 4) < 4294967296 := num4_lt _ (by rw [List.length_take]; omega)
theorem zero_ok' {k : Nat} (h : k < 256) : (zeroC k).ok := ⟨h, by show 0 < _; omega, by show 0 < _; omega, by show 0 < _; omega, by show 0 < _; omega, by show 0 < _; omega, by show 0 < _; omega, by show 0 < _; omega, by show 0 < _; omega, by show 0 < _; omega, fun _ h => by simp [zeroC] at h, fun _ h => by simp [zeroC] at h, fun _ h => by simp [zeroC] at h, fun _ h => by simp [zeroC] at h⟩
/-- What reading leaves alone. -/
structure Alike (c c' : Ck) : Prop where
  kind : c'.kind = c.kind
  bg : c'.bg = c.bg
  en : c'.en = c.en
  lo : c'.lo = c.lo
  ba : c'.ba = c.ba
section
variable {c : Ck} {x : List UInt8}
theorem decB_0 (h : c.kind = 0) : decB c x = (if 12 ≤ x.length then some (withFrag c x) else none) := by unfold decB; rw [if_pos h]
theorem decB_64 (h : c.kind = 64) : decB c x = (if 16 ≤ x.length ∧ num ((x.drop 6).take 2) = 0 then some (withFrag c x) else none) := by unfold decB; rw [if_neg (by omega), if_pos h]
theorem decB_12 (h : c.kind = 1 ∨ c.kind = 2) : decB c x = (if 16 ≤ x.length then withPs (withGreet c x) (getL (x.drop 16)) else none) := by unfold decB; rw [if_neg (by omega), if_neg (by omega), if_pos h]
theorem decB_3 (h : c.kind = 3) : decB c x = (if 12 ≤ x.length ∧ x.length - 12 = 4 * (num ((x.drop 8).take 2) + num ((x.drop 10).take 2)) then some (withSack c x) else none) := by unfold decB; rw [if_neg (by omega), if_neg (by omega), if_neg (by omega), if_pos h]
theorem decB_4 (h : c.kind = 4 ∨ c.kind = 5 ∨ c.kind = 10) : decB c x = some { c with body := x } := by unfold decB; rw [if_neg (by omega), if_neg (by omega), if_neg (by omega), if_neg (by omega), if_pos h]
theorem decB_ps (h0 : ¬ (c.kind = 1 ∨ c.kind = 2)) (h : hasPs c.kind = true) : decB c x = withPs c (getL x) := by
  have : c.kind = 6 ∨ c.kind = 9 ∨ c.kind = 130 := by simp only [hasPs, Bool.or_eq_true, beq_iff_eq] at h; omega
  unfold decB; rw [if_neg (by omega), if_neg (by omega), if_neg h0, if_neg (by omega), if_neg (by omega), if_pos h]
theorem decB_7 (h : c.kind = 7) : decB c x = (if x.length = 4 then some { c with tsn := num (x.take 4) } else none) := by unfold decB; rw [if_neg (by omega), if_neg (by omega), if_neg (by omega), if_neg (by omega), if_neg (by omega), if_neg (by rw [h]; decide), if_pos h]
theorem decB_192 (h : c.kind = 192) : decB c x = (if 4 ≤ x.length ∧ (x.length - 4) % 4 = 0 then some { c with tsn := num (x.take 4), skips := sksN ((x.length - 4) / 4) (x.drop 4) } else none) := by unfold decB; rw [if_neg (by omega), if_neg (by omega), if_neg (by omega), if_neg (by omega), if_neg (by omega), if_neg (by rw [h]; decide), if_neg (by omega), if_pos h]
theorem decB_194 (h : c.kind = 194) : decB c x = (if 4 ≤ x.length ∧ (x.length - 4) % 8 = 0 ∧ sksOk ((x.length - 4) / 8) (x.drop 4) = true then some { c with tsn := num (x.take 4), skips := sksV ((x.length - 4) / 8) (x.drop 4) } else none) := by unfold decB; rw [if_neg (by omega), if_neg (by omega), if_neg (by omega), if_neg (by omega), if_neg (by omega), if_neg (by rw [h]; decide), if_neg (by omega), if_neg (by omega), if_pos h]
theorem decB_no (h0 : ¬ c.kind = 0) (h1 : ¬ c.kind = 64) (h2 : ¬ (c.kind = 1 ∨ c.kind = 2)) (h3 : ¬ c.kind = 3) (h4 : ¬ (c.kind = 4 ∨ c.kind = 5 ∨ c.kind = 10)) (h5 : ¬ hasPs c.kind = true) (h6 : ¬ c.kind = 7) (h7 : ¬ c.kind = 192) (h8 : ¬ c.kind = 194) : decB c x = if x = [] then some c else none := by
  unfold decB; rw [if_neg h0, if_neg h1, if_neg h2, if_neg h3, if_neg h4, if_neg h5, if_neg h6, if_neg h7, if_neg h8]
end
section
variable {c : Ck}
theorem cont_body (h : hasBody c.kind = true) : cont c = fragE c ++ c.body := by unfold cont; rw [if_pos h]
theorem body_no (h0 : ¬ c.kind = 0) (h1 : ¬ c.kind = 64) : ¬ hasBody c.kind = true := by unfold hasBody; simp; omega
theorem cont_12 (h : c.kind = 1 ∨ c.kind = 2) : cont c = greetE c ++ encL c.ps := by unfold cont; rw [if_neg (body_no (by omega) (by omega)), if_pos h]
theorem cont_3 (h : c.kind = 3) : cont c = sackE c := by unfold cont; rw [if_neg (body_no (by omega) (by omega)), if_neg (by omega), if_pos h]
theorem cont_4 (h : c.kind = 4 ∨ c.kind = 5 ∨ c.kind = 10) : cont c = c.body := by unfold cont; rw [if_neg (body_no (by omega) (by omega)), if_neg (by omega), if_neg (by omega), if_pos h]
theorem cont_ps (h0 : ¬ (c.kind = 1 ∨ c.kind = 2)) (h : hasPs c.kind = true) : cont c = encL c.ps := by
  have : c.kind = 6 ∨ c.kind = 9 ∨ c.kind = 130 := by simp only [hasPs, Bool.or_eq_true, beq_iff_eq] at h; omega
  unfold cont; rw [if_neg (body_no (by omega) (by omega)), if_neg h0, if_neg (by omega), if_neg (by omega), if_pos h]
theorem cont_7 (h : c.kind = 7) : cont c = be c.tsn 4 := by unfold cont; rw [if_neg (body_no (by omega) (by omega)), if_neg (by omega), if_neg (by omega), if_neg (by omega), if_neg (by rw [h]; decide), if_pos h]
theorem cont_192 (h : c.kind = 192) : cont c = be c.tsn 4 ++ sksE c.skips := by unfold cont; rw [if_neg (body_no (by omega) (by omega)), if_neg (by omega), if_neg (by omega), if_neg (by omega), if_neg (by rw [h]; decide), if_neg (by omega), if_pos h]
theorem cont_194 (h : c.kind = 194) : cont c = be c.tsn 4 ++ sksW c.skips := by unfold cont; rw [if_neg (body_no (by omega) (by omega)), if_neg (by omega), if_neg (by omega), if_neg (by omega), if_neg (by rw [h]; decide), if_neg (by omega), if_neg (by omega), if_pos h]
theorem cont_no (h0 : ¬ c.kind = 0) (h1 : ¬ c.kind = 64) (h2 : ¬ (c.kind = 1 ∨ c.kind = 2)) (h3 : ¬ c.kind = 3) (h4 : ¬ (c.kind = 4 ∨ c.kind = 5 ∨ c.kind = 10)) (h5 : ¬ hasPs c.kind = true) (h6 : ¬ c.kind = 7) (h7 : ¬ c.kind = 192) (h8 : ¬ c.kind = 194) : cont c = [] := by
  unfold cont; rw [if_neg (body_no h0 h1), if_neg h2, if_neg h3, if_neg h4, if_neg h5, if_neg h6, if_neg h7, if_neg h8]
theorem fragE_0 (h : c.kind = 0) : fragE c = be c.tsn 4 ++ (be c.st 2 ++ (be (c.mid % 65536) 2 ++ be c.pp 4)) := by unfold fragE; rw [if_pos h]
theorem fragE_b (h : ¬ c.kind = 0) (hb : c.bg = true) : fragE c = be c.tsn 4 ++ (be c.st 2 ++ (be 0 2 ++ (be c.mid 4 ++ be c.pp 4))) := by unfold fragE; rw [if_neg h, if_pos hb]
theorem fragE_n (h : ¬ c.kind = 0) (hb : ¬ c.bg = true) : fragE c = be c.tsn 4 ++ (be c.st 2 ++ (be 0 2 ++ (be c.mid 4 ++ be c.fr 4))) := by unfold fragE; rw [if_neg h, if_neg hb]
end
theorem decB_ok {c c' : Ck} {x : List UInt8} (ok : c.ok) (h : decB c x = some c') : c'.ok ∧ Alike c c' := by
  obtain ⟨o1, o2, o3, o4, o5, o6, o7, o8, o9, o10, o11, o12, o13, o14⟩ := ok
  by_cases hk0 : c.kind = 0
  · rw [decB_0 hk0] at h
    by_cases hq : 12 ≤ x.length
    · rw [if_pos hq] at h
      injection h with h; subst h
      unfold withFrag
      rw [if_pos hk0]
      exact ⟨⟨o1, take4' _, take2 _ _, by have := take2 x 6; show num _ < _; omega, take4 _ _, o6, o7, o8, o9, o10, o11, o12, o13, o14⟩, rfl, rfl, rfl, rfl, rfl⟩
    · rw [if_neg hq] at h; cases h
  by_cases hk64 : c.kind = 64
  · rw [decB_64 hk64] at h
    by_cases hq : 16 ≤ x.length ∧ num ((x.drop 6).take 2) = 0
    · rw [if_pos hq] at h
      injection h with h; subst h
      unfold withFrag
      rw [if_neg hk0]
      by_cases hbg : c.bg = true
      · rw [if_pos hbg]
        exact ⟨⟨o1, take4' _, take2 _ _, take4 _ _, take4 _ _, o6, o7, o8, o9, o10, o11, o12, o13, o14⟩, rfl, rfl, rfl, rfl, rfl⟩
      · rw [if_neg hbg]
        exact ⟨⟨o1, take4' _, take2 _ _, take4 _ _, o5, take4 _ _, o7, o8, o9, o10, o11, o12, o13, o14⟩, rfl, rfl, rfl, rfl, rfl⟩
    · rw [if_neg hq] at h; cases h
  by_cases hk12 : c.kind = 1 ∨ c.kind = 2
  · rw [decB_12 hk12] at h
    by_cases hq : 16 ≤ x.length
    · rw [if_pos hq] at h
      cases hg : getL (x.drop 16) with
      | error e => rw [hg] at h; cases h
      | ok ls =>
        rw [hg] at h
        simp only [withPs] at h
        injection h with h; subst h
        have hp := (enc_getL _ _ _ (Nat.le_refl _) hg).1
        exact ⟨⟨o1, take4 _ _, o3, o4, o5, o6, take4' _, take4 _ _, take2 _ _, take2 _ _, o11, o12, o13, fun p h => (hp p h).1⟩, rfl, rfl, rfl, rfl, rfl⟩
    · rw [if_neg hq] at h; cases h
  by_cases hk3 : c.kind = 3
  · rw [decB_3 hk3] at h
    by_cases hq : 12 ≤ x.length ∧ x.length - 12 = 4 * (num ((x.drop 8).take 2) + num ((x.drop 10).take 2))
    · rw [if_pos hq] at h
      injection h with h; subst h
      exact ⟨⟨o1, take4' _, o3, o4, o5, o6, o7, take4 _ _, o9, o10, (enc_gapsN _ _ (by rw [List.length_drop]; omega)).2.2, (enc_dupsN _ _ (by rw [List.length_drop, List.length_drop]; omega)).2.2, o13, o14⟩, rfl, rfl, rfl, rfl, rfl⟩
    · rw [if_neg hq] at h; cases h
  by_cases hk4 : c.kind = 4 ∨ c.kind = 5 ∨ c.kind = 10
  · rw [decB_4 hk4] at h
    injection h with h; subst h
    exact ⟨⟨o1, o2, o3, o4, o5, o6, o7, o8, o9, o10, o11, o12, o13, o14⟩, rfl, rfl, rfl, rfl, rfl⟩
  by_cases hps : hasPs c.kind = true
  · rw [decB_ps hk12 hps] at h
    cases hg : getL x with
    | error e => rw [hg] at h; cases h
    | ok ls =>
      rw [hg] at h
      simp only [withPs] at h
      injection h with h; subst h
      have hp := (enc_getL _ _ _ (Nat.le_refl _) hg).1
      exact ⟨⟨o1, o2, o3, o4, o5, o6, o7, o8, o9, o10, o11, o12, o13, fun p h => (hp p h).1⟩, rfl, rfl, rfl, rfl, rfl⟩
  by_cases hk7 : c.kind = 7
  · rw [decB_7 hk7] at h
    by_cases hq : x.length = 4
    · rw [if_pos hq] at h
      injection h with h; subst h
      exact ⟨⟨o1, take4' _, o3, o4, o5, o6, o7, o8, o9, o10, o11, o12, o13, o14⟩, rfl, rfl, rfl, rfl, rfl⟩
    · rw [if_neg hq] at h; cases h
  by_cases hk192 : c.kind = 192
  · rw [decB_192 hk192] at h
    by_cases hq : 4 ≤ x.length ∧ (x.length - 4) % 4 = 0
    · rw [if_pos hq] at h
      injection h with h; subst h
      exact ⟨⟨o1, take4' _, o3, o4, o5, o6, o7, o8, o9, o10, o11, o12, (enc_sksN _ _ (by rw [List.length_drop]; omega)).2.2, o14⟩, rfl, rfl, rfl, rfl, rfl⟩
    · rw [if_neg hq] at h; cases h
  by_cases hk194 : c.kind = 194
  · rw [decB_194 hk194] at h
    by_cases hq : 4 ≤ x.length ∧ (x.length - 4) % 8 = 0 ∧ sksOk ((x.length - 4) / 8) (x.drop 4) = true
    · rw [if_pos hq] at h
      injection h with h; subst h
      exact ⟨⟨o1, take4' _, o3, o4, o5, o6, o7, o8, o9, o10, o11, o12, (enc_sksV _ _ (by rw [List.length_drop]; omega) hq.2.2).2.2, o14⟩, rfl, rfl, rfl, rfl, rfl⟩
    · rw [if_neg hq] at h; cases h
  rw [decB_no hk0 hk64 hk12 hk3 hk4 hps hk7 hk192 hk194] at h
  by_cases hq : x = []
  · rw [if_pos hq] at h
    injection h with h; subst h
    exact ⟨⟨o1, o2, o3, o4, o5, o6, o7, o8, o9, o10, o11, o12, o13, o14⟩, rfl, rfl, rfl, rfl, rfl⟩
  · rw [if_neg hq] at h; cases h
theorem flagsN_alike {c c' : Ck} (h : Alike c c') : flagsN c' = flagsN c := by
  unfold flagsN
  rw [h.kind, h.bg, h.en, h.lo, h.ba]
theorem flagged_kind' (k f : Nat) : (flagged k f).kind = k := by
  unfold flagged
  split
  · rfl
  · split <;> rfl
theorem flagged_ok' {k f : Nat} (h : k < 256) : (flagged k f).ok := by
  have z := zero_ok' h
  unfold flagged
  split
  · exact ⟨z.kind, z.tsn, z.st, z.mid, z.pp, z.fr, z.tag, z.win, z.out, z.inn, z.gaps, z.dups, z.skips, z.ps⟩
  · split
    · exact ⟨z.kind, z.tsn, z.st, z.mid, z.pp, z.fr, z.tag, z.win, z.out, z.inn, z.gaps, z.dups, z.skips, z.ps⟩
    · exact z
/-- Bytes in pieces. -/
theorem piece (l : List UInt8) (i n : Nat) : l.drop i = (l.drop i).take n ++ l.drop (i + n) := by
  have := (List.take_append_drop n (l.drop i)).symm
  rwa [List.drop_drop] at this
theorem piece0 (l : List UInt8) (n : Nat) : l = l.take n ++ l.drop n := (List.take_append_drop n l).symm
theorem be_piece {l : List UInt8} {i n : Nat} (h : i + n ≤ l.length) : be (num ((l.drop i).take n)) n = (l.drop i).take n := be_num_n (by rw [List.length_take, List.length_drop]; omega)
theorem be_piece0 {l : List UInt8} {n : Nat} (h : n ≤ l.length) : be (num (l.take n)) n = l.take n := be_num_n (by rw [List.length_take]; omega)

/-- Put again as it was read: one form alone. -/
theorem cont_decB {c c' : Ck} {x : List UInt8} (hk : known c.kind = true) (h : decB c x = some c') :
    cont c' = x ∧ (c'.kind = 3 → c'.gaps.length ≤ 65535 ∧ c'.dups.length ≤ 65535) ∧ (hasPs c'.kind = true → ∀ p ∈ c'.ps, p.2.length ≤ 65531) := by
  by_cases hk0 : c.kind = 0
  · rw [decB_0 hk0] at h
    by_cases hq : 12 ≤ x.length
    · rw [if_pos hq] at h
      injection h with h; subst h
      unfold withFrag
      rw [if_pos hk0]
      refine ⟨?_, fun e => by have e' : c.kind = 3 := e; omega, fun e => by have e' : hasPs c.kind = true := e; rw [hk0] at e'; cases e'⟩
      have hm := take2 x 6
      refine (cont_body (c := { c with tsn := num (x.take 4), st := num ((x.drop 4).take 2), mid := num ((x.drop 6).take 2), pp := num ((x.drop 8).take 4), body := x.drop 12 }) (by show hasBody c.kind = true; rw [hk0]; rfl)).trans ?_
      rw [fragE_0 (c := { c with tsn := num (x.take 4), st := num ((x.drop 4).take 2), mid := num ((x.drop 6).take 2), pp := num ((x.drop 8).take 4), body := x.drop 12 }) hk0]
      show (be (num (x.take 4)) 4 ++ (be (num ((x.drop 4).take 2)) 2 ++ (be (num ((x.drop 6).take 2) % 65536) 2 ++ be (num ((x.drop 8).take 4)) 4))) ++ x.drop 12 = x
      rw [Nat.mod_eq_of_lt hm, be_piece0 (by omega), be_piece (i := 4) (n := 2) (by omega), be_piece (i := 6) (n := 2) (by omega), be_piece (i := 8) (n := 4) (by omega)]
      simp only [List.append_assoc]
      rw [← piece x 8 4, ← piece x 6 2, ← piece x 4 2, ← piece0]
    · rw [if_neg hq] at h; cases h
  by_cases hk64 : c.kind = 64
  · rw [decB_64 hk64] at h
    by_cases hq : 16 ≤ x.length ∧ num ((x.drop 6).take 2) = 0
    · rw [if_pos hq] at h
      injection h with h; subst h
      unfold withFrag
      rw [if_neg hk0]
      have hz : be 0 2 = (x.drop 6).take 2 := by rw [← hq.2]; exact be_piece (by omega)
      by_cases hbg : c.bg = true
      · rw [if_pos hbg]
        refine ⟨?_, fun e => by have e' : c.kind = 3 := e; omega, fun e => by have e' : hasPs c.kind = true := e; rw [hk64] at e'; cases e'⟩
        refine (cont_body (c := { c with tsn := num (x.take 4), st := num ((x.drop 4).take 2), mid := num ((x.drop 8).take 4), pp := num ((x.drop 12).take 4), body := x.drop 16 }) (by show hasBody c.kind = true; rw [hk64]; rfl)).trans ?_
        rw [fragE_b (c := { c with tsn := num (x.take 4), st := num ((x.drop 4).take 2), mid := num ((x.drop 8).take 4), pp := num ((x.drop 12).take 4), body := x.drop 16 }) (show ¬ c.kind = 0 from hk0) hbg]
        show (be (num (x.take 4)) 4 ++ (be (num ((x.drop 4).take 2)) 2 ++ (be 0 2 ++ (be (num ((x.drop 8).take 4)) 4 ++ be (num ((x.drop 12).take 4)) 4)))) ++ x.drop 16 = x
        rw [hz, be_piece0 (by omega), be_piece (i := 4) (n := 2) (by omega), be_piece (i := 8) (n := 4) (by omega), be_piece (i := 12) (n := 4) (by omega)]
        simp only [List.append_assoc]
        rw [← piece x 12 4, ← piece x 8 4, ← piece x 6 2, ← piece x 4 2, ← piece0]
      · rw [if_neg hbg]
        refine ⟨?_, fun e => by have e' : c.kind = 3 := e; omega, fun e => by have e' : hasPs c.kind = true := e; rw [hk64] at e'; cases e'⟩
        refine (cont_body (c := { c with tsn := num (x.take 4), st := num ((x.drop 4).take 2), mid := num ((x.drop 8).take 4), fr := num ((x.drop 12).take 4), body := x.drop 16 }) (by show hasBody c.kind = true; rw [hk64]; rfl)).trans ?_
        rw [fragE_n (c := { c with tsn := num (x.take 4), st := num ((x.drop 4).take 2), mid := num ((x.drop 8).take 4), fr := num ((x.drop 12).take 4), body := x.drop 16 }) (show ¬ c.kind = 0 from hk0) hbg]
        show (be (num (x.take 4)) 4 ++ (be (num ((x.drop 4).take 2)) 2 ++ (be 0 2 ++ (be (num ((x.drop 8).take 4)) 4 ++ be (num ((x.drop 12).take 4)) 4)))) ++ x.drop 16 = x
        rw [hz, be_piece0 (by omega), be_piece (i := 4) (n := 2) (by omega), be_piece (i := 8) (n := 4) (by omega), be_piece (i := 12) (n := 4) (by omega)]
        simp only [List.append_assoc]
        rw [← piece x 12 4, ← piece x 8 4, ← piece x 6 2, ← piece x 4 2, ← piece0]
    · rw [if_neg hq] at h; cases h
  by_cases hk12 : c.kind = 1 ∨ c.kind = 2
  · rw [decB_12 hk12] at h
    by_cases hq : 16 ≤ x.length
    · rw [if_pos hq] at h
      skip
      cases hg : getL (x.drop 16) with
      | error e => rw [hg] at h; cases h
      | ok ls =>
        rw [hg] at h
        simp only [withPs] at h
        injection h with h; subst h
        obtain ⟨hp, he⟩ := enc_getL _ _ _ (Nat.le_refl _) hg
        refine ⟨?_, fun e => by have e' : c.kind = 3 := e; omega, fun _ p hpm => (hp p hpm).2⟩
        refine (cont_12 (c := { withGreet c x with ps := ls }) hk12).trans ?_
        show (be (num (x.take 4)) 4 ++ (be (num ((x.drop 4).take 4)) 4 ++ (be (num ((x.drop 8).take 2)) 2 ++ (be (num ((x.drop 10).take 2)) 2 ++ be (num ((x.drop 12).take 4)) 4)))) ++ encL ls = x
        rw [he, be_piece0 (by omega), be_piece (i := 4) (n := 4) (by omega), be_piece (i := 8) (n := 2) (by omega), be_piece (i := 10) (n := 2) (by omega), be_piece (i := 12) (n := 4) (by omega)]
        simp only [List.append_assoc]
        rw [← piece x 12 4, ← piece x 10 2, ← piece x 8 2, ← piece x 4 4, ← piece0]
    · rw [if_neg hq] at h; cases h
  by_cases hk3 : c.kind = 3
  · rw [decB_3 hk3] at h
    by_cases hq : 12 ≤ x.length ∧ x.length - 12 = 4 * (num ((x.drop 8).take 2) + num ((x.drop 10).take 2))
    · rw [if_pos hq] at h
      skip
      injection h with h; subst h
      obtain ⟨g1, g2, _⟩ := enc_gapsN (num ((x.drop 8).take 2)) (x.drop 12) (by rw [List.length_drop]; omega)
      obtain ⟨d1, d2, _⟩ := enc_dupsN (num ((x.drop 10).take 2)) ((x.drop 12).drop (4 * num ((x.drop 8).take 2))) (by rw [List.length_drop, List.length_drop]; omega)
      have h8 := take2 x 8
      have h10 := take2 x 10
      refine ⟨?_, fun _ => ⟨by show (gapsN _ _).length ≤ _; rw [g2]; omega, by show (dupsN _ _).length ≤ _; rw [d2]; omega⟩, fun e => by have e' : hasPs c.kind = true := e; rw [hk3] at e'; cases e'⟩
      refine (cont_3 (c := withSack c x) hk3).trans ?_
      show be (num (x.take 4)) 4 ++ (be (num ((x.drop 4).take 4)) 4 ++ (be (gapsN (num ((x.drop 8).take 2)) (x.drop 12)).length 2 ++ (be (dupsN (num ((x.drop 10).take 2)) ((x.drop 12).drop (4 * num ((x.drop 8).take 2)))).length 2 ++ (gapsE (gapsN (num ((x.drop 8).take 2)) (x.drop 12)) ++ dupsE (dupsN (num ((x.drop 10).take 2)) ((x.drop 12).drop (4 * num ((x.drop 8).take 2)))))))) = x
      rw [g1, g2, d1, d2, be_piece0 (by omega), be_piece (i := 4) (n := 4) (by omega), be_piece (i := 8) (n := 2) (by omega), be_piece (i := 10) (n := 2) (by omega)]
      have e1 : ((x.drop 12).drop (4 * num ((x.drop 8).take 2))).take (4 * num ((x.drop 10).take 2)) = (x.drop 12).drop (4 * num ((x.drop 8).take 2)) := List.take_of_length_le (by rw [List.length_drop, List.length_drop]; omega)
      rw [e1, List.take_append_drop]
      rw [← piece x 10 2, ← piece x 8 2, ← piece x 4 4, ← piece0]
    · rw [if_neg hq] at h; cases h
  by_cases hk4 : c.kind = 4 ∨ c.kind = 5 ∨ c.kind = 10
  · rw [decB_4 hk4] at h
    skip
    injection h with h; subst h
    refine ⟨?_, fun e => by have e' : c.kind = 3 := e; omega, fun e => by have e' : hasPs c.kind = true := e; rcases hk4 with h | h | h <;> rw [h] at e' <;> cases e'⟩
    exact cont_4 (c := { c with body := x }) hk4
  by_cases hps : hasPs c.kind = true
  · rw [decB_ps hk12 hps] at h
    skip
    cases hg : getL x with
    | error e => rw [hg] at h; cases h
    | ok ls =>
      rw [hg] at h
      simp only [withPs] at h
      injection h with h; subst h
      obtain ⟨hp, he⟩ := enc_getL _ _ _ (Nat.le_refl _) hg
      refine ⟨?_, fun e => by have e' : c.kind = 3 := e; omega, fun _ p hpm => (hp p hpm).2⟩
      exact (cont_ps (c := { c with ps := ls }) hk12 hps).trans he
  by_cases hk7 : c.kind = 7
  · rw [decB_7 hk7] at h
    by_cases hq : x.length = 4
    · rw [if_pos hq] at h
      skip
      injection h with h; subst h
      refine ⟨?_, fun e => by have e' : c.kind = 3 := e; omega, fun e => by have e' : hasPs c.kind = true := e; exact absurd e' hps⟩
      refine (cont_7 (c := { c with tsn := num (x.take 4) }) hk7).trans ?_
      show be (num (x.take 4)) 4 = x
      rw [be_piece0 (by omega), List.take_of_length_le (by omega)]
    · rw [if_neg hq] at h; cases h
  by_cases hk192 : c.kind = 192
  · rw [decB_192 hk192] at h
    by_cases hq : 4 ≤ x.length ∧ (x.length - 4) % 4 = 0
    · rw [if_pos hq] at h
      skip
      injection h with h; subst h
      obtain ⟨g1, g2, _⟩ := enc_sksN ((x.length - 4) / 4) (x.drop 4) (by rw [List.length_drop]; omega)
      refine ⟨?_, fun e => by have e' : c.kind = 3 := e; omega, fun e => by have e' : hasPs c.kind = true := e; exact absurd e' hps⟩
      refine (cont_192 (c := { c with tsn := num (x.take 4), skips := sksN ((x.length - 4) / 4) (x.drop 4) }) hk192).trans ?_
      show be (num (x.take 4)) 4 ++ sksE (sksN ((x.length - 4) / 4) (x.drop 4)) = x
      rw [be_piece0 (by omega), g1, List.take_of_length_le (l := x.drop 4) (by rw [List.length_drop]; omega), List.take_append_drop]
    · rw [if_neg hq] at h; cases h
  by_cases hk194 : c.kind = 194
  · rw [decB_194 hk194] at h
    by_cases hq : 4 ≤ x.length ∧ (x.length - 4) % 8 = 0 ∧ sksOk ((x.length - 4) / 8) (x.drop 4) = true
    · rw [if_pos hq] at h
      skip
      injection h with h; subst h
      obtain ⟨g1, g2, _⟩ := enc_sksV ((x.length - 4) / 8) (x.drop 4) (by rw [List.length_drop]; omega) hq.2.2
      refine ⟨?_, fun e => by have e' : c.kind = 3 := e; omega, fun e => by have e' : hasPs c.kind = true := e; exact absurd e' hps⟩
      refine (cont_194 (c := { c with tsn := num (x.take 4), skips := sksV ((x.length - 4) / 8) (x.drop 4) }) hk194).trans ?_
      show be (num (x.take 4)) 4 ++ sksW (sksV ((x.length - 4) / 8) (x.drop 4)) = x
      rw [be_piece0 (by omega), g1, List.take_of_length_le (l := x.drop 4) (by rw [List.length_drop]; omega), List.take_append_drop]
    · rw [if_neg hq] at h; cases h
  rw [decB_no hk0 hk64 hk12 hk3 hk4 hps hk7 hk192 hk194] at h
  by_cases hq : x = []
  · rw [if_pos hq] at h
    skip
    injection h with h; subst h
    refine ⟨?_, fun e => absurd e hk3, fun e => absurd e hps⟩
    rw [hq]; exact cont_no hk0 hk64 hk12 hk3 hk4 hps hk7 hk192 hk194
  · rw [if_neg hq] at h; cases h
end Go.Proofs.Ytabkjgklmibagaa.Chk
