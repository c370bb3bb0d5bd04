/-
  Plain facts on chunks: what was put is got back.
-/
import Derived.Test.YtabkjgklmibagaaChSz
import Derived.Test.YtabkjgklmibagaaChGet
set_option linter.unusedVariables false
set_option linter.unusedSimpArgs false
namespace Go.Proofs.Ytabkjgklmibagaa.Chk
open Go.RowKit Go.Proofs.Ytabkjgklmibagaa.Words Go.Proofs.Ytabkjgklmibagaa.Oct Go.Proofs.Ytabkjgklmibagaa.Par

/-- What a chunk of which the flags are known becomes, when what stands behind the length of another of its kind is read. -/
def fillD (d c : Ck) : Ck :=
  if c.kind = 0 then { d with tsn := c.tsn, st := c.st, mid := c.mid % 65536, pp := c.pp, body := c.body }
  else if c.kind = 64 then (if d.bg then { d with tsn := c.tsn, st := c.st, mid := c.mid, pp := (if c.bg then c.pp else c.fr), body := c.body } else { d with tsn := c.tsn, st := c.st, mid := c.mid, fr := (if c.bg then c.pp else c.fr), body := c.body })
  else if c.kind = 1 ∨ c.kind = 2 then { d with tag := c.tag, win := c.win, out := c.out, inn := c.inn, tsn := c.tsn, ps := c.ps }
  else if c.kind = 3 then { d with tsn := c.tsn, win := c.win, gaps := c.gaps, dups := c.dups }
  else if c.kind = 4 ∨ c.kind = 5 ∨ c.kind = 10 then { d with body := c.body }
  else if hasPs c.kind then { d with ps := c.ps }
  else if c.kind = 7 then { d with tsn := c.tsn }
  else if c.kind = 192 then { d with tsn := c.tsn, skips := c.skips.map fun s => (s.1, false, s.2.2 % 65536) }
  else if c.kind = 194 then { d with tsn := c.tsn, skips := c.skips } else d
/-- Pieces of numbers laid one behind the other. -/
theorem at4 (a : Nat) (r : List UInt8) (k : Nat) : (be a 4 ++ r).drop (4 + k) = r.drop k := drop_be_more a 4 k r
theorem at2 (a : Nat) (r : List UInt8) (k : Nat) : (be a 2 ++ r).drop (2 + k) = r.drop k := drop_be_more a 2 k r
theorem decB_fill {c d : Ck} (ok : c.ok) (hp : Puts c) (hd : d.kind = c.kind) : decB d (cont c) = some (fillD d c) := by
  have hps1 : hasPs c.kind = true → ∀ p ∈ c.ps, okP p := fun h p hm => by
    refine ⟨ok.ps p hm, ?_⟩
    have := hp.short
    unfold tooLong at this
    rcases Nat.lt_or_ge 65531 p.2.length with h1 | h1
    · exact absurd (.inr (.inl ⟨h, p, hm, h1⟩)) this
    · exact h1
  have hk0 := hp.known
  by_cases h0 : c.kind = 0
  · rw [decB_0 (by omega), cont_body (by rw [h0]; rfl), fragE_0 h0]
    have e : (be c.tsn 4 ++ (be c.st 2 ++ (be (c.mid % 65536) 2 ++ be c.pp 4))) ++ c.body = be c.tsn 4 ++ (be c.st 2 ++ (be (c.mid % 65536) 2 ++ (be c.pp 4 ++ c.body))) := by simp only [List.append_assoc]
    rw [e, if_pos (by simp only [List.length_append, be_length]; omega)]
    unfold withFrag fillD
    rw [if_pos (by omega), if_pos h0]
    rw [show 12 = 4 + (2 + (2 + (4 + 0))) by rfl, show 8 = 4 + (2 + (2 + 0)) by rfl, show 6 = 4 + (2 + 0) by rfl]
    have d4 : (be c.tsn 4 ++ (be c.st 2 ++ (be (c.mid % 65536) 2 ++ (be c.pp 4 ++ c.body)))).drop 4 = be c.st 2 ++ (be (c.mid % 65536) 2 ++ (be c.pp 4 ++ c.body)) := drop_be _ _ _
    rw [d4]
    simp only [at4, at2, List.drop_zero, take_be]
    rw [num_be_lt (ok.tsn), num_be_lt (ok.st), num_be_lt (v := c.mid % 65536) (n := 2) (by omega), num_be_lt (ok.pp)]
  by_cases h64 : c.kind = 64
  · have hx : cont c = be c.tsn 4 ++ (be c.st 2 ++ (be 0 2 ++ (be c.mid 4 ++ (be (if c.bg then c.pp else c.fr) 4 ++ c.body)))) := by
      rw [cont_body (by rw [h64]; rfl)]
      by_cases hb : c.bg = true
      · rw [fragE_b h0 hb, if_pos hb]; simp only [List.append_assoc]
      · rw [fragE_n h0 hb, if_neg hb]; simp only [List.append_assoc]
    have hv : (if c.bg then c.pp else c.fr) < 4294967296 := by split; exact ok.pp; exact ok.fr
    rw [decB_64 (by omega), hx]
    obtain ⟨v, hve⟩ : ∃ v, v = (if c.bg then c.pp else c.fr) := ⟨_, rfl⟩
    rw [← hve] at hv ⊢
    have d4 : (be c.tsn 4 ++ (be c.st 2 ++ (be 0 2 ++ (be c.mid 4 ++ (be v 4 ++ c.body))))).drop 4 = be c.st 2 ++ (be 0 2 ++ (be c.mid 4 ++ (be v 4 ++ c.body))) := drop_be _ _ _
    have d6 : (be c.tsn 4 ++ (be c.st 2 ++ (be 0 2 ++ (be c.mid 4 ++ (be v 4 ++ c.body))))).drop 6 = be 0 2 ++ (be c.mid 4 ++ (be v 4 ++ c.body)) := by rw [show 6 = 4 + (2 + 0) by rfl, at4, at2, List.drop_zero]
    have d8 : (be c.tsn 4 ++ (be c.st 2 ++ (be 0 2 ++ (be c.mid 4 ++ (be v 4 ++ c.body))))).drop 8 = be c.mid 4 ++ (be v 4 ++ c.body) := by rw [show 8 = 4 + (2 + (2 + 0)) by rfl, at4, at2, at2, List.drop_zero]
    have d12 : (be c.tsn 4 ++ (be c.st 2 ++ (be 0 2 ++ (be c.mid 4 ++ (be v 4 ++ c.body))))).drop 12 = be v 4 ++ c.body := by rw [show 12 = 4 + (2 + (2 + (4 + 0))) by rfl, at4, at2, at2, at4, List.drop_zero]
    have d16 : (be c.tsn 4 ++ (be c.st 2 ++ (be 0 2 ++ (be c.mid 4 ++ (be v 4 ++ c.body))))).drop 16 = c.body := by rw [show 16 = 4 + (2 + (2 + (4 + (4 + 0)))) by rfl, at4, at2, at2, at4, at4, List.drop_zero]
    rw [if_pos ⟨by simp only [List.length_append, be_length]; omega, by rw [d6, take_be]; decide⟩]
    unfold withFrag fillD
    rw [if_neg (by omega), if_neg h0, if_pos h64, d4, d8, d12, d16]
    simp only [take_be]
    rw [num_be_lt (ok.tsn), num_be_lt (ok.st), num_be_lt (ok.mid), num_be_lt hv]
    by_cases hb : d.bg = true
    · rw [if_pos hb, if_pos hb, hve]
    · rw [if_neg hb, if_neg hb, hve]
  by_cases h12 : c.kind = 1 ∨ c.kind = 2
  · rw [decB_12 (by omega), cont_12 h12]
    have e : greetE c ++ encL c.ps = be c.tag 4 ++ (be c.win 4 ++ (be c.out 2 ++ (be c.inn 2 ++ (be c.tsn 4 ++ encL c.ps)))) := by unfold greetE; simp only [List.append_assoc]
    rw [e]
    have d4 : (be c.tag 4 ++ (be c.win 4 ++ (be c.out 2 ++ (be c.inn 2 ++ (be c.tsn 4 ++ encL c.ps))))).drop 4 = be c.win 4 ++ (be c.out 2 ++ (be c.inn 2 ++ (be c.tsn 4 ++ encL c.ps))) := drop_be _ _ _
    have d8 : (be c.tag 4 ++ (be c.win 4 ++ (be c.out 2 ++ (be c.inn 2 ++ (be c.tsn 4 ++ encL c.ps))))).drop 8 = be c.out 2 ++ (be c.inn 2 ++ (be c.tsn 4 ++ encL c.ps)) := by rw [show 8 = 4 + (4 + 0) by rfl, at4, at4, List.drop_zero]
    have d10 : (be c.tag 4 ++ (be c.win 4 ++ (be c.out 2 ++ (be c.inn 2 ++ (be c.tsn 4 ++ encL c.ps))))).drop 10 = be c.inn 2 ++ (be c.tsn 4 ++ encL c.ps) := by rw [show 10 = 4 + (4 + (2 + 0)) by rfl, at4, at4, at2, List.drop_zero]
    have d12 : (be c.tag 4 ++ (be c.win 4 ++ (be c.out 2 ++ (be c.inn 2 ++ (be c.tsn 4 ++ encL c.ps))))).drop 12 = be c.tsn 4 ++ encL c.ps := by rw [show 12 = 4 + (4 + (2 + (2 + 0))) by rfl, at4, at4, at2, at2, List.drop_zero]
    have d16 : (be c.tag 4 ++ (be c.win 4 ++ (be c.out 2 ++ (be c.inn 2 ++ (be c.tsn 4 ++ encL c.ps))))).drop 16 = encL c.ps := by rw [show 16 = 4 + (4 + (2 + (2 + (4 + 0)))) by rfl, at4, at4, at2, at2, at4, List.drop_zero]
    rw [if_pos (by simp only [List.length_append, be_length]; omega), d16, getL_enc _ (hps1 (by rcases h12 with h | h <;> rw [h] <;> rfl))]
    unfold withGreet fillD withPs
    rw [if_neg h0, if_neg h64, if_pos h12, d4, d8, d10, d12]
    simp only [take_be]
    rw [num_be_lt (ok.tsn), num_be_lt (ok.tag), num_be_lt (ok.win), num_be_lt (ok.out), num_be_lt (ok.inn)]
  by_cases h3 : c.kind = 3
  · have hs := hp.short
    unfold tooLong at hs
    have hg : c.gaps.length < 65536 := by
      rcases Nat.lt_or_ge c.gaps.length 65536 with h | h
      · exact h
      · exact absurd (.inl ⟨h3, .inl (by omega)⟩) hs
    have hdu : c.dups.length < 65536 := by
      rcases Nat.lt_or_ge c.dups.length 65536 with h | h
      · exact h
      · exact absurd (.inl ⟨h3, .inr (by omega)⟩) hs
    rw [decB_3 (by omega), cont_3 h3]
    unfold sackE
    generalize hR : gapsE c.gaps ++ dupsE c.dups = R
    have hRl : R.length = 4 * c.gaps.length + 4 * c.dups.length := by rw [← hR, List.length_append, gapsE_length, dupsE_length]
    have d4 : (be c.tsn 4 ++ (be c.win 4 ++ (be c.gaps.length 2 ++ (be c.dups.length 2 ++ R)))).drop 4 = be c.win 4 ++ (be c.gaps.length 2 ++ (be c.dups.length 2 ++ R)) := drop_be _ _ _
    have d8 : (be c.tsn 4 ++ (be c.win 4 ++ (be c.gaps.length 2 ++ (be c.dups.length 2 ++ R)))).drop 8 = be c.gaps.length 2 ++ (be c.dups.length 2 ++ R) := by rw [show 8 = 4 + (4 + 0) by rfl, at4, at4, List.drop_zero]
    have d10 : (be c.tsn 4 ++ (be c.win 4 ++ (be c.gaps.length 2 ++ (be c.dups.length 2 ++ R)))).drop 10 = be c.dups.length 2 ++ R := by rw [show 10 = 4 + (4 + (2 + 0)) by rfl, at4, at4, at2, List.drop_zero]
    have d12 : (be c.tsn 4 ++ (be c.win 4 ++ (be c.gaps.length 2 ++ (be c.dups.length 2 ++ R)))).drop 12 = R := by rw [show 12 = 4 + (4 + (2 + (2 + 0))) by rfl, at4, at4, at2, at2, List.drop_zero]
    have n8 : num ((be c.gaps.length 2 ++ (be c.dups.length 2 ++ R)).take 2) = c.gaps.length := by rw [take_be, num_be_lt hg]
    have n10 : num ((be c.dups.length 2 ++ R).take 2) = c.dups.length := by rw [take_be, num_be_lt hdu]
    unfold withSack fillD
    rw [d4, d8, d10, d12, n8, n10, if_pos (by simp only [List.length_append, be_length, hRl]; omega), if_neg h0, if_neg h64, if_neg h12, if_pos h3]
    simp only [take_be]
    have hD : R.drop (4 * c.gaps.length) = dupsE c.dups := by rw [← hR, ← gapsE_length, List.drop_left]
    have g1 : gapsN c.gaps.length R = c.gaps := by rw [← hR]; exact gapsN_enc _ _ ok.gaps
    have g2 : dupsN c.dups.length (R.drop (4 * c.gaps.length)) = c.dups := by
      have := dupsN_enc c.dups [] ok.dups
      rw [hD]; rwa [List.append_nil] at this
    rw [g1, g2, num_be_lt (ok.tsn), num_be_lt (ok.win)]
  by_cases h4 : c.kind = 4 ∨ c.kind = 5 ∨ c.kind = 10
  · rw [decB_4 (by omega), cont_4 h4]
    unfold fillD
    rw [if_neg h0, if_neg h64, if_neg h12, if_neg h3, if_pos h4]
  by_cases hps : hasPs c.kind = true
  · rw [decB_ps (by omega) (by rw [hd]; exact hps), cont_ps h12 hps, getL_enc _ (hps1 hps)]
    unfold fillD withPs
    rw [if_neg h0, if_neg h64, if_neg h12, if_neg h3, if_neg h4, if_pos hps]
  by_cases h7 : c.kind = 7
  · rw [decB_7 (by omega), cont_7 h7, if_pos (be_length _ _)]
    unfold fillD
    rw [if_neg h0, if_neg h64, if_neg h12, if_neg h3, if_neg h4, if_neg hps, if_pos h7, List.take_of_length_le (by rw [be_length]; omega), num_be_lt (ok.tsn)]
  by_cases h192 : c.kind = 192
  · rw [decB_192 (by omega), cont_192 h192]
    have hl : (be c.tsn 4 ++ sksE c.skips).length - 4 = 4 * c.skips.length := by rw [List.length_append, be_length, sksE_length]; omega
    rw [if_pos ⟨by rw [List.length_append, be_length]; omega, by rw [hl]; omega⟩, hl, take_be, drop_be, show 4 * c.skips.length / 4 = c.skips.length by omega, num_be_lt (ok.tsn)]
    have := sksN_enc c.skips [] ok.skips
    rw [List.append_nil] at this
    rw [this]
    unfold fillD
    rw [if_neg h0, if_neg h64, if_neg h12, if_neg h3, if_neg h4, if_neg hps, if_neg h7, if_pos h192]
  by_cases h194 : c.kind = 194
  · rw [decB_194 (by omega), cont_194 h194]
    have hl : (be c.tsn 4 ++ sksW c.skips).length - 4 = 8 * c.skips.length := by rw [List.length_append, be_length, sksW_length]; omega
    obtain ⟨this, hm⟩ := sksV_enc c.skips [] ok.skips
    rw [List.append_nil] at this hm
    rw [hl, take_be, drop_be, show 8 * c.skips.length / 8 = c.skips.length by omega, num_be_lt (ok.tsn)]
    rw [if_pos ⟨by rw [List.length_append, be_length]; omega, by omega, hm⟩, this]
    unfold fillD
    rw [if_neg h0, if_neg h64, if_neg h12, if_neg h3, if_neg h4, if_neg hps, if_neg h7, if_neg h192, if_pos h194]
  rw [decB_no (by omega) (by omega) (by omega) (by omega) (by omega) (by rw [hd]; exact hps) (by omega) (by omega) (by omega), cont_no h0 h64 h12 h3 h4 hps h7 h192 h194, if_pos rfl]
  unfold fillD
  rw [if_neg h0, if_neg h64, if_neg h12, if_neg h3, if_neg h4, if_neg hps, if_neg h7, if_neg h192, if_neg h194]
theorem lacks_fill {c d : Ck} (hd : d.kind = c.kind) : (fillD d c).kind = c.kind ∧ (fillD d c).bg = d.bg ∧ (fillD d c).en = d.en ∧ (fillD d c).lo = d.lo ∧ (fillD d c).ba = d.ba ∧ (hasBody c.kind = true → (fillD d c).body = c.body) := by
  by_cases h0 : c.kind = 0
  · unfold fillD; rw [if_pos h0]; exact ⟨hd, rfl, rfl, rfl, rfl, fun _ => rfl⟩
  by_cases h64 : c.kind = 64
  · unfold fillD; rw [if_neg h0, if_pos h64]
    split
    · exact ⟨hd, rfl, rfl, rfl, rfl, fun _ => rfl⟩
    · exact ⟨hd, rfl, rfl, rfl, rfl, fun _ => rfl⟩
  have hb := body_no h0 h64
  unfold fillD; rw [if_neg h0, if_neg h64]
  split
  · exact ⟨hd, rfl, rfl, rfl, rfl, fun h => absurd h hb⟩
  split
  · exact ⟨hd, rfl, rfl, rfl, rfl, fun h => absurd h hb⟩
  split
  · exact ⟨hd, rfl, rfl, rfl, rfl, fun h => absurd h hb⟩
  split
  · exact ⟨hd, rfl, rfl, rfl, rfl, fun h => absurd h hb⟩
  split
  · exact ⟨hd, rfl, rfl, rfl, rfl, fun h => absurd h hb⟩
  split
  · exact ⟨hd, rfl, rfl, rfl, rfl, fun h => absurd h hb⟩
  split
  · exact ⟨hd, rfl, rfl, rfl, rfl, fun h => absurd h hb⟩
  exact ⟨hd, rfl, rfl, rfl, rfl, fun h => absurd h hb⟩
/-- With which bytes of flags a chunk of these contents is there. -/
theorem decC_cont {c : Ck} {f : Nat} (ok : c.ok) (hp : Puts c) :
    decC c.kind f (cont c) = if f = flagsN (flagged c.kind f) then some (fillD (flagged c.kind f) c) else none := by
  unfold decC
  rw [decB_fill ok hp (flagged_kind' _ _)]
  obtain ⟨h1, _, _, _, _, h2⟩ := lacks_fill (c := c) (d := flagged c.kind f) (flagged_kind' _ _)
  have hl : lacks (fillD (flagged c.kind f) c) = false := by
    have := hp.full
    unfold lacks at this ⊢
    rw [h1]
    cases hb : hasBody c.kind
    · rfl
    · rw [h2 hb]; rw [hb] at this; exact this
  by_cases hf : f = flagsN (flagged c.kind f)
  · rw [if_pos hf, if_pos hf]; simp only [hl]; rfl
  · rw [if_neg hf, if_neg hf]
theorem flagsN_body {c : Ck} (h : hasBody c.kind = true) : flagsN c = loN c.en + (2 * loN c.bg + 4 * loN c.lo) := by unfold flagsN; rw [if_pos h]
theorem flagsN_ba {c : Ck} (h : ¬ hasBody c.kind = true) (h6 : c.kind = 6 ∨ c.kind = 14) : flagsN c = loN c.ba := by unfold flagsN; rw [if_neg h, if_pos h6]
theorem flagsN_no {c : Ck} (h : ¬ hasBody c.kind = true) (h6 : ¬ (c.kind = 6 ∨ c.kind = 14)) : flagsN c = 0 := by unfold flagsN; rw [if_neg h, if_neg h6]
theorem flagged_body {k f : Nat} (h : hasBody k = true) : flagged k f = { zeroC k with bg := f / 2 % 2 == 1, en := f % 2 == 1, lo := f / 4 % 2 == 1 } := by unfold flagged; rw [if_pos h]
theorem flagged_ba {k f : Nat} (h : ¬ hasBody k = true) (h6 : k = 6 ∨ k = 14) : flagged k f = { zeroC k with ba := f % 2 == 1 } := by unfold flagged; rw [if_neg h, if_pos h6]
theorem flagged_no {k f : Nat} (h : ¬ hasBody k = true) (h6 : ¬ (k = 6 ∨ k = 14)) : flagged k f = zeroC k := by unfold flagged; rw [if_neg h, if_neg h6]
theorem loN_bit (n : Nat) : loN (n % 2 == 1) = n % 2 := by
  rcases Nat.mod_two_eq_zero_or_one n with h | h <;> rw [h] <;> rfl
/-- Which bytes of flags a kind has. -/
theorem flags_of (k f : Nat) : flagsN (flagged k f) = if hasBody k = true then f % 8 else if k = 6 ∨ k = 14 then f % 2 else 0 := by
  by_cases hb : hasBody k = true
  · rw [if_pos hb, flagged_body hb]
    refine (flagsN_body (c := { zeroC k with bg := f / 2 % 2 == 1, en := f % 2 == 1, lo := f / 4 % 2 == 1 }) hb).trans ?_
    show loN (f % 2 == 1) + (2 * loN (f / 2 % 2 == 1) + 4 * loN (f / 4 % 2 == 1)) = f % 8
    rw [loN_bit, loN_bit, loN_bit]
    omega
  · by_cases h6 : k = 6 ∨ k = 14
    · rw [if_neg hb, if_pos h6, flagged_ba hb h6]
      refine (flagsN_ba (c := { zeroC k with ba := f % 2 == 1 }) hb h6).trans ?_
      exact loN_bit f
    · rw [if_neg hb, if_neg h6, flagged_no hb h6]
      exact flagsN_no (c := zeroC k) hb h6
theorem loN_le (b : Bool) : loN b ≤ 1 := by cases b <;> decide
theorem flags_back (c : Ck) : flagsN c = flagsN (flagged c.kind (flagsN c)) := by
  rw [flags_of]
  have h1 := loN_le c.en
  have h2 := loN_le c.bg
  have h3 := loN_le c.lo
  have h4 := loN_le c.ba
  by_cases hb : hasBody c.kind = true
  · rw [if_pos hb, flagsN_body hb]; omega
  · by_cases h6 : c.kind = 6 ∨ c.kind = 14
    · rw [if_neg hb, if_pos h6, flagsN_ba hb h6]; omega
    · rw [if_neg hb, if_neg h6, flagsN_no hb h6]
/-! ### whole chunks -/
theorem frame_len (k f : Nat) (x : List UInt8) : (frame k f x).length = x.length + 4 + padC x.length := by
  unfold frame
  simp only [List.length_append, be_length, List.length_replicate]
  omega
theorem up4 (n : Nat) : (n + 4 + 3) / 4 * 4 = n + 4 + padC n := by unfold padC; omega
theorem puts_short {c : Ck} (hp : Puts c) : (cont c).length + 4 < 65536 := by
  have := hp.short
  unfold tooLong at this
  rcases Nat.lt_or_ge ((cont c).length + 4) 65536 with h | h
  · exact h
  · exact absurd (.inr (.inr (by omega))) this
section
variable {k f : Nat} {x r : List UInt8}
theorem fr_1 (hk : k < 256) : num ((frame k f x ++ r).take 1) = k := by
  have : (frame k f x ++ r).take 1 = be k 1 := by unfold frame; rw [List.append_assoc, take_be]
  rw [this, num_be_lt hk]
theorem fr_2 (hf : f < 256) : num (((frame k f x ++ r).drop 1).take 1) = f := by
  have : ((frame k f x ++ r).drop 1).take 1 = be f 1 := by unfold frame; rw [List.append_assoc, drop_be, List.append_assoc, take_be]
  rw [this, num_be_lt hf]
theorem fr_3 (hx : x.length + 4 < 65536) : num (((frame k f x ++ r).drop 2).take 2) = x.length + 4 := by
  have : ((frame k f x ++ r).drop 2).take 2 = be (x.length + 4) 2 := by
    unfold frame
    rw [List.append_assoc, show 2 = 1 + (1 + 0) by rfl, drop_be_more, List.append_assoc, drop_be_more, List.drop_zero, List.append_assoc]
    exact take_be _ 2 _
  rw [this, num_be_lt hx]
theorem fr_4 : (frame k f x ++ r).drop 4 = x ++ (List.replicate (padC x.length) 0 ++ r) := by
  unfold frame
  rw [List.append_assoc, show 4 = 1 + (1 + (2 + 0)) by rfl, drop_be_more, List.append_assoc, drop_be_more, List.append_assoc, drop_be_more, List.drop_zero, List.append_assoc]
theorem fr_5 : (frame k f x ++ r).drop (x.length + 4) = List.replicate (padC x.length) 0 ++ r := by
  rw [Nat.add_comm, ← List.drop_drop, fr_4, List.drop_left]
/-- A chunk's frame with any byte of flags, and whatever is behind it. -/
theorem getC_frame (hk : k < 256) (hf : f < 256) (hx : x.length + 4 < 65536) (hn : known k = true) :
    getC (frame k f x ++ r) = match decC k f x with | none => .error 42 | some c => .ok (c, (frame k f x).length) := by
  have hl := frame_len k f x
  have hu := up4 x.length
  have hle : (frame k f x ++ r).length = (frame k f x).length + r.length := List.length_append
  rw [getC_rest (m := x.length + 4) (by omega) (fr_3 hx).symm (by omega) (by omega) ?_ (by rw [fr_1 hk]; exact hn), fr_1 hk, fr_2 hf, fr_4, show x.length + 4 - 4 = x.length by omega, List.take_left, hu, ← hl]
  · cases decC k f x <;> rfl
  · rw [fr_5, hu, show x.length + 4 + padC x.length - (x.length + 4) = padC x.length by omega, List.take_left' (by simp)]
    exact any_zero _
/-- A front part of a frame. -/
theorem getC_front {i : Nat} (hx : x.length + 4 < 65536) (hi : i < (frame k f x).length) : getC ((frame k f x).take i) = .error 40 := by
  have hl := frame_len k f x
  have hu := up4 x.length
  have hlt : ((frame k f x).take i).length = i := by rw [List.length_take]; omega
  by_cases h4 : i < 4
  · exact getC_short (by omega)
  · refine getC_cut (m := x.length + 4) (by omega) ?_ (by omega) (by omega)
    have e : (((frame k f x).take i).drop 2).take 2 = ((frame k f x ++ []).drop 2).take 2 := by
      rw [List.append_nil, List.drop_take, List.take_take, Nat.min_eq_left (by omega)]
    rw [e, fr_3 hx]
end
theorem getC_bytes {c : Ck} {r : List UInt8} (ok : c.ok) (hp : Puts c) : getC (bytesC c ++ r) = .ok (fillD (flagged c.kind (flagsN c)) c, (bytesC c).length) := by
  have hf : flagsN c < 256 := by
    have h1 := loN_le c.en
    have h2 := loN_le c.bg
    have h3 := loN_le c.lo
    have h4 := loN_le c.ba
    unfold flagsN
    split
    · omega
    · split <;> omega
  unfold bytesC
  rw [getC_frame ok.kind hf (puts_short hp) hp.known, decC_cont ok hp, if_pos (flags_back c)]
theorem getC_bytes_cut {c : Ck} {i : Nat} (hp : Puts c) (hi : i < (bytesC c).length) : getC ((bytesC c).take i) = .error 40 := getC_front (puts_short hp) hi
theorem byteAt_toNat (t : UInt8) : byteAt t.toNat 0 = t := by
  apply UInt8.toNat_inj.1
  rw [byteAt_nat]
  have := t.toNat_lt
  simp
theorem set_flags (c : Ck) (t : UInt8) : (bytesC c).set 1 t = frame c.kind t.toNat (cont c) := by
  have h1 : frame c.kind t.toNat (cont c) = byteAt c.kind 0 :: byteAt t.toNat 0 :: byteAt ((cont c).length + 4) 1 :: byteAt ((cont c).length + 4) 0 :: (cont c ++ List.replicate (padC (cont c).length) 0) := rfl
  rw [bytes_cons, h1, byteAt_toNat]
  rfl
end Go.Proofs.Ytabkjgklmibagaa.Chk
