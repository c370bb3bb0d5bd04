/-
  Plain facts on chunks: what was got is put as the same bytes, with any field of another kind set.
-/
import Derived.Test.YtabkjgklmibagaaChBk
set_option linter.unusedVariables false
set_option linter.unusedSimpArgs false
namespace Go.Proofs.Ytabkjgklmibagaa.Chk
open Go.RowKit Go.Proofs.Ytabkjgklmibagaa.Words Go.Proofs.Ytabkjgklmibagaa.Oct Go.Proofs.Ytabkjgklmibagaa.Par

theorem same_puts {e x : Ck} (hk : x.kind = e.kind) (hc : cont x = cont e) (hf : flagsN x = flagsN e) (hl : lacks x = lacks e) (hg : e.kind = 3 → x.gaps.length ≤ 65535 ∧ x.dups.length ≤ 65535) (hp : hasPs e.kind = true → ∀ p ∈ x.ps, p.2.length ≤ 65531) (h : Puts e) : Puts x ∧ bytesC x = bytesC e := by
  refine ⟨⟨by rw [hk]; exact h.known, by rw [hl]; exact h.full, fun ht => ?_⟩, by unfold bytesC; rw [hk, hc, hf]⟩
  unfold tooLong at ht
  rw [hk, hc] at ht
  rcases ht with ⟨h3, hq⟩ | ⟨hps, p, hpm, hq⟩ | hq
  · have := hg h3
    omega
  · have := hp hps p hpm
    omega
  · exact h.short (.inr (.inr hq))
/-- What was got is put as the same bytes. -/
theorem got_puts {c : Ck} (ok : c.ok) (h : Puts c) : Puts (fillD (flagged c.kind (flagsN c)) c) ∧ bytesC (fillD (flagged c.kind (flagsN c)) c) = bytesC c := by
  have hd := decB_fill (d := flagged c.kind (flagsN c)) ok h (flagged_kind' _ _)
  obtain ⟨h1, h2, h3, h4, h5, h6⟩ := lacks_fill (c := c) (d := flagged c.kind (flagsN c)) (flagged_kind' _ _)
  obtain ⟨k1, k2, k3⟩ := cont_decB (by rw [flagged_kind']; exact h.known) hd
  refine same_puts h1 k1 ?_ ?_ (fun e => k2 (by rw [h1]; exact e)) (fun e => k3 (by rw [h1]; exact e)) h
  · exact (flagsN_alike (c := flagged c.kind (flagsN c)) ⟨h1.trans (flagged_kind' _ _).symm, h2, h3, h4, h5⟩).trans (flags_back c).symm
  · unfold lacks
    rw [h1]
    cases hb : hasBody c.kind
    · rfl
    · rw [h6 hb]
section
variable {e o : Ck}
theorem bare_7 (h : Puts e) (hk : e.kind = 7) : Puts { e with st := o.st, body := o.body, gaps := o.gaps, ba := o.ba } ∧ bytesC { e with st := o.st, body := o.body, gaps := o.gaps, ba := o.ba } = bytesC e := by
  have hb : ¬ hasBody e.kind = true := by rw [hk]; decide
  refine same_puts rfl ?_ ?_ ?_ (fun h3 => by omega) (fun hp => by rw [hk] at hp; exact absurd hp (by decide)) h
  · exact (cont_7 (c := { e with st := o.st, body := o.body, gaps := o.gaps, ba := o.ba }) hk).trans (cont_7 hk).symm
  · exact (flagsN_no (c := { e with st := o.st, body := o.body, gaps := o.gaps, ba := o.ba }) hb (by show ¬ (e.kind = 6 ∨ e.kind = 14); omega)).trans (flagsN_no hb (by omega)).symm
  · unfold lacks
    rw [show hasBody e.kind = false by rw [hk]; rfl]
    rfl
theorem bare_811 (h : Puts e) (hk : e.kind = 11 ∨ e.kind = 8) : Puts { e with tsn := o.tsn, ps := o.ps, bg := o.bg } ∧ bytesC { e with tsn := o.tsn, ps := o.ps, bg := o.bg } = bytesC e := by
  have hb : ¬ hasBody e.kind = true := by rcases hk with hk | hk <;> rw [hk] <;> decide
  have hps : ¬ hasPs e.kind = true := by rcases hk with hk | hk <;> rw [hk] <;> decide
  refine same_puts rfl ?_ ?_ rfl (fun h3 => by omega) (fun hp => absurd hp hps) h
  · have e1 := cont_no (c := e) (by omega) (by omega) (by omega) (by omega) (by omega) hps (by omega) (by omega) (by omega)
    rw [e1]
    exact cont_no (c := { e with tsn := o.tsn, ps := o.ps, bg := o.bg }) (by show ¬ e.kind = 0; omega) (by show ¬ e.kind = 64; omega) (by show ¬ (e.kind = 1 ∨ e.kind = 2); omega) (by show ¬ e.kind = 3; omega) (by show ¬ (e.kind = 4 ∨ e.kind = 5 ∨ e.kind = 10); omega) hps (by show ¬ e.kind = 7; omega) (by show ¬ e.kind = 192; omega) (by show ¬ e.kind = 194; omega)
  · exact (flagsN_no (c := { e with tsn := o.tsn, ps := o.ps, bg := o.bg }) hb (by show ¬ (e.kind = 6 ∨ e.kind = 14); omega)).trans (flagsN_no hb (by omega)).symm
theorem bare_body (h : Puts e) (hk : e.kind = 0 ∨ e.kind = 64) : Puts { e with win := o.win, skips := o.skips, dups := o.dups } ∧ bytesC { e with win := o.win, skips := o.skips, dups := o.dups } = bytesC e := by
  have hb : hasBody e.kind = true := by rcases hk with hk | hk <;> rw [hk] <;> decide
  have hps : ¬ hasPs e.kind = true := by rcases hk with hk | hk <;> rw [hk] <;> decide
  refine same_puts rfl ?_ rfl rfl (fun h3 => by omega) (fun hp => absurd hp hps) h
  exact (cont_body (c := { e with win := o.win, skips := o.skips, dups := o.dups }) hb).trans (cont_body hb).symm
theorem bare_3 (h : Puts e) (hk : e.kind = 3) : Puts { e with body := o.body, skips := o.skips, lo := o.lo } ∧ bytesC { e with body := o.body, skips := o.skips, lo := o.lo } = bytesC e := by
  have hb : ¬ hasBody e.kind = true := by rw [hk]; decide
  have hs := h.short
  unfold tooLong at hs
  refine same_puts rfl ?_ ?_ ?_ (fun h3 => ?_) (fun hp => by rw [hk] at hp; exact absurd hp (by decide)) h
  · exact (cont_3 (c := { e with body := o.body, skips := o.skips, lo := o.lo }) hk).trans (cont_3 hk).symm
  · exact (flagsN_no (c := { e with body := o.body, skips := o.skips, lo := o.lo }) hb (by show ¬ (e.kind = 6 ∨ e.kind = 14); omega)).trans (flagsN_no hb (by omega)).symm
  · unfold lacks
    rw [show hasBody e.kind = false by rw [hk]; rfl]
    rfl
  · constructor
    · rcases Nat.lt_or_ge 65535 e.gaps.length with q | q
      · exact absurd (.inl ⟨hk, .inl q⟩) hs
      · exact q
    · rcases Nat.lt_or_ge 65535 e.dups.length with q | q
      · exact absurd (.inl ⟨hk, .inr q⟩) hs
      · exact q
theorem bare_else (h : Puts e) (h0 : ¬ e.kind = 0) (h64 : ¬ e.kind = 64) (h3 : ¬ e.kind = 3) : Puts { e with gaps := o.gaps, dups := o.dups, st := o.st, pp := o.pp } ∧ bytesC { e with gaps := o.gaps, dups := o.dups, st := o.st, pp := o.pp } = bytesC e := by
  have hb := body_no h0 h64
  have hs := h.short
  unfold tooLong at hs
  refine same_puts rfl ?_ rfl rfl (fun h => absurd h h3) (fun hp p hpm => ?_) h
  · by_cases h12 : e.kind = 1 ∨ e.kind = 2
    · exact (cont_12 (c := { e with gaps := o.gaps, dups := o.dups, st := o.st, pp := o.pp }) h12).trans (cont_12 h12).symm
    by_cases h4 : e.kind = 4 ∨ e.kind = 5 ∨ e.kind = 10
    · exact (cont_4 (c := { e with gaps := o.gaps, dups := o.dups, st := o.st, pp := o.pp }) h4).trans (cont_4 h4).symm
    by_cases hps : hasPs e.kind = true
    · exact (cont_ps (c := { e with gaps := o.gaps, dups := o.dups, st := o.st, pp := o.pp }) h12 hps).trans (cont_ps h12 hps).symm
    by_cases h7 : e.kind = 7
    · exact (cont_7 (c := { e with gaps := o.gaps, dups := o.dups, st := o.st, pp := o.pp }) h7).trans (cont_7 h7).symm
    by_cases h192 : e.kind = 192
    · exact (cont_192 (c := { e with gaps := o.gaps, dups := o.dups, st := o.st, pp := o.pp }) h192).trans (cont_192 h192).symm
    by_cases h194 : e.kind = 194
    · exact (cont_194 (c := { e with gaps := o.gaps, dups := o.dups, st := o.st, pp := o.pp }) h194).trans (cont_194 h194).symm
    exact (cont_no (c := { e with gaps := o.gaps, dups := o.dups, st := o.st, pp := o.pp }) h0 h64 h12 h3 h4 hps h7 h192 h194).trans (cont_no h0 h64 h12 h3 h4 hps h7 h192 h194).symm
  · rcases Nat.lt_or_ge 65531 p.2.length with q | q
    · exact absurd (.inr (.inl ⟨hp, p, hpm, q⟩)) hs
    · exact q
end
theorem fill_lists {c : Ck} {k f : Nat} : (fillD (flagged k f) c).body.length ≤ c.body.length ∧ (fillD (flagged k f) c).skips.length ≤ c.skips.length ∧ sizeL (fillD (flagged k f) c).ps ≤ sizeL c.ps := by
  have hb : (flagged k f).body = [] ∧ (flagged k f).skips = [] ∧ (flagged k f).ps = [] := by
    unfold flagged
    split
    · exact ⟨rfl, rfl, rfl⟩
    · split <;> exact ⟨rfl, rfl, rfl⟩
  obtain ⟨h1, h2, h3⟩ := hb
  have hz : sizeL [] = 0 := by simp [sizeL]
  generalize flagged k f = d at h1 h2 h3
  unfold fillD
  by_cases q0 : c.kind = 0
  · rw [if_pos q0]; simp [h2, h3, hz]
  rw [if_neg q0]
  by_cases q1 : c.kind = 64
  · rw [if_pos q1]
    split <;> simp [h2, h3, hz]
  rw [if_neg q1]
  by_cases q2 : c.kind = 1 ∨ c.kind = 2
  · rw [if_pos q2]; simp [h1, h2]
  rw [if_neg q2]
  by_cases q3 : c.kind = 3
  · rw [if_pos q3]; simp [h1, h2, h3, hz]
  rw [if_neg q3]
  by_cases q4 : c.kind = 4 ∨ c.kind = 5 ∨ c.kind = 10
  · rw [if_pos q4]; simp [h2, h3, hz]
  rw [if_neg q4]
  by_cases q5 : hasPs c.kind = true
  · rw [if_pos q5]; simp [h1, h2]
  rw [if_neg q5]
  by_cases q6 : c.kind = 7
  · rw [if_pos q6]; simp [h1, h2, h3, hz]
  rw [if_neg q6]
  by_cases q7 : c.kind = 192
  · rw [if_pos q7]; simp [h1, h3, hz]
  rw [if_neg q7]
  by_cases q8 : c.kind = 194
  · rw [if_pos q8]; simp [h1, h3, hz]
  rw [if_neg q8]; simp [h1, h2, h3, hz]
end Go.Proofs.Ytabkjgklmibagaa.Chk
