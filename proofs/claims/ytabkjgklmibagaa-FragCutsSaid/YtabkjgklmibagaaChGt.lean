/-
  Plain facts on chunks: what was got can be put again, as the same bytes; how great it is.
-/
import Derived.Test.YtabkjgklmibagaaChBk
import Derived.Test.YtabkjgklmibagaaChAll
set_option linter.unusedVariables false
set_option linter.unusedSimpArgs false
namespace Go.Proofs.Ytabkjgklmibagaa.Chk
open Go.RowKit Go.Proofs.Ytabkjgklmibagaa.Words Go.Proofs.Ytabkjgklmibagaa.Oct Go.Proofs.Ytabkjgklmibagaa.Par

theorem sizeL_le (ls : List Prm) : sizeL ls ≤ (encL ls).length := by
  induction ls with
  | nil => simp [sizeL]
  | cons p ls ih => rw [encL_cons, List.length_append, encP_length, sizeL_cons]; omega
theorem withPs_small {d c : Ck} {y : List UInt8} (h : withPs d (getL y) = some c) (hy : y.length ≤ 65535) (h1 : d.body = []) (h2 : d.skips = []) : Small c := by
  cases hg : getL y with
  | error e => rw [hg] at h; cases h
  | ok ls =>
    rw [hg] at h
    injection h with h
    subst h
    have e := (enc_getL _ y ls (Nat.le_refl _) hg).2
    have hs := sizeL_le ls
    rw [e] at hs
    exact ⟨by show d.body.length ≤ _; rw [h1]; simp, by show 8 * d.skips.length ≤ _; rw [h2]; simp, by show sizeL ls ≤ _; omega⟩
theorem sksN_len : ∀ (n : Nat) (l : List UInt8), (sksN n l).length = n
  | 0, _ => rfl
  | n + 1, l => by rw [sksN]; simp [sksN_len n]
theorem sksV_len : ∀ (n : Nat) (l : List UInt8), (sksV n l).length = n
  | 0, _ => rfl
  | n + 1, l => by rw [sksV]; simp [sksV_len n]
theorem decB_small {d c : Ck} {x : List UInt8} (h : decB d x = some c) (hx : x.length ≤ 65535) (h1 : d.body = []) (h2 : d.skips = []) (h3 : d.ps = []) : Small c := by
  have hz : sizeL [] = 0 := by simp [sizeL]
  have hdl : ∀ n, (x.drop n).length ≤ 65535 := fun n => by rw [List.length_drop]; omega
  have base : ∀ {c' : Ck}, c'.body.length ≤ 65535 → c'.skips = [] → c'.ps = [] → Small c' := fun a b e => ⟨by omega, by rw [b]; simp, by rw [e, hz]; omega⟩
  by_cases k0 : d.kind = 0
  · rw [decB_0 k0] at h
    split at h
    · injection h with h; subst h
      unfold withFrag
      rw [if_pos k0]
      exact base (hdl 12) h2 h3
    · cases h
  by_cases k64 : d.kind = 64
  · rw [decB_64 k64] at h
    split at h
    · injection h with h; subst h
      unfold withFrag
      rw [if_neg k0]
      split
      · exact base (hdl 16) h2 h3
      · exact base (hdl 16) h2 h3
    · cases h
  by_cases k12 : d.kind = 1 ∨ d.kind = 2
  · rw [decB_12 k12] at h
    split at h
    · exact withPs_small h (hdl 16) h1 h2
    · cases h
  by_cases k3 : d.kind = 3
  · rw [decB_3 k3] at h
    split at h
    · injection h with h; subst h
      exact base (by show d.body.length ≤ _; rw [h1]; simp) h2 h3
    · cases h
  by_cases k4 : d.kind = 4 ∨ d.kind = 5 ∨ d.kind = 10
  · rw [decB_4 k4] at h
    injection h with h; subst h
    exact base (c' := { d with body := x }) hx h2 h3
  by_cases kps : hasPs d.kind = true
  · rw [decB_ps k12 kps] at h
    exact withPs_small h hx h1 h2
  by_cases k7 : d.kind = 7
  · rw [decB_7 k7] at h
    split at h
    · injection h with h; subst h
      exact base (by show d.body.length ≤ _; rw [h1]; simp) h2 h3
    · cases h
  by_cases k192 : d.kind = 192
  · rw [decB_192 k192] at h
    split at h
    · injection h with h; subst h
      exact ⟨by show d.body.length ≤ _; rw [h1]; simp, by show 8 * (sksN ((x.length - 4) / 4) (x.drop 4)).length ≤ _; rw [sksN_len]; omega, by show sizeL d.ps ≤ _; rw [h3, hz]; omega⟩
    · cases h
  by_cases k194 : d.kind = 194
  · rw [decB_194 k194] at h
    split at h
    · injection h with h; subst h
      exact ⟨by show d.body.length ≤ _; rw [h1]; simp, by show 8 * (sksV ((x.length - 4) / 8) (x.drop 4)).length ≤ _; rw [sksV_len]; omega, by show sizeL d.ps ≤ _; rw [h3, hz]; omega⟩
    · cases h
  rw [decB_no k0 k64 k12 k3 k4 kps k7 k192 k194] at h
  split at h
  · injection h with h; subst h
    exact base (by rw [h1]; simp) h2 h3
  · cases h
theorem flagged_lists (k f : Nat) : (flagged k f).body = [] ∧ (flagged k f).skips = [] ∧ (flagged k f).ps = [] := by
  unfold flagged
  split
  · exact ⟨rfl, rfl, rfl⟩
  · split <;> exact ⟨rfl, rfl, rfl⟩
theorem decC_puts {k f : Nat} {x : List UInt8} {c : Ck} (hk : known k = true) (hk2 : k < 256) (hx : x.length + 4 ≤ 65535) (h : decC k f x = some c) : c.ok ∧ Puts c ∧ bytesC c = frame k f x ∧ Small c := by
  unfold decC at h
  by_cases hf : f = flagsN (flagged k f)
  · rw [if_pos hf] at h
    cases hd : decB (flagged k f) x with
    | none => rw [hd] at h; cases h
    | some c' =>
      rw [hd] at h
      simp only at h
      by_cases hl : lacks c' = true
      · rw [if_pos hl] at h; cases h
      · rw [if_neg hl] at h
        injection h with h
        subst h
        obtain ⟨ok, al⟩ := decB_ok (flagged_ok' hk2) hd
        obtain ⟨h1, h2, h3⟩ := cont_decB (by rw [flagged_kind']; exact hk) hd
        have hkc : c'.kind = k := al.kind.trans (flagged_kind' k f)
        have hfl : flagsN c' = f := (flagsN_alike al).trans hf.symm
        obtain ⟨l1, l2, l3⟩ := flagged_lists k f
        refine ⟨ok, ⟨by rw [hkc]; exact hk, by simpa using hl, fun ht => ?_⟩, by unfold bytesC; rw [hkc, hfl, h1], decB_small hd (by omega) l1 l2 l3⟩
        unfold tooLong at ht
        rcases ht with ⟨q, hq⟩ | ⟨q, p, hp, hq⟩ | hq
        · have := h2 q; omega
        · have := h3 q p hp; omega
        · rw [h1] at hq; omega
  · rw [if_neg hf] at h; cases h
theorem zeros_of : ∀ (l : List UInt8), l.any (· != 0) = false → l = List.replicate l.length 0
  | [], _ => rfl
  | y :: l, h => by
    simp only [List.any_cons, Bool.or_eq_false_iff] at h
    have hy : y = 0 := by simpa using h.1
    rw [List.length_cons, List.replicate_succ, ← zeros_of l h.2, hy]
/-- What was got is put again, as the bytes that it was got of. -/
theorem getC_puts {b : List UInt8} {c : Ck} {n : Nat} (h : getC b = .ok (c, n)) : c.ok ∧ Puts c ∧ bytesC c = b.take n ∧ Small c ∧ n ≤ b.length ∧ n ≤ 65540 ∧ 4 ≤ n := by
  unfold getC at h
  obtain ⟨m, hm⟩ : ∃ m, m = num ((b.drop 2).take 2) := ⟨_, rfl⟩
  rw [← hm] at h
  have hm2 : m < 65536 := by rw [hm]; exact take2 b 2
  by_cases q1 : b.length < 4
  · rw [if_pos q1] at h; cases h
  rw [if_neg q1] at h
  by_cases q2 : m < 4
  · rw [if_pos q2] at h; cases h
  rw [if_neg q2] at h
  by_cases q3 : b.length < (m + 3) / 4 * 4
  · rw [if_pos q3] at h; cases h
  rw [if_neg q3] at h
  by_cases q4 : ((b.drop m).take ((m + 3) / 4 * 4 - m)).any (· != 0) = true
  · rw [if_pos q4] at h; cases h
  rw [if_neg q4] at h
  have q4 : ((b.drop m).take ((m + 3) / 4 * 4 - m)).any (· != 0) = false := by simpa using q4
  by_cases q5 : known (num (b.take 1)) = false
  · rw [if_pos q5] at h; cases h
  rw [if_neg q5] at h
  have q5 : known (num (b.take 1)) = true := by simpa using q5
  obtain ⟨x, hx⟩ : ∃ x, x = (b.drop 4).take (m - 4) := ⟨_, rfl⟩
  rw [← hx] at h
  have hxl : x.length = m - 4 := by rw [hx, List.length_take, List.length_drop]; omega
  have hk1 : num (b.take 1) < 256 := num1_lt _ (by rw [List.length_take]; omega)
  cases hd : decC (num (b.take 1)) (num ((b.drop 1).take 1)) x with
  | none => rw [hd] at h; cases h
  | some c' =>
    rw [hd] at h
    injection h with h
    injection h with h1 h2
    subst h1
    obtain ⟨ok, hp, hb, hs⟩ := decC_puts q5 hk1 (by omega) hd
    obtain ⟨z, hz⟩ : ∃ z, z = (b.drop m).take ((m + 3) / 4 * 4 - m) := ⟨_, rfl⟩
    have hzl : z.length = padC x.length := by rw [hz, List.length_take, List.length_drop, hxl]; unfold padC; omega
    rw [← hz] at q4
    have hz0 := zeros_of z q4
    rw [hzl] at hz0
    refine ⟨ok, hp, ?_, hs, by omega, by omega, by omega⟩
    rw [hb, ← h2]
    unfold frame
    rw [← hz0, show x.length + 4 = m by omega, be_piece0 (l := b) (n := 1) (by omega), be_piece (l := b) (i := 1) (n := 1) (by omega), hm, be_piece (l := b) (i := 2) (n := 2) (by omega), ← hm]
    have e : (m + 3) / 4 * 4 = 1 + (1 + (2 + ((m - 4) + ((m + 3) / 4 * 4 - m)))) := by omega
    have tk : ∀ (l : List UInt8) (i j : Nat), l.take (i + j) = l.take i ++ (l.drop i).take j := fun l i j => List.take_add
    rw [e, tk b 1, tk (b.drop 1) 1, List.drop_drop, tk (b.drop (1 + 1)) 2, List.drop_drop, tk (b.drop (1 + 1 + 2)) (m - 4), List.drop_drop, hx, hz, show 1 + 1 + 2 + (m - 4) = m by omega]
/-- The same, seen by what Get answers. -/
theorem get_norm {w : World} {b : List UInt8} {e : Ending} {w' : World} (h : GetDoneC w b e w') : ∃ (kk n : Nat) (cs : Array Value) (c : Ck), e = .returned (.tuple #[.agg cs, .int .i64 (n : Int), .int .i64 (kk : Int)]) ∧ Below w.heap.size w w' ∧ CkOwn w' w.heap.size cs c ∧ c.ok ∧ n ≤ b.length ∧ n ≤ 65540 ∧
    ((kk = 0 ∧ getC b = .ok (c, n)) ∨ (kk ≠ 0 ∧ getC b = .error kk ∧ n = 0 ∧ c = zeroC 0 ∧ cs = zeroA)) := by
  obtain ⟨hb, ⟨c, n, cs, hg, rfl, ho, ok⟩ | ⟨k, hg, rfl⟩⟩ := h
  · obtain ⟨_, _, _, _, h1, h2, _⟩ := getC_puts hg
    exact ⟨0, n, cs, c, rfl, hb, ho, ok, h1, h2, .inl ⟨rfl, hg⟩⟩
  · have hk : k ≠ 0 := by
      rintro rfl
      unfold getC at hg
      repeat (first | (split at hg) | cases hg)
    refine ⟨k, 0, zeroA, zeroC 0, rfl, hb, ?_, zero_ok' (by decide), Nat.zero_le _, by omega, .inr ⟨hk, hg, rfl, rfl, rfl⟩⟩
    exact ⟨nilV, nilV, nilV, nilV, nilV, rfl, World.ownsRow_nil _ _ _ _, World.ownsRow_nil _ _ _ _, World.ownsRow_nil _ _ _ _, OwnPs.nil _ _, World.ownsRow_nil _ _ _ _⟩
end Go.Proofs.Ytabkjgklmibagaa.Chk
