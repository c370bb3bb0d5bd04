/-
  The document's answers of layer 6 (flumeref06): shape, Get.
-/
import Derived.Test.YtpgklhecmafnbaaChGet
import Derived.Test.YtpgklhecmafnbaaChRf1
import Derived.Test.YtpgklhecmafnbaaParGet
import Derived.Test.YtpgklhecmafnbaaOctRef
import Derived.Test.YtpgklhecmafnbaaStage
set_option linter.unusedVariables false
set_option linter.unusedSimpArgs false
namespace Go.Proofs.Ytpgklhecmafnbaa.Chk
open Go.ChangeShapes Go.WideShapes Go.ChangeAt Go.RowKit Go.Deep Go.Proofs.Ytpgklhecmafnbaa.Words Go.Proofs.Ytpgklhecmafnbaa.Oct Go.Proofs.Ytpgklhecmafnbaa.Par

def leastN (k : Nat) : Nat := if k = 0 then 13 else if k = 64 then 17 else if k = 1 ∨ k = 2 then 16 else if k = 3 then 12 else if k = 7 ∨ k = 192 ∨ k = 194 then 4 else 0
def byN (k : Nat) : Nat := if k = 1 ∨ k = 2 ∨ k = 3 ∨ k = 192 ∨ k = 6 ∨ k = 9 ∨ k = 130 then 4 else if k = 194 then 8 else if k = 7 ∨ k = 8 ∨ k = 11 ∨ k = 14 then 0 else 1
def badShape (k m : Nat) : Prop := m < leastN k ∨ (byN k = 0 ∧ leastN k < m) ∨ (1 < byN k ∧ (m - leastN k) % byN k ≠ 0)
instance (k m : Nat) : Decidable (badShape k m) := by unfold badShape; infer_instance
set_option maxHeartbeats 1000000 in
theorem rshape_any (k : Nat) (hK : known k = true) (w : World) : Calls Try.prog 37 #[.int .i64 (k : Int)] w fun e w' => e = .returned (.tuple #[.int .i64 ((leastN k : Nat) : Int), .int .i64 ((byN k : Nat) : Int)]) ∧ w = w' := by
  rcases kinds hK with rfl | rfl | rfl | rfl | rfl | rfl | rfl | rfl | rfl | rfl | rfl | rfl | rfl | rfl | rfl | rfl | rfl
  all_goals
    go_enter Try.func37, Try.ntmps37
    go_wp2_with fail
    go_ret2
    exact ⟨rfl, rfl⟩
theorem num_one (l : List UInt8) (h : 1 ≤ l.length) : num (l.take 1) = (l[0]).toNat := by
  match l, h with
  | x :: l, _ => simp [num]
theorem getL_mod {x : List UInt8} {ls : List Prm} (h : getL x = .ok ls) : x.length % 4 = 0 := by
  have := (enc_getL x.length x ls (Nat.le_refl _) h).2
  rw [← this]; exact encL_mod ls
theorem flagged_kindN (k f : Nat) : (flagged k f).kind = k := by unfold flagged; split; rfl; split <;> rfl
theorem lacks_no {c : Ck} (h : hasBody c.kind = false) : lacks c = false := by unfold lacks; rw [h]; rfl
/-- What has not its kind's shape is none. -/
theorem dec_shape {k f : Nat} {x : List UInt8} (hk : known k = true) (h : badShape k x.length) : decC k f x = none := by
  unfold decC
  split
  rotate_left
  · rfl
  have hb : ∀ c, decB (flagged k f) x = some c → lacks c = true := by
    intro c hc
    have hkd := flagged_kindN k f
    unfold badShape at h
    rcases kinds hk with rfl | rfl | rfl | rfl | rfl | rfl | rfl | rfl | rfl | rfl | rfl | rfl | rfl | rfl | rfl | rfl | rfl <;> simp only [leastN, byN] at h
    · rw [decB_0 hkd] at hc
      split at hc
      · injection hc with hc
        subst hc
        have : x.drop 12 = [] := List.drop_of_length_le (by simp at h; omega)
        unfold withFrag lacks hasBody
        rw [if_pos hkd]
        simp [hkd, this]
      · cases hc
    · rw [decB_12 (.inl hkd)] at hc
      split at hc
      · rename_i h16
        cases hg : getL (x.drop 16) with
        | error e => rw [hg] at hc; cases hc
        | ok ls => have := getL_mod hg; rw [List.length_drop] at this; simp at h; omega
      · cases hc
    · rw [decB_12 (.inr hkd)] at hc
      split at hc
      · rename_i h16
        cases hg : getL (x.drop 16) with
        | error e => rw [hg] at hc; cases hc
        | ok ls => have := getL_mod hg; rw [List.length_drop] at this; simp at h; omega
      · cases hc
    · rw [decB_3 hkd] at hc
      split at hc
      · rename_i h16; simp at h; omega
      · cases hc
    · simp at h
    · simp at h
    · rw [decB_ps (by rw [hkd]; omega) (by rw [hkd]; rfl)] at hc
      cases hg : getL x with
      | error e => rw [hg] at hc; cases hc
      | ok ls => have := getL_mod hg; simp at h; omega
    · rw [decB_7 hkd] at hc
      split at hc
      · simp at h; omega
      · cases hc
    · rw [decB_no (by rw [hkd]; decide) (by rw [hkd]; decide) (by rw [hkd]; decide) (by rw [hkd]; decide) (by rw [hkd]; decide) (by rw [hkd]; decide) (by rw [hkd]; decide) (by rw [hkd]; decide) (by rw [hkd]; decide)] at hc
      split at hc
      · rename_i hx; subst hx; simp at h
      · cases hc
    · rw [decB_ps (by rw [hkd]; omega) (by rw [hkd]; rfl)] at hc
      cases hg : getL x with
      | error e => rw [hg] at hc; cases hc
      | ok ls => have := getL_mod hg; simp at h; omega
    · simp at h
    · rw [decB_no (by rw [hkd]; decide) (by rw [hkd]; decide) (by rw [hkd]; decide) (by rw [hkd]; decide) (by rw [hkd]; decide) (by rw [hkd]; decide) (by rw [hkd]; decide) (by rw [hkd]; decide) (by rw [hkd]; decide)] at hc
      split at hc
      · rename_i hx; subst hx; simp at h
      · cases hc
    · rw [decB_no (by rw [hkd]; decide) (by rw [hkd]; decide) (by rw [hkd]; decide) (by rw [hkd]; decide) (by rw [hkd]; decide) (by rw [hkd]; decide) (by rw [hkd]; decide) (by rw [hkd]; decide) (by rw [hkd]; decide)] at hc
      split at hc
      · rename_i hx; subst hx; simp at h
      · cases hc
    · rw [decB_64 hkd] at hc
      split at hc
      · rename_i h16
        injection hc with hc
        subst hc
        have : x.drop 16 = [] := List.drop_of_length_le (by simp at h; omega)
        unfold withFrag lacks hasBody
        rw [if_neg (by rw [hkd]; decide)]
        split <;> simp [hkd, this]
      · cases hc
    · rw [decB_ps (by rw [hkd]; omega) (by rw [hkd]; rfl)] at hc
      cases hg : getL x with
      | error e => rw [hg] at hc; cases hc
      | ok ls => have := getL_mod hg; simp at h; omega
    · rw [decB_192 hkd] at hc
      split at hc
      · rename_i h16; simp at h; omega
      · cases hc
    · rw [decB_194 hkd] at hc
      split at hc
      · rename_i h16; simp at h; omega
      · cases hc
  cases hd : decB (flagged k f) x with
  | none => rfl
  | some c => simp only; rw [if_pos (hb c hd)]
/-- What the document's Get answers. -/
abbrev RGetDone (w : World) (b : List UInt8) (e : Ending) (w' : World) : Prop := GetDoneC w b e w'
end Go.Proofs.Ytpgklhecmafnbaa.Chk
