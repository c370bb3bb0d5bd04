/-
  Contracts of package chunk: flags that are read; read; Get.
-/
import Derived.Test.YtpgklhecmafnbaaChC
import Derived.Laws.ResultCell
set_option linter.unusedVariables false
set_option linter.unusedSimpArgs false
namespace Go.Proofs.Ytpgklhecmafnbaa.Chk
open Go.ChangeShapes Go.WideShapes Go.ChangeAt Go.RowKit Go.Deep Go.Proofs.Ytpgklhecmafnbaa.Words Go.Proofs.Ytpgklhecmafnbaa.Oct Go.Proofs.Ytpgklhecmafnbaa.Par

theorem bit_all : ((List.range 256).all fun b => ((bits .and .u8 (b : Int) 1 != 0) == (b % 2 == 1)) && (((bits .and .u8 (b : Int) 2 != 0) == (b / 2 % 2 == 1)) && ((bits .and .u8 (b : Int) 4 != 0) == (b / 4 % 2 == 1)))) = true := by kernel_rfl
theorem bit_of {b : Nat} (h : b < 256) : (bits .and .u8 (b : Int) 1 != 0) = (b % 2 == 1) ∧ (bits .and .u8 (b : Int) 2 != 0) = (b / 2 % 2 == 1) ∧ (bits .and .u8 (b : Int) 4 != 0) = (b / 4 % 2 == 1) := by
  have := List.all_eq_true.1 bit_all b (by simpa using h)
  simpa [Bool.and_eq_true, beq_iff_eq] using this
theorem zero_ok {k : Nat} (h : k < 256) : (zeroC k).ok := ⟨h, by show 0 < _; omega, by show 0 < _; omega, by show 0 < _; omega, by show 0 < _; omega, by show 0 < _; omega, by show 0 < _; omega, by show 0 < _; omega, by show 0 < _; omega, by show 0 < _; omega, fun _ h => by simp [zeroC] at h, fun _ h => by simp [zeroC] at h, fun _ h => by simp [zeroC] at h, fun _ h => by simp [zeroC] at h⟩
theorem flagged_ok {k f : Nat} (h : k < 256) : (flagged k f).ok := by
  have z := zero_ok h
  unfold flagged
  split
  · exact ⟨z.kind, z.tsn, z.st, z.mid, z.pp, z.fr, z.tag, z.win, z.out, z.inn, z.gaps, z.dups, z.skips, z.ps⟩
  · split
    · exact ⟨z.kind, z.tsn, z.st, z.mid, z.pp, z.fr, z.tag, z.win, z.out, z.inn, z.gaps, z.dups, z.skips, z.ps⟩
    · exact z
theorem flagged_kind (k f : Nat) : (flagged k f).kind = k := by
  unfold flagged
  split
  · rfl
  · split <;> rfl
theorem flagged_bare (k f : Nat) : Bare (flagged k f) := by
  unfold flagged
  split
  · exact ⟨rfl, rfl, rfl, rfl, rfl⟩
  · split <;> exact ⟨rfl, rfl, rfl, rfl, rfl⟩
theorem ck_nil {w : World} {B : Nat} {c : Ck} (ok : c.ok) (b : Bare c) : CkAt w B (ckArr c nilV nilV nilV nilV nilV) c := by
  obtain ⟨b1, b2, b3, b4, b5⟩ := b
  refine ⟨ok, ⟨none, 0⟩, ⟨none, 0⟩, ⟨none, 0⟩, ⟨none, 0⟩, ⟨none, 0⟩, ?_⟩
  rw [b1, b2, b3, b4, b5]
  exact ⟨rfl, ⟨Nat.le_refl _, by simp⟩, ⟨Nat.le_refl _, by simp⟩, ⟨Nat.le_refl _, by simp⟩, ⟨Nat.le_refl _, by simp⟩, ⟨Nat.le_refl _, by simp⟩, Reads.none_, Reads.none_, Reads.none_, Ps.nil _ _ _, by unfold Byt; exact Reads.none_⟩
theorem flagsN_lt (c : Ck) : flagsN c < 256 := by
  unfold flagsN loN
  (repeat' split) <;> omega

set_option maxHeartbeats 4000000 in
set_option maxRecDepth 100000 in
theorem setFlags_r {w : World} {p G r g k f : Nat} {l : List UInt8} {bw : Bool} (hk : k < 256) (hf : f < 256) (h : RS w w p G r g l false bw (ckArr (zeroC k) nilV nilV nilV nilV nilV)) :
    Calls Try.prog 68 #[rptr r, cptr g, .int .u8 (f : Int)] w fun e w' => e = .returned (.tuple #[]) ∧ RS w w' p G r g l false (bw || (f != flagsN (flagged k f))) (ckArr (flagged k f) nilV nilV nilV nilV nilV) := by
  have HR1 := Lib.hid h
  have k0 : w.cell? ⟨g, 0, none⟩ = some (.int .u8 (k : Int)) := CkBlk.at h.blk rfl
  have c1 : w.cell? ⟨g, 1, none⟩ = some (.bool false) := CkBlk.at h.blk rfl
  have c2 : w.cell? ⟨g, 2, none⟩ = some (.bool false) := CkBlk.at h.blk rfl
  have c3 : w.cell? ⟨g, 3, none⟩ = some (.bool false) := CkBlk.at h.blk rfl
  have c4 : w.cell? ⟨g, 4, none⟩ = some (.bool false) := CkBlk.at h.blk rfl
  have f1 := h.blk.frozen 1
  have f2 := h.blk.frozen 2
  have f3 := h.blk.frozen 3
  have f4 := h.blk.frozen 4
  obtain ⟨hb1, hb2, hb4⟩ := bit_of hf
  obtain ⟨x1, hx1⟩ : ∃ x, x = (f % 2 == 1) := ⟨_, rfl⟩
  obtain ⟨x2, hx2⟩ : ∃ x, x = (f / 2 % 2 == 1) := ⟨_, rfl⟩
  obtain ⟨x4, hx4⟩ : ∃ x, x = (f / 4 % 2 == 1) := ⟨_, rfl⟩
  rw [← hx1] at hb1
  rw [← hx2] at hb2
  rw [← hx4] at hb4
  have HX1 := Lib.hid hx1
  have HX2 := Lib.hid hx2
  have HX4 := Lib.hid hx4
  obtain ⟨fl, hfl⟩ : ∃ fl, fl = flagsN (flagged k f) := ⟨_, rfl⟩
  have HFL := Lib.hid hfl
  have hfl2 : fl < 256 := by rw [hfl]; exact flagsN_lt _
  obtain ⟨bz, hbz⟩ : ∃ bz, bz = (f != fl) := ⟨_, rfl⟩
  have HBZ := Lib.hid hbz
  have hdz : ((f : Int) != (fl : Int)) = bz := by
    rw [hbz]
    by_cases e : f = fl
    · subst e; simp
    · rw [show (f != fl) = true by simpa using e]; simp; omega
  have HOK := Lib.hid (flagged_ok (k := k) (f := f) hk)
  have HBR := Lib.hid (flagged_bare k f)
  clear h hx1 hx2 hx4 hfl hbz
  go_enter Try.func68, Try.ntmps68
  have fin : ∀ V, RS w V p G r g l false bw (ckArr (flagged k f) nilV nilV nilV nilV nilV) → ∀ V2, RS V V2 p G r g l false (bw || bz) (ckArr (flagged k f) nilV nilV nilV nilV nilV) → RS w V2 p G r g l false (bw || (f != flagsN (flagged k f))) (ckArr (flagged k f) nilV nilV nilV nilV nilV) := fun V h V2 h2 => by
    have := h2.since h.fr
    rw [HBZ.out, HFL.out] at this
    exact this
  have FIN := Lib.hid fin
  clear fin
  by_cases h64 : k = 0 ∨ k = 64
  · have HF : Hid (flagged k f = { zeroC k with bg := x2, en := x1, lo := x4 }) := by
      show flagged k f = _
      unfold flagged
      rw [if_pos (by rcases h64 with rfl | rfl <;> rfl), HX1.out, HX2.out, HX4.out]
    have HR2 : Hid (RS w (((w.setCell ⟨g, 2, none⟩ (.bool x1)).setCell ⟨g, 1, none⟩ (.bool x2)).setCell ⟨g, 3, none⟩ (.bool x4)) p G r g l false bw (ckArr (flagged k f) nilV nilV nilV nilV nilV)) := by
      rw [HF.out]; exact ((HR1.out.setC 2 (.bool x1)).setC 1 (.bool x2)).setC 3 (.bool x4)
    clear HF
    have key : ∀ k', k' = k → k' = 0 ∨ k' = 64 → True := fun _ _ _ => trivial
    clear key
    rcases h64 with rfl | rfl
    all_goals
      go_upto_region 7 with (fail)
      obtain ⟨W2, hW2⟩ : ∃ W2, W2 = ((w.setCell ⟨g, 2, none⟩ (.bool x1)).setCell ⟨g, 1, none⟩ (.bool x2)).setCell ⟨g, 3, none⟩ (.bool x4) := ⟨_, rfl⟩
      rw [← hW2] at HR2 ⊢
      clear hW2
      go_wp2_with (refine wpList_load_row rfl 32 _ rfl g rfl 32 (ckArr (flagged _ f) nilV nilV nilV nilV nilV) (0, 0) _ HR2.out.blk Try.underlying32 rfl chunk_info ?_)
      refine (flags_c (B := 0) (ck_nil HOK.out HBR.out)).mono ?_
      rintro e W3 ⟨rfl, hb⟩
      have HR3 := Lib.hid (HR2.out.grows hb)
      rw [← HFL.out]
      clear hb HR2
      go_wp2_with fail
      refine (refuse_r bz HR3.out.here).mono ?_
      rintro e W4 ⟨rfl, hr⟩
      have HR4 := Lib.hid hr
      go_wp2_with fail
      go_end0
      exact ⟨rfl, FIN.out _ HR3.out _ HR4.out⟩
  · by_cases h6 : k = 6 ∨ k = 14
    · have HF : Hid (flagged k f = { zeroC k with ba := x1 }) := by
        show flagged k f = _
        unfold flagged
        rw [if_neg (by unfold hasBody; rcases h6 with rfl | rfl <;> decide), if_pos h6, HX1.out]
      have HR2 : Hid (RS w (w.setCell ⟨g, 4, none⟩ (.bool x1)) p G r g l false bw (ckArr (flagged k f) nilV nilV nilV nilV nilV)) := by
        rw [HF.out]; exact HR1.out.setC 4 (.bool x1)
      clear HF
      rcases h6 with rfl | rfl
      all_goals
        go_upto_region 7 with (fail)
        obtain ⟨W2, hW2⟩ : ∃ W2, W2 = w.setCell ⟨g, 4, none⟩ (.bool x1) := ⟨_, rfl⟩
        rw [← hW2] at HR2 ⊢
        clear hW2
        go_wp2_with (refine wpList_load_row rfl 32 _ rfl g rfl 32 (ckArr (flagged _ f) nilV nilV nilV nilV nilV) (0, 0) _ HR2.out.blk Try.underlying32 rfl chunk_info ?_)
        refine (flags_c (B := 0) (ck_nil HOK.out HBR.out)).mono ?_
        rintro e W3 ⟨rfl, hb⟩
        have HR3 := Lib.hid (HR2.out.grows hb)
        rw [← HFL.out]
        clear hb HR2
        go_wp2_with fail
        refine (refuse_r bz HR3.out.here).mono ?_
        rintro e W4 ⟨rfl, hr⟩
        have HR4 := Lib.hid hr
        go_wp2_with fail
        go_end0
        exact ⟨rfl, FIN.out _ HR3.out _ HR4.out⟩
    · have HF : Hid (flagged k f = zeroC k) := by
        show flagged k f = _
        unfold flagged
        rw [if_neg (by unfold hasBody; simp; omega), if_neg h6]
      have HR2 : Hid (RS w w p G r g l false bw (ckArr (flagged k f) nilV nilV nilV nilV nilV)) := by
        rw [HF.out]; exact HR1.out
      have b0 := beq_no (k := k) (n := 0) (by omega)
      have b1 := beq_no (k := k) (n := 64) (by omega)
      have b2 := beq_no (k := k) (n := 6) (by omega)
      have b3 := beq_no (k := k) (n := 14) (by omega)
      clear HF
      go_wp2_with (refine wpList_load_row rfl 32 _ rfl g rfl 32 (ckArr (flagged _ f) nilV nilV nilV nilV nilV) (0, 0) _ HR2.out.blk Try.underlying32 rfl chunk_info ?_)
      refine (flags_c (B := 0) (ck_nil HOK.out HBR.out)).mono ?_
      rintro e W3 ⟨rfl, hb⟩
      have HR3 := Lib.hid (HR2.out.grows hb)
      rw [← HFL.out]
      clear hb HR2
      go_wp2_with fail
      refine (refuse_r bz HR3.out.here).mono ?_
      rintro e W4 ⟨rfl, hr⟩
      have HR4 := Lib.hid hr
      go_wp2_with fail
      go_end0
      exact ⟨rfl, FIN.out _ HR3.out _ HR4.out⟩
end Go.Proofs.Ytpgklhecmafnbaa.Chk
