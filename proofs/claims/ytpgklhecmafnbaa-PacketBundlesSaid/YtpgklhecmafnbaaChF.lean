/-
  Contracts of package chunk's reader: what is skipped.
-/
import Derived.Test.YtpgklhecmafnbaaChS
set_option linter.unusedVariables false
set_option linter.unusedSimpArgs false
namespace Go.Proofs.Ytpgklhecmafnbaa.Chk
open Go.ChangeShapes Go.WideShapes Go.ChangeAt Go.RowKit Go.Deep Go.Proofs.Ytpgklhecmafnbaa.Words Go.Proofs.Ytpgklhecmafnbaa.Oct Go.Proofs.Ytpgklhecmafnbaa.Par

theorem sksN_snoc : ∀ (k : Nat) (l : List UInt8), sksN (k + 1) l = sksN k l ++ [(num ((l.drop (4 * k)).take 2), false, num (((l.drop (4 * k)).drop 2).take 2))]
  | 0, l => by simp [sksN]
  | k + 1, l => by
    have e : sksN (k + 1 + 1) l = (num (l.take 2), false, num ((l.drop 2).take 2)) :: sksN (k + 1) (l.drop 4) := rfl
    rw [e, sksN_snoc k (l.drop 4), List.drop_drop, show 4 + 4 * k = 4 * (k + 1) by omega]
    rfl
theorem sksV_snoc : ∀ (k : Nat) (l : List UInt8), sksV (k + 1) l = sksV k l ++ [(num ((l.drop (8 * k)).take 2), num (((l.drop (8 * k)).drop 2).take 2) == 1, num (((l.drop (8 * k)).drop 4).take 4))]
  | 0, l => by simp [sksV]
  | k + 1, l => by
    have e : sksV (k + 1 + 1) l = (num (l.take 2), num ((l.drop 2).take 2) == 1, num ((l.drop 4).take 4)) :: sksV (k + 1) (l.drop 8) := rfl
    rw [e, sksV_snoc k (l.drop 8), List.drop_drop, show 8 + 8 * k = 8 * (k + 1) by omega]
    rfl
theorem sksOk_snoc : ∀ (k : Nat) (l : List UInt8), sksOk (k + 1) l = (sksOk k l && decide (num (((l.drop (8 * k)).drop 2).take 2) ≤ 1))
  | 0, l => by simp [sksOk]
  | k + 1, l => by
    have e : sksOk (k + 1 + 1) l = (decide (num ((l.drop 2).take 2) ≤ 1) && sksOk (k + 1) (l.drop 8)) := rfl
    have e2 : (l.drop 8).drop (8 * k) = l.drop (8 * (k + 1)) := by rw [List.drop_drop, show 8 + 8 * k = 8 * (k + 1) by omega]
    rw [e, sksOk_snoc k (l.drop 8), e2, ← Bool.and_assoc]
    rfl
/-- How many bytes the reader behind the pointer to block p has left. -/
def lenAt (w : World) (p : Nat) : Nat := match w.cell? ⟨p, 0, none⟩ with | some (.slice _ n _) => n | _ => 0
theorem Rd.lenAt {w : World} {p G : Nat} {l : List UInt8} {bad : Bool} (h : Rd w p G l bad) : lenAt w p = l.length := by
  obtain ⟨A, c, hb, _⟩ := h.ex
  have c0 : w.cell? ⟨p, 0, none⟩ = some (.slice A l.length c) := hb.cell 0
  simp [Chk.lenAt, c0]
/-- How far the rows of what is skipped are read. -/
def FwdAt (x : List UInt8) (bx : Bool) (y : List UInt8) (b : Bool) (n : Nat) (xs : List Value) : Prop :=
  (b = bx ∧ 4 * n ≤ x.length ∧ y = x.drop (4 * n) ∧ xs = skC (sksN n x)) ∨ (b = true ∧ y = [] ∧ x.length % 4 ≠ 0)
theorem FwdAt.step {x : List UInt8} {bx : Bool} {y : List UInt8} {b : Bool} {n : Nat} {xs : List Value} (h : FwdAt x bx y b n xs) (hy : y ≠ []) :
    FwdAt x bx (cutL 4 y) (cutB 4 y b) (n + 1) (xs ++ [.int .u16 ((val 2 y : Nat) : Int), .bool false, .int .u32 ((val 2 (cutL 2 y) : Nat) : Int)]) := by
  rcases h with ⟨rfl, hn, rfl, rfl⟩ | ⟨_, e, _⟩
  · have hl : (x.drop (4 * n)).length = x.length - 4 * n := List.length_drop
    have h0 : 0 < (x.drop (4 * n)).length := List.length_pos_iff.2 hy
    by_cases h4 : 4 ≤ (x.drop (4 * n)).length
    · refine .inl ⟨cutB_yes h4 _, by omega, ?_, ?_⟩
      · rw [cutL_yes h4, List.drop_drop, show 4 * n + 4 = 4 * (n + 1) by omega]
      · rw [sksN_snoc, skC_snoc, val_yes (by omega), val_cut (by omega)]
    · exact .inr ⟨cutB_no h4 _, by unfold cutL; rw [if_neg h4], by omega⟩
  · exact absurd e hy
/-- What forward leaves. -/
def FwdGot (w : World) (p G r g : Nat) (l : List UInt8) (bad bw : Bool) (c : Ck) (gv dv pv bv : Value) (e : Ending) (w' : World) : Prop :=
  e = .returned (.tuple #[]) ∧ ∃ (n : Nat) (sv : Value) (xs : List Value) (y : List UInt8) (b : Bool), RS w w' p G r g [] b bw (ckArr { c with tsn := val 4 l } gv dv sv pv bv) ∧
    w'.ownsRow w.heap.size 87 3 sv n xs ∧ FwdAt (cutL 4 l) (cutB 4 l bad) [] b n xs

set_option maxHeartbeats 8000000 in
set_option maxRecDepth 100000 in
theorem fwd_r {w : World} {p G r g : Nat} {l : List UInt8} {bad bw : Bool} {c : Ck} {gv dv pv bv : Value} (hl : l.length ≤ 900000) (h : RS w w p G r g l bad bw (ckArr c gv dv (.slice none 0 0) pv bv)) :
    Calls Try.prog 99 #[rptr r, cptr g] w (FwdGot w p G r g l bad bw c gv dv pv bv) := by
  obtain ⟨i0, hi0, hz0, hz1, hz2⟩ := info_parts3 skip_info
  have HLT := Lib.hid h.lts
  have HGP := Lib.hid h.rd.le
  have HLL := Lib.hid hl
  obtain ⟨W1, hW1⟩ : ∃ W1, W1 = w := ⟨_, rfl⟩
  have HR1 : Hid (RS w W1 p G r g l bad bw (ckArr c gv dv (.slice none 0 0) pv bv)) := by rw [hW1]; exact h
  rw [← hW1] at h
  rw [show Calls Try.prog 99 #[rptr r, cptr g] w = Calls Try.prog 99 #[rptr r, cptr g] W1 by rw [hW1]]
  clear h hW1 hl
  go_enter Try.func99, Try.ntmps99
  have d0 : W1.cell? ⟨r, 0, none⟩ = some (rptr p) := HR1.out.rblk.cell 0
  go_wp2_with fail
  refine (rdx_u32 HR1.out.rd).mono ?_
  rintro e V1 ⟨rfl, hr, hf⟩
  have HS1 := Lib.hid (HR1.out.step hr hf)
  clear hr hf d0 HR1
  have kc := CkBlk.at (i := 5) HS1.out.blk rfl
  have kf := HS1.out.blk.frozen 5
  go_upto_region 1 with (fail)
  obtain ⟨W2, hW⟩ : ∃ W, W = V1.setCell ⟨g, 5, none⟩ (.int .u32 ((val 4 (l) : Nat) : Int)) := ⟨_, rfl⟩
  have HR2 := Lib.hid (HS1.out.setC 5 (.int .u32 ((val 4 (l) : Nat) : Int)))
  rw [← hW] at HR2 ⊢
  clear hW kc kf HS1
  obtain ⟨x, hx⟩ : ∃ x, x = cutL 4 l := ⟨_, rfl⟩
  obtain ⟨bx, hbx⟩ : ∃ bx, bx = cutB 4 l bad := ⟨_, rfl⟩
  obtain ⟨c2, hc2⟩ : ∃ c2 : Ck, c2 = { c with tsn := val 4 l } := ⟨_, rfl⟩
  have HXL : Hid (x.length ≤ 900000) := by rw [hx]; exact Nat.le_trans (cutL_len 4 l) HLL.out
  have HR3 : Hid (RS w W2 p G r g x bx bw (ckArr c2 gv dv (.slice none 0 0) pv bv)) := by rw [hx, hbx, hc2]; exact HR2.out
  have HX := Lib.hid hx
  have HBX := Lib.hid hbx
  have HC2 := Lib.hid hc2
  clear hx hbx hc2 HR2
  go_loopw [17] (fun _ wr => ∃ (n : Nat) (sk : Value) (xs : List Value) (y : List UInt8) (b : Bool), n ≤ 225001 ∧ Hid (RS w wr p G r g y b bw (ckArr c2 gv dv sk pv bv)) ∧ Hid (wr.ownsRow w.heap.size 87 3 sk n xs) ∧ Hid (FwdAt x bx y b n xs)) (fun _ wr => lenAt wr p)
  case atStart => exact ⟨0, .slice none 0 0, [], x, bx, by omega, HR3, nil_own, .inl ⟨rfl, by omega, rfl, rfl⟩⟩
  case round =>
    obtain ⟨n, sk, xs, y, b, hn, HRk, HOk, HF⟩ := hrel
    obtain ⟨q, hq⟩ : ∃ q, q = y.length := ⟨_, rfl⟩
    have HQ := Lib.hid hq
    have HLEFT := Lib.hid (rd_left HRk.out.rd)
    rw [← hq] at HLEFT
    have d0 : wr.cell? ⟨r, 0, none⟩ = some (rptr p) := HRk.out.rblk.cell 0
    have HM : Hid (lenAt wr p = q) := by rw [hq]; exact Rd.lenAt HRk.out.rd
    clear hq
    go_wp2_with fail
    refine HLEFT.out.mono ?_
    rintro e V5 ⟨rfl, rfl⟩
    clear HLEFT d0
    by_cases h0 : (0 : Int) < (q : Int)
    · have HNE : Hid (y ≠ []) := by intro e; have := HQ.out; rw [e] at this; simp at this; omega
      have hn4 : n ≤ 225000 := by
        rcases HF.out with ⟨_, h, _⟩ | ⟨_, e, _⟩
        · have := HXL.out; omega
        · exact absurd e HNE.out
      obtain ⟨u1, hu1⟩ : ∃ u1, u1 = val 2 y := ⟨_, rfl⟩
      obtain ⟨u2, hu2⟩ : ∃ u2, u2 = val 2 (cutL 2 y) := ⟨_, rfl⟩
      have hu26 : u2 < 65536 := by rw [hu2]; exact val_lt 2 _
      have hw2 : IntKind.u32.wrap (u2 : Int) = (u2 : Int) := by simp [IntKind.wrap, IntKind.bits, IntKind.signed]; omega
      have HU1 := Lib.hid hu1
      have HU2 := Lib.hid hu2
      have HS0 : Hid (RSr w wr.drew p G r g y b bw (ckArr c2 gv dv sk pv bv) 3 0 w.heap.size 87 3 n sk xs) := ⟨HRk.out.drew, fun _ => ((Fr.refl (fun _ => False) wr).drew.own HOk.out (fun _ _ h => h))⟩
      clear hu1 hu2
      go_upto_region 2 with (fail)
      refine wp_region_stage_tail 19 (fun m => stRel 3 p sk m) (fun m V => Hid (RSr w V p G r g (if m = 0 then y else if m = 1 then cutL 2 y else cutL 4 y) (if m = 0 then b else if m = 1 then cutB 2 y b else cutB 4 y b) bw (ckArr c2 gv dv sk pv bv) 3 m w.heap.size 87 3 n sk xs)) [(false, .exact (cptr g)),
          (false, .exact (cptr g)),
          (false, .exact (cptr g)),
          (false, .exact (.pointer (some ⟨g, 16, none⟩))),
          (false, .exact (sk)),
          (false, .exact (rptr r)),
          (false, .exact (rptr r)),
          (false, .exact (.pointer (some ⟨r, 0, none⟩))),
          (false, .exact (rptr p)),
          (true, .exact (.int .u16 ((u1 : Nat) : Int))),
          (false, .exact (rptr r)),
          (false, .exact (rptr r)),
          (false, .exact (.pointer (some ⟨r, 0, none⟩))),
          (false, .exact (rptr p)),
          (true, .exact (.int .u16 ((u2 : Nat) : Int))),
          (false, .exact (.int .u32 ((u2 : Nat) : Int))),
          (false, .exact (.agg #[.int .u16 ((u1 : Nat) : Int), .bool false, .int .u32 ((u2 : Nat) : Int)])),
          (true, .grows (Laid 87 #[.int .u16 ((u1 : Nat) : Int), .bool false, .int .u32 ((u2 : Nat) : Int)] p sk)),
          (true, .grows (Grew w.heap.size 87 3 p (n + 1) (xs ++ [.int .u16 ((u1 : Nat) : Int), .bool false, .int .u32 ((u2 : Nat) : Int)])))] (by kernel_rfl) (by kernel_rfl) (by kernel_rfl) rfl (of_decide_eq_true (by kernel_rfl)) (by kernel_rfl) (by kernel_rfl) ?lasts ?start ?walk
      case lasts => exact ⟨fun m v V V' _ h k => h.lasts k, fun m v V V' hm h k => h.lasts (fun e => by subst e; exact absurd (hm rfl) (by decide)) k, trivial⟩
      case start => exact HS0
      case walk =>
        simp only [List.take_succ_cons, List.take_zero, List.drop_succ_cons, List.drop_zero]
        refine stageT_pure rfl (fun m V => Fr.refl _ _) (fun V m hS hl => by go_simp) ?_
        simp only [Act.put, List.setIfInBounds_toArray, List.set_cons_zero, List.set_cons_succ, List.cons_append, List.nil_append]
        refine stageT_pure rfl (fun m V => Fr.refl _ _) (fun V m hS hl => by go_simp) ?_
        simp only [Act.put, List.setIfInBounds_toArray, List.set_cons_zero, List.set_cons_succ, List.cons_append, List.nil_append]
        refine stageT_pure rfl (fun m V => Fr.refl _ _) (fun V m hS hl => by go_simp) ?_
        simp only [Act.put, List.setIfInBounds_toArray, List.set_cons_zero, List.set_cons_succ, List.cons_append, List.nil_append]
        refine stageT_pure rfl (fun m V => Fr.refl _ _) (fun V m hS hl => by go_simp) ?_
        simp only [Act.put, List.setIfInBounds_toArray, List.set_cons_zero, List.set_cons_succ, List.cons_append, List.nil_append]
        refine stageT_pure rfl (fun m V => Fr.refl _ _) (fun V m hS hl => by
            have hc : V.cell? ⟨g, 16, none⟩ = some sk := CkBlk.at hS.out.1.blk rfl
            go_simp) ?_
        simp only [Act.put, List.setIfInBounds_toArray, List.set_cons_zero, List.set_cons_succ, List.cons_append, List.nil_append]
        refine stageT_pure rfl (fun m V => Fr.refl _ _) (fun V m hS hl => by go_simp) ?_
        simp only [Act.put, List.setIfInBounds_toArray, List.set_cons_zero, List.set_cons_succ, List.cons_append, List.nil_append]
        refine stageT_pure rfl (fun m V => Fr.refl _ _) (fun V m hS hl => by go_simp) ?_
        simp only [Act.put, List.setIfInBounds_toArray, List.set_cons_zero, List.set_cons_succ, List.cons_append, List.nil_append]
        refine stageT_pure rfl (fun m V => Fr.refl _ _) (fun V m hS hl => by go_simp) ?_
        simp only [Act.put, List.setIfInBounds_toArray, List.set_cons_zero, List.set_cons_succ, List.cons_append, List.nil_append]
        refine stageT_pure rfl (fun m V => Fr.refl _ _) (fun V m hS hl => by
            have hc : V.cell? ⟨r, 0, none⟩ = some (rptr p) := hS.out.1.rblk.cell 0
            go_simp) ?_
        simp only [Act.put, List.setIfInBounds_toArray, List.set_cons_zero, List.set_cons_succ, List.cons_append, List.nil_append]
        refine stageT_move rfl (fun V hS hl => by
            go_simp
            refine (rdx_u16 (show Rd V p G y b from hS.out.1.rd)).mono ?_
            rintro e V' ⟨rfl, h1, h2⟩
            exact ⟨_, rfl, RSr.rel (by decide) h2, by rw [HU1.out], hS.out.step (by decide) (by decide) h1 h2⟩) ?_
        simp only [Act.put, List.setIfInBounds_toArray, List.set_cons_zero, List.set_cons_succ, List.cons_append, List.nil_append]
        refine stageT_pure rfl (fun m V => Fr.refl _ _) (fun V m hS hl => by go_simp) ?_
        simp only [Act.put, List.setIfInBounds_toArray, List.set_cons_zero, List.set_cons_succ, List.cons_append, List.nil_append]
        refine stageT_pure rfl (fun m V => Fr.refl _ _) (fun V m hS hl => by go_simp) ?_
        simp only [Act.put, List.setIfInBounds_toArray, List.set_cons_zero, List.set_cons_succ, List.cons_append, List.nil_append]
        refine stageT_pure rfl (fun m V => Fr.refl _ _) (fun V m hS hl => by go_simp) ?_
        simp only [Act.put, List.setIfInBounds_toArray, List.set_cons_zero, List.set_cons_succ, List.cons_append, List.nil_append]
        refine stageT_pure rfl (fun m V => Fr.refl _ _) (fun V m hS hl => by
            have hc : V.cell? ⟨r, 0, none⟩ = some (rptr p) := hS.out.1.rblk.cell 0
            go_simp) ?_
        simp only [Act.put, List.setIfInBounds_toArray, List.set_cons_zero, List.set_cons_succ, List.cons_append, List.nil_append]
        refine stageT_move rfl (fun V hS hl => by
            go_simp
            refine (rdx_u16 (show Rd V p G (cutL 2 y) (cutB 2 y b) from hS.out.1.rd)).mono ?_
            rintro e V' ⟨rfl, h1, h2⟩
            rw [cutL_cutL, cutB_cutB] at h1
            exact ⟨_, rfl, RSr.rel (by decide) h2, by rw [HU2.out], hS.out.step (by decide) (by decide) h1 h2⟩) ?_
        simp only [Act.put, List.setIfInBounds_toArray, List.set_cons_zero, List.set_cons_succ, List.cons_append, List.nil_append]
        refine stageT_pure rfl (fun m V => Fr.refl _ _) (fun V m hS hl => by go_simp) ?_
        simp only [Act.put, List.setIfInBounds_toArray, List.set_cons_zero, List.set_cons_succ, List.cons_append, List.nil_append]
        refine stageT_pure rfl (fun m V => Fr.refl _ _) (fun V m hS hl => by go_simp) ?_
        simp only [Act.put, List.setIfInBounds_toArray, List.set_cons_zero, List.set_cons_succ, List.cons_append, List.nil_append]
        refine stageT_move_grows rfl (fun V hS hl => by
            go_simp
            exact hS.out.lay (by decide) 87 #[.int .u16 ((u1 : Nat) : Int), .bool false, .int .u32 ((u2 : Nat) : Int)]) (fun v35 => ?_)
        simp only [Act.put, List.setIfInBounds_toArray, List.set_cons_zero, List.set_cons_succ, List.cons_append, List.nil_append]
        refine stageT_move_grows rfl (fun V hS hl => by
            obtain ⟨b', rfl, hbl, hb1, hb2⟩ := (hl.1 (by kernel_rfl))
            exact leaves_append (.tmp 22) (.tmp 35) _ rfl w.heap.size 87 i0 _ 3 8 Try.underlying29 hi0 hz0 hz1 hz2 rfl (by omega) sk n xs rfl (hS.out.2 (Nat.le_refl _)) (b' + 1) (some ⟨b', 0, none⟩) 1 1 [.int .u16 ((u1 : Nat) : Int), .bool false, .int .u32 ((u2 : Nat) : Int)] rfl (blk_reads hbl rfl) (by simp [Value.oneCell']) (by simp only [maxLen]; omega) (by omega) hS.out.1.size (fun v' V' ho hg _ => hS.out.grow (Nat.le_refl _) HLT.out HGP.out ho hg)) (fun v36 => ?_)
        simp only [Act.put, List.setIfInBounds_toArray, List.set_cons_zero, List.set_cons_succ, List.cons_append, List.nil_append]
        refine stageT_nil (fun V2 hS hF => ?_)
        have hF2 : Laid 87 #[.int .u16 ((u1 : Nat) : Int), .bool false, .int .u32 ((u2 : Nat) : Int)] p sk v35 V2 ∧ Grew w.heap.size 87 3 p (n + 1) (xs ++ [.int .u16 ((u1 : Nat) : Int), .bool false, .int .u32 ((u2 : Nat) : Int)]) v36 V2 ∧ True := hF
        have HG := Lib.hid hF2.2.1
        have HS4 : Hid (RS w V2 p G r g (cutL 4 y) (cutB 4 y b) bw (ckArr c2 gv dv sk pv bv)) := hS.out.1
        obtain ⟨A7, c7, rfl, h7a, h7b⟩ := own_slice HG.out.1
        have kc : V2.cell? ⟨g, 16, none⟩ = some sk := CkBlk.at HS4.out.blk rfl
        have kf := HS4.out.blk.frozen 16
        clear hS hF hF2 hw2
        show wpList _ _ _ _ _ _
        go_wp2_with fail
        go_roundw
        case rel =>
          have F : Fr (fun i => i = g) V2 (V2.setCell ⟨g, 16, none⟩ (.slice A7 (n + 1) c7)) := (Fr.refl (fun i => i = g) V2).setCell (p := ⟨g, 16, none⟩) (.inl rfl) _
          refine ⟨n + 1, _, _, _, _, by omega, HS4.out.setC 16 _, F.own HG.out.1 (fun b hb e => by have := (HG.out.1.lt b hb).1; have := HLT.out.2.2; omega), ?_⟩
          rw [HU1.out, HU2.out]
          exact HF.out.step HNE.out
        case measure =>
          rw [Rd.lenAt (HS4.out.setC 16 (.slice A7 (n + 1) c7)).rd, HM.out]
          have h1 := HQ.out
          unfold cutL
          split
          · rw [List.length_drop]; omega
          · simp; omega
    · have hy : y = [] := List.eq_nil_of_length_eq_zero (by have := HQ.out; omega)
      subst hy
      go_wp2_with fail
      go_end0
      refine ⟨rfl, n, sk, xs, [], b, ?_, HOk.out, ?_⟩
      · rw [← HC2.out]; exact HRk.out
      · rw [← HX.out, ← HBX.out]; exact HF.out

/-- How far the rows of the wide kind are read. -/
def WideAt (x : List UInt8) (bx : Bool) (y : List UInt8) (b : Bool) (w0 w1 : Bool) (n : Nat) (xs : List Value) : Prop :=
  (b = bx ∧ 8 * n ≤ x.length ∧ y = x.drop (8 * n) ∧ xs = skC (sksV n x) ∧ w1 = (w0 || !sksOk n x)) ∨ (b = true ∧ y = [] ∧ x.length % 8 ≠ 0)
theorem WideAt.step {x : List UInt8} {bx : Bool} {y : List UInt8} {b w0 w1 : Bool} {n : Nat} {xs : List Value} (h : WideAt x bx y b w0 w1 n xs) (hy : y ≠ []) :
    WideAt x bx (cutL 8 y) (cutB 8 y b) w0 (w1 || decide (1 < val 2 (cutL 2 y))) (n + 1) (xs ++ [.int .u16 ((val 2 y : Nat) : Int), .bool (val 2 (cutL 2 y) == 1), .int .u32 ((val 4 (cutL 4 y) : Nat) : Int)]) := by
  rcases h with ⟨rfl, hn, rfl, rfl, rfl⟩ | ⟨_, e, _⟩
  · have hl : (x.drop (8 * n)).length = x.length - 8 * n := List.length_drop
    have h0 : 0 < (x.drop (8 * n)).length := List.length_pos_iff.2 hy
    by_cases h8 : 8 ≤ (x.drop (8 * n)).length
    · refine .inl ⟨cutB_yes h8 _, by omega, ?_, ?_, ?_⟩
      · rw [cutL_yes h8, List.drop_drop, show 8 * n + 8 = 8 * (n + 1) by omega]
      · rw [sksV_snoc, skC_snoc, val_yes (n := 2) (l := x.drop (8 * n)) (by omega), val_cut (a := 2) (b := 2) (l := x.drop (8 * n)) (by omega), val_cut (a := 4) (b := 4) (l := x.drop (8 * n)) (by omega)]
      · rw [sksOk_snoc, val_cut (a := 2) (b := 2) (l := x.drop (8 * n)) (by omega), Bool.or_assoc]
        congr 1
        cases sksOk n x
        · rfl
        · generalize num (((x.drop (8 * n)).drop 2).take 2) = z
          by_cases hz : z ≤ 1
          · have h1 : decide (1 < z) = false := by simp; omega
            have h2 : decide (z ≤ 1) = true := by simpa using hz
            rw [h1, h2]; rfl
          · have h1 : decide (1 < z) = true := by simp; omega
            have h2 : decide (z ≤ 1) = false := by simpa using hz
            rw [h1, h2]; rfl
    · exact .inr ⟨cutB_no h8 _, by unfold cutL; rw [if_neg h8], by omega⟩
  · exact absurd e hy
/-- What forwardWide leaves. -/
def WideGot (w : World) (p G r g : Nat) (l : List UInt8) (bad bw : Bool) (c : Ck) (gv dv pv bv : Value) (e : Ending) (w' : World) : Prop :=
  e = .returned (.tuple #[]) ∧ ∃ (n : Nat) (sv : Value) (xs : List Value) (b w1 : Bool), RS w w' p G r g [] b w1 (ckArr { c with tsn := val 4 l } gv dv sv pv bv) ∧
    w'.ownsRow w.heap.size 87 3 sv n xs ∧ WideAt (cutL 4 l) (cutB 4 l bad) [] b bw w1 n xs
/-- The reader beside the loop's variable and the row. -/
structure WV (w V : World) (p G r g gs : Nat) (l : List UInt8) (b bw : Bool) (cs : Array Value) (n : Nat) (v : Value) (xs : List Value) (ss : Array Value) : Prop where
  rs : RS w V p G r g l b bw cs
  row : V.ownsRow w.heap.size 87 3 v n xs
  var : Blk V gs 87 ss
  apart : v.ownBlock ≠ some gs
  lt : p < w.heap.size ∧ r < w.heap.size ∧ g < w.heap.size
  new : w.heap.size ≤ gs
section
variable {w V V' : World} {p G r g gs n : Nat} {l l' : List UInt8} {b b' bw bw' : Bool} {cs : Array Value} {v : Value} {xs : List Value} {ss : Array Value}
theorem WV.step (h : WV w V p G r g gs l b bw cs n v xs ss) (k : Rd V' p G l' b') (f : Fr (At p) V V') : WV w V' p G r g gs l' b' bw cs n v xs ss :=
  ⟨h.rs.step k f, own_at h.row h.lt.1 f, f.blk h.var (fun e => by have := h.lt.1; have := h.new; have e' : gs = p := e; omega), h.apart, h.lt, h.new⟩
theorem WV.refuse (h : WV w V p G r g gs l b bw cs n v xs ss) (k : RS V V' p G r g l b bw' cs) : WV w V' p G r g gs l b bw' cs n v xs ss := by
  have hlt := h.lt
  have hnw := h.new
  refine ⟨k.since h.rs.fr, k.fr.own h.row (fun g' hg => ?_), k.fr.blk h.var ?_, h.apart, h.lt, h.new⟩
  · have := (h.row.lt g' hg).1
    rintro (e | e | e) <;> omega
  · rintro (e | e | e) <;> omega
theorem WV.setV (h : WV w V p G r g gs l b bw cs n v xs ss) (i : Nat) (u : Value) : WV w (V.setCell ⟨gs, i, none⟩ u) p G r g gs l b bw cs n v xs (ss.setIfInBounds i u) := by
  have F : Fr (fun k => k = gs) V (V.setCell ⟨gs, i, none⟩ u) := (Fr.refl (fun k => k = gs) V).setCell (p := ⟨gs, i, none⟩) (.inl rfl) _
  have hlt := h.lt
  have hnw := h.new
  have hG := h.rs.rd.le
  refine ⟨⟨h.rs.rd.fr F (fun e => by have e' : p = gs := e; omega) (fun e => by have e' : G = gs := e; omega), F.blk h.rs.rblk (fun e => by have e' : r = gs := e; omega), F.blk h.rs.blk (fun e => by have e' : g = gs := e; omega), h.rs.fr.setCell (p := ⟨gs, i, none⟩) (.inr hnw) u, h.rs.o1, h.rs.o2⟩, F.own h.row (fun g' hg e => h.apart (by rw [hg]; have e' : g' = gs := e; rw [e'])), h.var.set_ i u, h.apart, h.lt, h.new⟩
end

set_option maxHeartbeats 8000000 in
set_option maxRecDepth 100000 in
theorem wide_r {w : World} {p G r g : Nat} {l : List UInt8} {bad bw : Bool} {c : Ck} {gv dv pv bv : Value} (hl : l.length ≤ 900000) (h : RS w w p G r g l bad bw (ckArr c gv dv (.slice none 0 0) pv bv)) :
    Calls Try.prog 100 #[rptr r, cptr g] w (WideGot w p G r g l bad bw c gv dv pv bv) := by
  obtain ⟨i0, hi0, hz0, hz1, hz2⟩ := info_parts3 skip_info
  have HLT := Lib.hid h.lts
  have HGP := Lib.hid h.rd.le
  have HLL := Lib.hid hl
  obtain ⟨W1, hW1⟩ : ∃ W1, W1 = w := ⟨_, rfl⟩
  have HR1 : Hid (RS w W1 p G r g l bad bw (ckArr c gv dv (.slice none 0 0) pv bv)) := by rw [hW1]; exact h
  rw [← hW1] at h
  rw [show Calls Try.prog 100 #[rptr r, cptr g] w = Calls Try.prog 100 #[rptr r, cptr g] W1 by rw [hW1]]
  clear h hW1 hl
  go_enter Try.func100, Try.ntmps100
  have d0 : W1.cell? ⟨r, 0, none⟩ = some (rptr p) := HR1.out.rblk.cell 0
  go_wp2_with fail
  refine (rdx_u32 HR1.out.rd).mono ?_
  rintro e V1 ⟨rfl, hr, hf⟩
  have HS1 := Lib.hid (HR1.out.step hr hf)
  clear hr hf d0 HR1
  have kc := CkBlk.at (i := 5) HS1.out.blk rfl
  have kf := HS1.out.blk.frozen 5
  go_upto_region 1 with (fail)
  obtain ⟨W2, hW⟩ : ∃ W, W = V1.setCell ⟨g, 5, none⟩ (.int .u32 ((val 4 (l) : Nat) : Int)) := ⟨_, rfl⟩
  have HR2 := Lib.hid (HS1.out.setC 5 (.int .u32 ((val 4 (l) : Nat) : Int)))
  rw [← hW] at HR2 ⊢
  clear hW kc kf HS1
  obtain ⟨x, hx⟩ : ∃ x, x = cutL 4 l := ⟨_, rfl⟩
  obtain ⟨bx, hbx⟩ : ∃ bx, bx = cutB 4 l bad := ⟨_, rfl⟩
  obtain ⟨c2, hc2⟩ : ∃ c2 : Ck, c2 = { c with tsn := val 4 l } := ⟨_, rfl⟩
  have HXL : Hid (x.length ≤ 900000) := by rw [hx]; exact Nat.le_trans (cutL_len 4 l) HLL.out
  have HR3 : Hid (RS w W2 p G r g x bx bw (ckArr c2 gv dv (.slice none 0 0) pv bv)) := by rw [hx, hbx, hc2]; exact HR2.out
  have HX := Lib.hid hx
  have HBX := Lib.hid hbx
  have HC2 := Lib.hid hc2
  clear hx hbx hc2 HR2
  go_loopw [4, 5] (fun _ _ wr => ∃ (n : Nat) (sk : Value) (xs : List Value) (y : List UInt8) (b w1 : Bool), n ≤ 225001 ∧ Hid (RS w wr p G r g y b w1 (ckArr c2 gv dv sk pv bv)) ∧ Hid (wr.ownsRow w.heap.size 87 3 sk n xs) ∧ Hid (WideAt x bx y b bw w1 n xs)) (fun _ _ wr => lenAt wr p)
  case atStart => exact ⟨0, .slice none 0 0, [], x, bx, bw, by omega, HR3, nil_own, .inl ⟨rfl, by omega, rfl, rfl, by simp [sksOk]⟩⟩
  case round =>
    obtain ⟨n, sk, xs, y, b, w1, hn, HRk, HOk, HF⟩ := hrel
    obtain ⟨q, hq⟩ : ∃ q, q = y.length := ⟨_, rfl⟩
    have HQ := Lib.hid hq
    have HLEFT := Lib.hid (rd_left HRk.out.rd)
    rw [← hq] at HLEFT
    have d0 : wr.cell? ⟨r, 0, none⟩ = some (rptr p) := HRk.out.rblk.cell 0
    have HM : Hid (lenAt wr p = q) := by rw [hq]; exact Rd.lenAt HRk.out.rd
    clear hq
    go_wp2_with fail
    refine HLEFT.out.mono ?_
    rintro e V5 ⟨rfl, rfl⟩
    clear HLEFT
    by_cases h0 : (0 : Int) < (q : Int)
    · have HNE : Hid (y ≠ []) := by intro e; have := HQ.out; rw [e] at this; simp at this; omega
      have hn4 : n ≤ 225000 := by
        rcases HF.out with ⟨_, h, _⟩ | ⟨_, e, _⟩
        · have := HXL.out; omega
        · exact absurd e HNE.out
      go_wp2_with fail
      refine (rdx_u16 HRk.out.rd).mono ?_
      rintro e V6 ⟨rfl, h1, h2⟩
      have HR6 := Lib.hid (HRk.out.step h1 h2)
      have HO6 := Lib.hid (own_at HOk.out HLT.out.1 h2)
      obtain ⟨u1, hu1⟩ : ∃ u1, u1 = val 2 y := ⟨_, rfl⟩
      have HU1 := Lib.hid hu1
      rw [← hu1]
      obtain ⟨gs, hgs⟩ : ∃ gs, gs = V6.heap.size := ⟨_, rfl⟩
      clear h1 h2 hu1 d0 HRk HOk
      go_upto_region 3 with (fail)
      have HV7 : Hid (WV w (V6.alloc (.cells #[.int .u16 (u1 : Int), .bool false, .int .u32 0] 87)) p G r g gs (cutL 2 y) (cutB 2 y b) w1 (ckArr c2 gv dv sk pv bv) n sk xs #[.int .u16 (u1 : Int), .bool false, .int .u32 0]) := by
        have hb := (Below.refl V6.heap.size V6).alloc (Nat.le_refl _) (.cells #[.int .u16 (u1 : Int), .bool false, .int .u32 0] 87)
        refine ⟨HR6.out.grows hb, own_up HO6.out hb, by rw [hgs]; exact Blk.new _ _ _, fun e => by have := (HO6.out.lt gs e).2; omega, HLT.out, by rw [hgs]; exact HR6.out.size⟩
      obtain ⟨V7, hV7⟩ : ∃ V7, V7 = V6.alloc (.cells #[.int .u16 (u1 : Int), .bool false, .int .u32 0] 87) := ⟨_, rfl⟩
      rw [← hV7] at HV7 ⊢
      rw [← hgs]
      clear hV7 hgs HR6 HO6
      have d0 : V7.cell? ⟨r, 0, none⟩ = some (rptr p) := HV7.out.rs.rblk.cell 0
      go_wp2_with fail
      refine (rdx_u16 HV7.out.rs.rd).mono ?_
      rintro e V8 ⟨rfl, h1, h2⟩
      have HV8 := Lib.hid (HV7.out.step h1 h2)
      obtain ⟨u2, hu2⟩ : ∃ u2, u2 = val 2 (cutL 2 y) := ⟨_, rfl⟩
      have HU2 := Lib.hid hu2
      rw [← hu2]
      clear h1 h2 hu2 d0 HV7
      obtain ⟨bz, hbz⟩ : ∃ bz : Bool, bz = decide (1 < u2) := ⟨_, rfl⟩
      have hdz : decide ((1 : Int) < (u2 : Int)) = bz := by rw [hbz]; exact decide_eq_decide.2 (by omega)
      have HBZ := Lib.hid hbz
      clear hbz
      go_wp2_with fail
      refine (refuse_r bz HV8.out.rs.here).mono ?_
      rintro e V9 ⟨rfl, h1⟩
      have HV9 := Lib.hid (HV8.out.refuse h1)
      rw [cutL_cutL, cutB_cutB] at HV9
      obtain ⟨bo, hbo⟩ : ∃ bo : Bool, bo = (u2 == 1) := ⟨_, rfl⟩
      have hq1 : (((u2 : Nat) : Int) == 1) = bo := by
        rw [hbo]
        by_cases h : u2 = 1
        · subst h; rfl
        · rw [show (u2 == 1) = false by simpa using h]; simp; omega
      have HBO := Lib.hid hbo
      have kc : V9.cell? ⟨gs, 1, none⟩ = some (.bool false) := HV9.out.var.cell 1
      have kf := HV9.out.var.frozen 1
      clear h1 HV8 hdz hbo
      go_upto_region 6 with (fail)
      obtain ⟨V10, hV10⟩ : ∃ V10, V10 = V9.setCell ⟨gs, 1, none⟩ (.bool bo) := ⟨_, rfl⟩
      have HV10 := Lib.hid (HV9.out.setV 1 (.bool bo))
      rw [← hV10] at HV10 ⊢
      clear hV10 kc kf HV9 hq1
      have d0 : V10.cell? ⟨r, 0, none⟩ = some (rptr p) := HV10.out.rs.rblk.cell 0
      go_wp2_with fail
      refine (rdx_u32 HV10.out.rs.rd).mono ?_
      rintro e V11 ⟨rfl, h1, h2⟩
      have HV11 := Lib.hid (HV10.out.step h1 h2)
      rw [cutL_cutL, cutB_cutB] at HV11
      obtain ⟨u3, hu3⟩ : ∃ u3, u3 = val 4 (cutL (2 + 2) y) := ⟨_, rfl⟩
      have HU3 := Lib.hid hu3
      rw [← hu3]
      have kc : V11.cell? ⟨gs, 2, none⟩ = some (.int .u32 0) := HV11.out.var.cell 2
      have kf := HV11.out.var.frozen 2
      clear h1 h2 hu3 d0 HV10
      go_upto_region 7 with (fail)
      obtain ⟨V12, hV12⟩ : ∃ V12, V12 = V11.setCell ⟨gs, 2, none⟩ (.int .u32 ((u3 : Nat) : Int)) := ⟨_, rfl⟩
      have HV12 : Hid (WV w (V11.setCell ⟨gs, 2, none⟩ (.int .u32 ((u3 : Nat) : Int))) p G r g gs (cutL 8 y) (cutB 8 y b) (w1 || bz) (ckArr c2 gv dv sk pv bv) n sk xs #[.int .u16 ((u1 : Nat) : Int), .bool bo, .int .u32 ((u3 : Nat) : Int)]) := HV11.out.setV 2 (.int .u32 ((u3 : Nat) : Int))
      rw [← hV12] at HV12 ⊢
      clear hV12 kc kf HV11
      have HGS : Hid (sk.ownBlock ≠ some gs) := HV12.out.apart
      have HS0 : Hid (RSr w V12.drew p G r g (cutL 8 y) (cutB 8 y b) (w1 || bz) (ckArr c2 gv dv sk pv bv) 1 0 w.heap.size 87 3 n sk xs ∧ Blk V12.drew gs 87 #[.int .u16 ((u1 : Nat) : Int), .bool bo, .int .u32 ((u3 : Nat) : Int)]) := ⟨⟨HV12.out.rs.drew, fun _ => ((Fr.refl (fun _ => False) V12).drew.own HV12.out.row (fun _ _ h => h))⟩, HV12.out.var.drew⟩
      refine wp_region_stage_tail 8 (fun m => stRel 1 p sk m) (fun m V => Hid (RSr w V p G r g (cutL 8 y) (cutB 8 y b) (w1 || bz) (ckArr c2 gv dv sk pv bv) 1 m w.heap.size 87 3 n sk xs ∧ Blk V gs 87 #[.int .u16 ((u1 : Nat) : Int), .bool bo, .int .u32 ((u3 : Nat) : Int)])) [(false, .exact (cptr g)),
          (false, .exact (cptr g)),
          (false, .exact (cptr g)),
          (false, .exact (.pointer (some ⟨g, 16, none⟩))),
          (false, .exact (sk)),
          (false, .exact (.agg #[.int .u16 ((u1 : Nat) : Int), .bool bo, .int .u32 ((u3 : Nat) : Int)])),
          (true, .grows (Laid 87 #[.int .u16 ((u1 : Nat) : Int), .bool bo, .int .u32 ((u3 : Nat) : Int)] p sk)),
          (true, .grows (Grew w.heap.size 87 3 p (n + 1) (xs ++ [.int .u16 ((u1 : Nat) : Int), .bool bo, .int .u32 ((u3 : Nat) : Int)])))] (by kernel_rfl) (by kernel_rfl) (by kernel_rfl) rfl (of_decide_eq_true (by kernel_rfl)) (by kernel_rfl) (by kernel_rfl) ?lasts ?start ?walk
      case lasts => exact ⟨fun m v V V' _ h k => h.lasts k, fun m v V V' hm h k => h.lasts (fun e => by subst e; exact absurd (hm rfl) (by decide)) k, trivial⟩
      case start => exact HS0
      case walk =>
        simp only [List.take_succ_cons, List.take_zero, List.drop_succ_cons, List.drop_zero]
        refine stageT_pure rfl (fun m V => Fr.refl _ _) (fun V m hS hl => by go_simp) ?_
        simp only [Act.put, List.setIfInBounds_toArray, List.set_cons_zero, List.set_cons_succ, List.cons_append, List.nil_append]
        refine stageT_pure rfl (fun m V => Fr.refl _ _) (fun V m hS hl => by go_simp) ?_
        simp only [Act.put, List.setIfInBounds_toArray, List.set_cons_zero, List.set_cons_succ, List.cons_append, List.nil_append]
        refine stageT_pure rfl (fun m V => Fr.refl _ _) (fun V m hS hl => by go_simp) ?_
        simp only [Act.put, List.setIfInBounds_toArray, List.set_cons_zero, List.set_cons_succ, List.cons_append, List.nil_append]
        refine stageT_pure rfl (fun m V => Fr.refl _ _) (fun V m hS hl => by go_simp) ?_
        simp only [Act.put, List.setIfInBounds_toArray, List.set_cons_zero, List.set_cons_succ, List.cons_append, List.nil_append]
        refine stageT_pure rfl (fun m V => Fr.refl _ _) (fun V m hS hl => by
            have hc : V.cell? ⟨g, 16, none⟩ = some sk := CkBlk.at hS.out.1.1.blk rfl
            go_simp) ?_
        simp only [Act.put, List.setIfInBounds_toArray, List.set_cons_zero, List.set_cons_succ, List.cons_append, List.nil_append]
        refine stageT_pure rfl (fun m V => Fr.refl _ _) (fun V m hS hl => by
            have k0 : V.cell? ⟨gs, 0, none⟩ = some (.int .u16 ((u1 : Nat) : Int)) := hS.out.2.cell 0
            have k1 : V.cell? ⟨gs, 1, none⟩ = some (.bool bo) := hS.out.2.cell 1
            have k2 : V.cell? ⟨gs, 2, none⟩ = some (.int .u32 ((u3 : Nat) : Int)) := hS.out.2.cell 2
            go_simp) ?_
        simp only [Act.put, List.setIfInBounds_toArray, List.set_cons_zero, List.set_cons_succ, List.cons_append, List.nil_append]
        refine stageT_move_grows rfl (fun V hS hl => by
            go_simp
            have h3 := hS.out.1.lay (by decide) 87 #[.int .u16 ((u1 : Nat) : Int), .bool bo, .int .u32 ((u3 : Nat) : Int)]
            exact ⟨h3.1, h3.2.1, h3.2.2, hS.out.2.alloc _⟩) (fun v50 => ?_)
        simp only [Act.put, List.setIfInBounds_toArray, List.set_cons_zero, List.set_cons_succ, List.cons_append, List.nil_append]
        refine stageT_move_grows rfl (fun V hS hl => by
            obtain ⟨b', rfl, hbl, hb1, hb2⟩ := (hl.1 (by kernel_rfl))
            exact leaves_append (.tmp 48) (.tmp 50) _ rfl w.heap.size 87 i0 _ 3 8 Try.underlying29 hi0 hz0 hz1 hz2 rfl (by omega) sk n xs rfl (hS.out.1.2 (Nat.le_refl _)) (b' + 1) (some ⟨b', 0, none⟩) 1 1 [.int .u16 ((u1 : Nat) : Int), .bool bo, .int .u32 ((u3 : Nat) : Int)] rfl (blk_reads hbl rfl) (by simp [Value.oneCell']) (by simp only [maxLen]; omega) (by omega) hS.out.1.1.size (fun v' V' ho hg _ => have h3 := hS.out.1.grow (Nat.le_refl _) HLT.out HGP.out ho hg; ⟨h3.1, h3.2.1, h3.2.2, hS.out.2.grown hg (fun e => HGS.out e.symm)⟩)) (fun v51 => ?_)
        simp only [Act.put, List.setIfInBounds_toArray, List.set_cons_zero, List.set_cons_succ, List.cons_append, List.nil_append]
        refine stageT_nil (fun V2 hS hF => ?_)
        have hF2 : Laid 87 #[.int .u16 ((u1 : Nat) : Int), .bool bo, .int .u32 ((u3 : Nat) : Int)] p sk v50 V2 ∧ Grew w.heap.size 87 3 p (n + 1) (xs ++ [.int .u16 ((u1 : Nat) : Int), .bool bo, .int .u32 ((u3 : Nat) : Int)]) v51 V2 ∧ True := hF
        have HG := Lib.hid hF2.2.1
        have HS4 : Hid (RS w V2 p G r g (cutL 8 y) (cutB 8 y b) (w1 || bz) (ckArr c2 gv dv sk pv bv)) := hS.out.1.1
        obtain ⟨A7, c7, rfl, h7a, h7b⟩ := own_slice HG.out.1
        have kc : V2.cell? ⟨g, 16, none⟩ = some sk := CkBlk.at HS4.out.blk rfl
        have kf := HS4.out.blk.frozen 16
        clear hS hF hF2
        show wpList _ _ _ _ _ _
        go_wp2_with fail
        go_roundw
        case rel =>
          have F : Fr (fun i => i = g) V2 (V2.setCell ⟨g, 16, none⟩ (.slice A7 (n + 1) c7)) := (Fr.refl (fun i => i = g) V2).setCell (p := ⟨g, 16, none⟩) (.inl rfl) _
          refine ⟨n + 1, _, _, _, _, _, by omega, HS4.out.setC 16 _, F.own HG.out.1 (fun b hb e => by have := (HG.out.1.lt b hb).1; have := HLT.out.2.2; omega), ?_⟩
          rw [HBZ.out, HBO.out, HU1.out, HU2.out, HU3.out]
          exact HF.out.step HNE.out
        case measure =>
          rw [Rd.lenAt (HS4.out.setC 16 (.slice A7 (n + 1) c7)).rd, HM.out]
          have h1 := HQ.out
          unfold cutL
          split
          · rw [List.length_drop]; omega
          · simp; omega
    · have hy : y = [] := List.eq_nil_of_length_eq_zero (by have := HQ.out; omega)
      subst hy
      go_wp2_with fail
      go_end0
      refine ⟨rfl, n, sk, xs, b, w1, ?_, HOk.out, ?_⟩
      · rw [← HC2.out]; exact HRk.out
      · rw [← HX.out, ← HBX.out]; exact HF.out

end Go.Proofs.Ytpgklhecmafnbaa.Chk
