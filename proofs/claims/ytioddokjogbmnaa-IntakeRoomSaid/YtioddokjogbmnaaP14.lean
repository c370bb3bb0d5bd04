/-
  Of the texts IntakeRoomWalk: what the laws reach.
-/
import Derived.Test.YtioddokjogbmnaaRows
import Derived.Test.YtioddokjogbmnaaP13
import Derived.WalkKit
import Derived.ProofKit
import Derived.OpenShut
import Derived.ShutString
import Derived.ChangeOld
import Derived.Below

namespace Go.Proofs.Ytioddokjogbmnaa.intakeRoom
open Go.ChangeShapes Go.WideShapes Go.ChangeAt Go.RowKit
open Go.ChangeMaps (open_string shut_string)
set_option linter.unusedVariables false
set_option linter.unusedSimpArgs false
theorem own : ownKnob Try.prog.godebug = none := by kernel_rfl
theorem laidOut : laidOutB Try.prog = true := by kernel_rfl
/-- What the walk is told of a slice of integers that came in. -/
def IsRow (k : IntKind) (w : World) (a : Option Addr) (len cap : Nat) (zs : List Int) : Prop :=
  (a = none ∧ len = 0 ∧ cap = 0 ∧ zs = []) ∨
  ∃ x, a = some x ∧ len ≤ cap ∧ cap ≤ maxLen ∧ zs.length = cap ∧ (∀ i, i < zs.length → w.cell? (x.add i) = some (.int k (zs.getD i 0))) ∧ ∀ n ∈ zs, (Lit.int k n).wf = true
open Words Oct Par Chk In
set_option maxHeartbeats 1600000 in
set_option maxRecDepth 100000 in
theorem walk {R : World → (Nat → Prop) → Nat → Bool → In.IS → Prop} (I : In.InI R) (a0 : Int) (a1 : Int) (w : World) (w0 : (Lit.int .i64 a0).wf = true) (w1 : (Lit.int .i64 a1).wf = true) :
    Calls Try.prog 9 #[.int .i64 a0, .int .i64 a1] w fun e w' => e = .returned (.bool true) ∧ Below w.heap.size w w' := by
  have hw0 := bounds_i64 w0
  have hw1 := bounds_i64 w1
  obtain ⟨i0, hi0, hz0, hz1, hz2⟩ := info_parts3 u8_info
  go_enter Try.func9, Try.ntmps9
  go_wp2_with fail
  refine (first_i I w).mono ?_
  rintro e W2 ⟨rfl, hb2⟩
  have HB2 := Lib.hid hb2
  clear hb2
  go_wp2_with fail
  refine (I.new W2 0 true (by omega)).mono ?_
  rintro e W3 ⟨G0, p, rfl, hr, hg, hb3⟩
  have HR3 := Lib.hid (RoS.new I ⟨hr, hg, hb3⟩)
  clear hr hg hb3
  go_upto_region 6 with (fail)
  obtain ⟨x1, e1, h1⟩ := u64rem a1 60000 (by omega) (by omega)
  obtain ⟨m, e0, h0⟩ := u64rem a0 200 (by omega) (by omega)
  rw [e1, e0]
  obtain ⟨k, hk⟩ : ∃ k : Nat, k = 1000 + x1 := ⟨_, rfl⟩
  have ek : wrap64 (1000 + (x1 : Int)) = (k : Int) := by rw [IntWalk.wrap64_in _ (by omega)]; omega
  rw [ek]
  have hkb : 1 ≤ k ∧ k ≤ 61000 := by omega
  have hm : m < 200 := by omega
  clear e1 e0 ek hk h1 h0 w0 w1 hw0 hw1
  have hmk := fun W : World => run_make_rowN (P := Try.prog) 39 5 i0 (.int .u8 0) Try.underlying39 hi0 hz0 .i64 .i64 k k (Nat.le_refl _) (by rw [hz2]; omega) (by omega) W
  rw [hz1, Nat.mul_one] at hmk
  go_wp2_with fail
  obtain ⟨wo, rfl⟩ : ∃ wo : World, wo = W3 := ⟨_, rfl⟩
  go_loopw [8, 26] (fun v8 v26 wr => ∃ (i h : Nat), v8 = .int .i64 (h : Int) ∧ v26 = .int .i64 (i : Int) ∧ i ≤ m ∧ h ≤ 131072 ∧ Hid (RoS R W2 p i h wr)) (fun _ v26 _ => m - (intOf v26).toNat)
  case atStart => exact ⟨0, 0, rfl, rfl, by omega, by omega, HR3⟩
  case round =>
    clear HR3
    obtain ⟨i, h, rfl, rfl, hi, hh, HR⟩ := hrel
    by_cases hlt : i < m
    · go_upto_region 11 with (first
        | (refine wpList_build_r rfl 41 rfl (.int .u8 64) (.int .u32 ((i : Int) + 2)) (.bool true) (.int .u16 (i : Int)) (.slice (some ⟨wr.heap.size, 0, none⟩) k k) rfl rfl rfl rfl rfl _ (built_ro i (i + 2) k wr.heap.size (by omega) rfl) ?_)
        | (with_reducible refine wpList_alloc_run _ rfl 41 rfl (alloc_zk _) ?_)
        | (refine wpList_store_row rfl 41 _ _ rfl _ (roA i (i + 2) k wr.heap.size) rfl rfl 41 (ckArr (zeroC 0) nilV nilV nilV nilV nilV) (Blk.new _ _ _) rfl rfl (roA_one _ _ _ _) ?_))
      simp only [Act.put, List.setIfInBounds_toArray, List.set_cons_zero, List.set_cons_succ]
      obtain ⟨W4, hW4⟩ : ∃ W4, W4 = ((wr.alloc (.cells (madeCells #[.int .u8 0] k) 5)).alloc (.cells (ckArr (zeroC 0) nilV nilV nilV nilV nilV) 41)).setRow (wr.alloc (.cells (madeCells #[.int .u8 0] k) 5)).heap.size (roA i (i + 2) k wr.heap.size) := ⟨_, rfl⟩
      obtain ⟨gk, hgk⟩ : ∃ gk, gk = (wr.alloc (.cells (madeCells #[.int .u8 0] k) 5)).heap.size := ⟨_, rfl⟩
      have hy0 := byt_zeros wr k (by omega)
      have hs0 := World.size_alloc wr (.cells (madeCells #[.int .u8 0] k) 5)
      have hb0 := below_one wr (.cells (madeCells #[.int .u8 0] k) 5)
      rw [← hW4, ← hgk]
      rw [← hgk] at hW4
      obtain ⟨W1, hW1⟩ : ∃ W1, W1 = wr.alloc (.cells (madeCells #[.int .u8 0] k) 5) := ⟨_, rfl⟩
      rw [← hW1] at hW4 hgk hy0 hs0 hb0
      have hb1 : Below W1.heap.size W1 W4 := by rw [hW4]; exact below_setRow (below_one W1 _) (by rw [hgk]; exact Nat.le_refl _) _
      have HK4 : Hid (CkBlk W4 gk (roA i (i + 2) k wr.heap.size)) := by rw [hW4, hgk]; exact setRow_heap _ _ _ _ _ _ (Blk.new W1 _ _)
      have hb4 : Below wr.heap.size wr W4 := hb0.trans (hb1.mono (by omega))
      have hy4 : Byt W4 W4.heap.size (some ⟨wr.heap.size, 0, none⟩) (zl k) := (hy0.below hb1).more hb1.size
      have HPUT := Lib.hid (HR.out.put I (by omega) hkb hh hb4 hy4)
      clear hW4 hgk hy0 hs0 hb0 hW1 hb1 hb4 hy4 HR
      by_cases hfit : h + k ≤ 131072
      · have hf1 : (h : Int) + (k : Int) ≤ 131072 := by omega
        go_wp2_with (refine wpList_load_row rfl 41 _ rfl gk rfl 41 (roA i (i + 2) k wr.heap.size) (0, 0) _ HK4.out Try.underlying41 rfl chunk_info ?_)
        refine HPUT.out.mono ?_
        rintro e W5 (⟨rfl, _, HR5⟩ | ⟨_, hno, _⟩)
        · clear HPUT HK4
          go_wp2_with fail
          refine (HR5.out.sack I).mono ?_
          rintro e W6 ⟨cs, ck, rfl, HAT, HWN, HR6⟩
          have hcs : cs.size = 19 := HAT.out.size
          have HS1 : Hid ((Try.prog.info? 41).map (·.size) = some cs.size) := by rw [hcs]; exact chunk_info
          have HS2 : Hid ((ckArr (zeroC 0) nilV nilV nilV nilV nilV).size = cs.size) := by rw [hcs]; rfl
          go_upto_region 17 with (first
            | (with_reducible refine wpList_alloc_run _ rfl 41 rfl (alloc_zk _) ?_)
            | (refine wpList_store_row rfl 41 _ _ rfl _ cs rfl rfl 41 (ckArr (zeroC 0) nilV nilV nilV nilV nilV) (Blk.new _ _ _) HS1.out HS2.out HAT.out.one ?_))
          simp only [Act.put, List.setIfInBounds_toArray, List.set_cons_zero, List.set_cons_succ]
          obtain ⟨W7, hW7⟩ : ∃ W7, W7 = (W6.alloc (.cells (ckArr (zeroC 0) nilV nilV nilV nilV nilV) 41)).setRow W6.heap.size cs := ⟨_, rfl⟩
          obtain ⟨gs, hgs⟩ : ∃ gs, gs = W6.heap.size := ⟨_, rfl⟩
          have hb7 : Below W6.heap.size W6 W7 := by rw [hW7]; exact below_setRow (below_one W6 _) (Nat.le_refl _) _
          have hk7 : CkBlk W7 gs cs := by rw [hW7, hgs]; exact setRow_heap _ _ _ _ _ _ (Blk.new W6 _ _)
          have HR7 := Lib.hid (HR6.out.grows I hb7)
          obtain ⟨_, _, _, _, _, C, _⟩ := HAT.out.parts
          have k11 : W7.cell? ⟨gs, 11, none⟩ = some (.int .u32 ((131072 - (h + k) : Nat) : Int)) := by rw [hk7.cell 11, C.c11, HWN.out]
          obtain ⟨wd, hwd⟩ : ∃ wd : Nat, wd = 131072 - (h + k) := ⟨_, rfl⟩
          rw [← hwd] at k11
          have hwi : (wd : Int) = 131072 - ((h : Int) + (k : Int)) := by omega
          rw [← hW7, ← hgs]
          clear hW7 hgs hb7 hk7 C hcs HS1 HS2 HR6 HAT hwd
          go_wp2_with fail
          go_roundw
          case rel => exact ⟨i + 1, h + k, by first | rfl | go_num, by go_num, by omega, by omega, HR7⟩
          case measure => simp [intOf]; omega
        · exact absurd hno.out (by omega)
      · have hf1 : ¬ (h : Int) + (k : Int) ≤ 131072 := by omega
        go_wp2_with (refine wpList_load_row rfl 41 _ rfl gk rfl 41 (roA i (i + 2) k wr.heap.size) (0, 0) _ HK4.out Try.underlying41 rfl chunk_info ?_)
        refine HPUT.out.mono ?_
        rintro e W5 (⟨_, hno, _⟩ | ⟨rfl, _, HR5⟩)
        · exact absurd hno.out hfit
        · clear HPUT HK4
          go_wp2_with fail
          refine (HR5.out.sack I).mono ?_
          rintro e W6 ⟨cs, ck, rfl, HAT, HWN, HR6⟩
          have hcs : cs.size = 19 := HAT.out.size
          have HS1 : Hid ((Try.prog.info? 41).map (·.size) = some cs.size) := by rw [hcs]; exact chunk_info
          have HS2 : Hid ((ckArr (zeroC 0) nilV nilV nilV nilV nilV).size = cs.size) := by rw [hcs]; rfl
          go_upto_region 17 with (first
            | (with_reducible refine wpList_alloc_run _ rfl 41 rfl (alloc_zk _) ?_)
            | (refine wpList_store_row rfl 41 _ _ rfl _ cs rfl rfl 41 (ckArr (zeroC 0) nilV nilV nilV nilV nilV) (Blk.new _ _ _) HS1.out HS2.out HAT.out.one ?_))
          simp only [Act.put, List.setIfInBounds_toArray, List.set_cons_zero, List.set_cons_succ]
          obtain ⟨W7, hW7⟩ : ∃ W7, W7 = (W6.alloc (.cells (ckArr (zeroC 0) nilV nilV nilV nilV nilV) 41)).setRow W6.heap.size cs := ⟨_, rfl⟩
          obtain ⟨gs, hgs⟩ : ∃ gs, gs = W6.heap.size := ⟨_, rfl⟩
          have hb7 : Below W6.heap.size W6 W7 := by rw [hW7]; exact below_setRow (below_one W6 _) (Nat.le_refl _) _
          have hk7 : CkBlk W7 gs cs := by rw [hW7, hgs]; exact setRow_heap _ _ _ _ _ _ (Blk.new W6 _ _)
          have HR7 := Lib.hid (HR6.out.grows I hb7)
          obtain ⟨_, _, _, _, _, C, _⟩ := HAT.out.parts
          have k11 : W7.cell? ⟨gs, 11, none⟩ = some (.int .u32 ((131072 - (h) : Nat) : Int)) := by rw [hk7.cell 11, C.c11, HWN.out]
          obtain ⟨wd, hwd⟩ : ∃ wd : Nat, wd = 131072 - (h) := ⟨_, rfl⟩
          rw [← hwd] at k11
          have hwi : (wd : Int) = 131072 - (h : Int) := by omega
          rw [← hW7, ← hgs]
          clear hW7 hgs hb7 hk7 C hcs HS1 HS2 HR6 HAT hwd
          go_wp2_with fail
          go_roundw
          case rel => exact ⟨i + 1, h, by first | rfl | go_num, by go_num, by omega, by omega, HR7⟩
          case measure => simp [intOf]; omega
    · have hLAST := fun V' hb hy => HR.out.last I (by omega) hkb hh (V' := V') hb hy
      have HL := Lib.hid (hLAST _ (below_one wr _) (byt_zeros wr k (by omega)))
      clear hLAST
      go_wp2_with (refine wpList_build_r rfl 41 rfl (.int .u8 64) (.int .u32 1) (.bool true) (.int .u16 999) (.slice (some ⟨wr.heap.size, 0, none⟩) k k) rfl rfl rfl rfl rfl _ (built_ro 999 1 k wr.heap.size rfl rfl) ?_)
      refine HL.out.mono ?_
      rintro e W5 ⟨rfl, hb5⟩
      go_wp2_with fail
      go_ret
      exact ⟨rfl, HB2.out.trans (hb5.out.mono HB2.out.size)⟩
end Go.Proofs.Ytioddokjogbmnaa.intakeRoom
