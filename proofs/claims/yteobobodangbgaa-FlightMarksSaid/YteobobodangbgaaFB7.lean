/-
  Of the texts FlightMarksWalk: what the laws reach.
-/
import Derived.Test.YteobobodangbgaaRows
import Derived.Test.YteobobodangbgaaFB6
import Derived.WalkKit
import Derived.ProofKit
import Derived.OpenShut
import Derived.ShutString
import Derived.ChangeOld
import Derived.Below

namespace Go.Proofs.Yteobobodangbgaa.flightMarks
open Go.ChangeShapes Go.WideShapes Go.ChangeAt Go.RowKit
open Go.ChangeMaps (open_string shut_string)
set_option linter.unusedVariables false
set_option linter.unusedSimpArgs false
theorem own : ownKnob Try.prog.godebug = none := by kernel_rfl
theorem laidOut : laidOutB Try.prog = true := by kernel_rfl
/-- What the walk is told of a slice of integers that came in. -/
def IsRow (k : IntKind) (w : World) (a : Option Addr) (len cap : Nat) (zs : List Int) : Prop :=
  (a = none ∧ len = 0 ∧ cap = 0 ∧ zs = []) ∨
  ∃ x, a = some x ∧ len ≤ cap ∧ cap ≤ maxLen ∧ zs.length = cap ∧ (∀ i, i < zs.length → w.cell? (x.add i) = some (.int k (zs.getD i 0))) ∧ ∀ n ∈ zs, (Lit.int k n).wf = true
open Words Oct Par Chk Fl
theorem nat_u8m {x : Int} (h : (Lit.int .u8 x).wf = true) : ∃ n : Nat, x = n ∧ n ≤ 255 := by
  have := bounds_u8 h
  exact ⟨x.toNat, by omega, by omega⟩
set_option maxHeartbeats 3200000 in
set_option maxRecDepth 100000 in
theorem walk {R : World → (Nat → Prop) → Nat → Fl.FS → Prop} (I : Fl.FlI R) {H : Type} {enc : TypeId × Value → H} {base : Nat} (a0 : Int) (a1 : Option Addr) (len1 cap1 : Nat) (z1 : List Int) (v2 : Value) (d2 : DataW H) (p2 : List MemPlace) (w : World) (w0 : (Lit.int .u32 a0).wf = true) (w1 : IsRow .u8 w a1 len1 cap1 z1) (o2 : Value.okWide Try.prog w .any base 58 v2) (k2 : DataW.Trod enc Try.prog w 0 (fun _ => true) true 58 v2 d2 p2) :
    Calls Try.prog 6 #[.int .u32 a0, .slice a1 len1 cap1, v2] w fun e w' => e = .returned (.bool true) ∧ Below w.heap.size w w' := by
  have hw0 := bounds_u32 w0
  obtain ⟨st, rfl, hst⟩ : ∃ n : Nat, a0 = n ∧ n < 4294967296 := ⟨a0.toNat, by omega, by omega⟩
  obtain ⟨A2, nB, cB, rfl⟩ := okWide_slice Try.underlying58 o2
  have hsee : Sees w (.slice (.arr 2 (.int .u8))) [.slice A2 nB cB] := sees_of (sh := .slice (.arr 2 (.int .u8))) rfl (by kernel_rfl) k2
  have HSK := Lib.hid (prs_of hsee)
  have hnB := HSK.out.1
  have keep : ∀ {V : World}, Below w.heap.size w V → ∀ {p : Addr} {u : Value}, w.cell? p = some u → V.cell? p = some u := fun {V} hb {p u} h => (hb.cell (World.block_lt_of_cell? w _ h)).trans h
  have HZ : Hid (∀ i, i < len1 → ∃ (a : Addr) (d : Nat), a1 = some a ∧ d ≤ 255 ∧ ∀ V : World, Below w.heap.size w V → V.cell? (a.add i) = some (.int .u8 (d : Int))) := fun i hi => by
    rcases w1 with ⟨_, h2, _⟩ | ⟨y, h1, h2, h3, h4, h5, h6⟩
    · omega
    · have hl : i < z1.length := by omega
      obtain ⟨d, hd, hd2⟩ := nat_u8m (h6 (z1.getD i 0) (by
        rw [List.getD_eq_getElem?_getD, List.getElem?_eq_getElem hl]
        exact List.getElem_mem hl))
      exact ⟨y, d, h1, hd2, fun V hb => by rw [← hd]; exact keep hb (h5 i hl)⟩
  have hlen : len1 ≤ 9223372036854775807 := by
    rcases w1 with ⟨_, h2, _⟩ | ⟨y, h1, h2, h3, _⟩
    · omega
    · unfold maxLen at h3; omega
  obtain ⟨N, hN⟩ : ∃ N, N = min len1 40 := ⟨_, rfl⟩
  have hN1 : N ≤ len1 ∧ N ≤ 40 := by omega
  clear w1 keep w0 hw0 hsee o2 k2
  obtain ⟨i0, hi0, hz0, hz1, hz2⟩ := info_parts3 u8_info
  go_enter Try.func6, Try.ntmps6
  go_wp2_with fail
  refine (first_f I w).mono ?_
  rintro e W2 ⟨rfl, hb2⟩
  have HB2 := Lib.hid hb2
  clear hb2
  go_wp2_with fail
  refine (FV.new I (S := fun _ => False) W2 W2 (Below.refl _ _) (fun i h => h.elim) st hst).mono ?_
  rintro e W3 ⟨p, rfl, HF3, _⟩
  have HL0 : Hid (FV R W2 p (fun _ => False) (fs0 st) W3 ∧ MkS st 0 0 0 (fs0 st) ∧ (fs0 st).fresh = true ∧ (fs0 st).ms.length = 0) := ⟨HF3.out, MkS.nil hst, rfl, rfl⟩
  clear HF3
  go_upto_region 4 with (fail)
  go_cut [8] from 21 to 23 (fun v8 wx => v8 = .int .i64 (N : Int) ∧ W3 = wx)
  case first =>
    by_cases h40 : len1 ≤ 40
    · have e : N = len1 := by omega
      go_wp2_with fail
      go_meet
      exact ⟨by rw [e] <;> rfl, rfl⟩
    · have e : N = 40 := by omega
      go_wp2_with fail
      go_meet
      exact ⟨by rw [e] <;> rfl, rfl⟩
  case rest =>
    obtain ⟨rfl, rfl⟩ := hcut
    have HNN := Lib.hid hN1
    clear hN
    go_upto_region 7 with (fail)
    obtain ⟨wo, rfl⟩ : ∃ wo : World, wo = W3 := ⟨_, rfl⟩
    go_loopw [9, 10, 25] (fun v9 _ v25 wr => ∃ (i b : Nat) (s : FS), v9 = .int .i64 (b : Int) ∧ v25 = .int .i64 (i : Int) ∧ i ≤ N ∧ b ≤ 256 * i ∧ Hid (FV R W2 p (fun _ => False) s wr ∧ MkS st i 0 b s ∧ s.fresh = true ∧ s.ms.length = i)) (fun _ _ v25 _ => N - (intOf v25).toNat)
    case atStart => exact ⟨0, 0, _, rfl, rfl, by omega, by omega, HL0⟩
    case round =>
      clear HL0
      obtain ⟨i, b, s, rfl, rfl, hi, hbi, HL⟩ := hrel
      by_cases hlt : i < N
      · obtain ⟨a, d, rfl, hd, hcz⟩ := HZ.out i (by omega)
        have HCZ := Lib.hid hcz
        have cz := hcz wr (HB2.out.trans (HL.out.1.bel.mono HB2.out.size))
        clear hcz
        obtain ⟨k, hk⟩ : ∃ k : Nat, k = 1 + d := ⟨_, rfl⟩
        have hkb : 1 ≤ k ∧ k ≤ 256 := by omega
        have hkd : (1 : Int) + (d : Int) = (k : Int) := by omega
        have hdb : -9223372036854775808 ≤ (d : Int) ∧ (d : Int) ≤ 9223372036854775807 := by omega
        have hdb1 : -9223372036854775808 ≤ (1 : Int) + (d : Int) ∧ (1 : Int) + (d : Int) ≤ 9223372036854775807 := by omega
        clear hk
        have hmk := fun W : World => run_make_rowN (P := Try.prog) 23 5 i0 (.int .u8 0) Try.underlying23 hi0 hz0 .i64 .i64 k k (Nat.le_refl _) (by rw [hz2]; omega) (by omega) W
        rw [hz1, Nat.mul_one] at hmk
        have hsend := HL.out.1.sendX I (below_one wr (.cells (madeCells #[.int .u8 0] k) 5)) (c := fK (zlF k)) (now := 0) (m := (i : Int)) (lk := 0) (ln := 0) HL.out.2.2.1 (by rw [HL.out.2.2.2]; omega) (by omega) (by omega) (by omega) (by omega) (fK_bare _) (fK_ok _) (by show (zlF k).length ≤ _; rw [zlF_len]; omega) (n := k) (zlF_len k).symm (Nat.le_refl _) (byt_zerosF wr k (by omega))
        have hb1 : b ≤ 20000 := by have := HNN.out; omega
        obtain ⟨m, hm⟩ : ∃ m, m = b + k := ⟨_, rfl⟩
        have hbk : (b : Int) + (k : Int) = (m : Int) := by omega
        have hmb : m ≤ 256 * (i + 1) := by omega
        have hmb2 : m ≤ 20000 := by have := HNN.out; omega
        go_wp2_with (refine wpList_build_as rfl 35 _ rfl (bareA (fK (zlF k)) (some ⟨wr.heap.size, 0, none⟩) k k) (built_fK _ _ _ _) ?_)
        refine hsend.mono ?_
        rintro e W5 ⟨A5, c5, rfl, HF5, _⟩
        obtain ⟨s5, hs5⟩ : ∃ s5, s5 = s.send (i : Int) 0 0 (fK (zlF k)) 0 := ⟨_, rfl⟩
        have HL5 : Hid (FV R W2 p (fun _ => False) s5 W5 ∧ MkS st (i + 1) 0 m s5 ∧ s5.fresh = true ∧ s5.ms.length = i + 1) := by
          rw [hs5, hm]
          exact ⟨HF5.out, HL.out.2.1.snoc (zlF_len k) hkb.1, HL.out.2.2.1, by show (_ :: s.ms).length = _; rw [List.length_cons, HL.out.2.2.2]⟩
        have cz5 := HCZ.out W5 (HB2.out.trans (HF5.out.bel.mono HB2.out.size))
        clear hsend HF5 HL hs5 hm
        go_wp2_with fail
        go_roundw
        case rel => exact ⟨i + 1, m, s5, by go_num, by go_num, by omega, hmb, HL5⟩
        case measure => simp [intOf]; omega
      · have hiN : i = N := by omega
        subst hiN
        have HL2 : Hid (FV R W2 p (fun _ => False) s wr ∧ MkS st i 0 b s) := ⟨HL.out.1, HL.out.2.1⟩
        have hbb : b ≤ 20000 := by have := HNN.out; omega
        clear HL hlt hbi hi
        go_upto_region 13 with (fail)
        obtain ⟨wp, rfl⟩ : ∃ wp : World, wp = wr := ⟨_, rfl⟩
        go_loopw [9, 11, 12, 13, 14, 15, 16, 51] (fun v9 _ _ _ _ _ _ v51 wr => ∃ (j u b : Nat) (s : FS), v9 = .int .i64 (b : Int) ∧ v51 = .int .i64 (j : Int) ∧ j ≤ nB ∧ b ≤ 20000 ∧ Hid (FV R W2 p (fun _ => False) s wr ∧ MkS st i u b s)) (fun _ _ _ _ _ _ _ v51 _ => nB - (intOf v51).toNat)
        case atStart => exact ⟨0, 0, b, s, rfl, rfl, by omega, hbb, HL2⟩
        case round =>
          clear HL2 hbb
          obtain ⟨j, u, b, s, rfl, rfl, hj, hb, HL⟩ := hrel
          by_cases hjt : j < nB
          · obtain ⟨ad, x, y, rfl, hx, hy, hel⟩ := HSK.out.2 (HB2.out.trans (HL.out.1.bel.mono HB2.out.size)) j hjt
            go_upto_region 15 with (first | (refine wpList_load_any rfl 59 _ rfl _ rfl #[.int .u8 (x : Int), .int .u8 (y : Int)] _ hel Try.underlying59 rfl (by kernel_rfl) ?_))
            obtain ⟨W14, hW14⟩ : ∃ W14, W14 = wr.alloc (.cells #[.int .u8 (x : Int), .int .u8 (y : Int)] 59) := ⟨_, rfl⟩
            obtain ⟨g12, hg12⟩ : ∃ g12, g12 = wr.heap.size := ⟨_, rfl⟩
            have HB14 : Hid (Below wr.heap.size wr W14) := by rw [hW14]; exact below_one _ _
            have HK12 : Hid (Blk W14 g12 59 #[.int .u8 (x : Int), .int .u8 (y : Int)]) := by rw [hW14, hg12]; exact Blk.new _ _ _
            have HG12 : Hid (wr.heap.size ≤ g12) := Nat.le_of_eq hg12.symm
            rw [← hW14, ← hg12]
            clear hW14 hg12
            by_cases h60 : 60 ≤ j
            · go_wp2_with fail
              go_ret
              exact ⟨rfl, HB2.out.trans ((HL.out.1.bel.trans (HB14.out.mono HL.out.1.bel.size)).mono HB2.out.size)⟩
            · obtain ⟨T, hT⟩ : ∃ T, T = (st + 4294967295 + x) % 4294967296 := ⟨_, rfl⟩
              obtain ⟨t1, ht1⟩ : ∃ t1, t1 = (st + 4294967295) % 4294967296 := ⟨_, rfl⟩
              have hT0 : IntKind.u32.wrap (x : Int) = (x : Int) := by rw [IntKind.wrap_u32]; omega
              have hT1 : IntKind.u32.wrap ((st : Int) - 1) = (t1 : Int) := by rw [IntKind.wrap_u32]; omega
              have hT2 : IntKind.u32.wrap ((t1 : Int) + (x : Int)) = (T : Int) := by rw [IntKind.wrap_u32]; omega
              have hT3 : T < 4294967296 := by omega
              have HT := Lib.hid hT
              clear hT ht1
              have d120 := HK12.out.cell 0
              have d121 := HK12.out.cell 1
              simp only [List.getElem?_toArray, List.getElem?_cons_succ, List.getElem?_cons_zero] at d120 d121
              go_upto_region 17 with (first
                | (refine wpList_build_as rfl 35 _ rfl (ckArr (skK T []) nilV nilV nilV nilV nilV) (built_sk _) ?_)
                | (with_reducible refine wpList_alloc_run _ rfl 35 rfl (alloc_zk _) ?_)
                | (refine wpList_store_row rfl 35 _ _ rfl _ (ckArr (skK T []) nilV nilV nilV nilV nilV) rfl rfl 35 (ckArr (zeroC 0) nilV nilV nilV nilV nilV) (Blk.new _ _ _) rfl rfl (skK_one _ _ []) ?_))
              try simp only [Act.put, List.setIfInBounds_toArray, List.set_cons_zero, List.set_cons_succ]
              obtain ⟨W16, hW16⟩ : ∃ W16, W16 = (W14.alloc (.cells (ckArr (zeroC 0) nilV nilV nilV nilV nilV) 35)).setRow W14.heap.size (ckArr (skK T []) nilV nilV nilV nilV nilV) := ⟨_, rfl⟩
              obtain ⟨g13, hg13⟩ : ∃ g13, g13 = W14.heap.size := ⟨_, rfl⟩
              have hb16 : Below W14.heap.size W14 W16 := by rw [hW16]; exact below_setRow (below_one W14 _) (Nat.le_refl _) _
              have HK13 : Hid (CkBlk W16 g13 (ckArr (skK T []) nilV nilV nilV nilV nilV)) := by rw [hW16, hg13]; exact setRow_heap _ _ _ _ _ _ (Blk.new W14 _ _)
              have HG13 : Hid (wr.heap.size ≤ g13 ∧ g12 ≠ g13) := ⟨by rw [hg13]; exact HB14.out.size, by have := HK12.out.lt; omega⟩
              have HB16 : Hid (Below wr.heap.size wr W16) := HB14.out.trans (hb16.mono HB14.out.size)
              have HK12b : Hid (Blk W16 g12 59 #[.int .u8 (x : Int), .int .u8 (y : Int)]) := blk_below HK12.out hb16
              rw [← hW16, ← hg13]
              clear hW16 hg13 hb16 HK12 HB14 hT0 hT1 hT2 d120 d121
              have c120 := HK12b.out.cell 0
              have c121 := HK12b.out.cell 1
              simp only [List.getElem?_toArray, List.getElem?_cons_succ, List.getElem?_cons_zero] at c120 c121
              go_cut [67] from 65 to 67 (fun v67 wx => ∃ b : Bool, v67 = .bool b ∧ Hid (b = decide (2 ≤ y)) ∧ W16 = wx)
              case first =>
                go_wp2_with fail
                go_meet
                refine ⟨_, rfl, ?_, rfl⟩
                show decide _ = decide _
                exact decide_eq_decide.2 (by omega)
              case rest =>
                obtain ⟨by2, rfl, HBY, rfl⟩ := hcut
                go_step
                go_cut [13] from 68 to 81 (fun v13 wx => v13 = .pointer (some ⟨g13, 0, none⟩) ∧ ∃ gv : Value, Hid (Below wr.heap.size wr wx ∧ Blk wx g12 59 #[.int .u8 (x : Int), .int .u8 (y : Int)] ∧ CkBlk wx g13 (ckArr (skK T (gsY y)) gv nilV nilV nilV nilV) ∧ GpV wr wx y gv))
                case first =>
                  cases by2
                  · have hy2 : ¬ 2 ≤ y := of_decide_eq_false HBY.out.symm
                    have HQ : Hid (Below wr.heap.size wr W16 ∧ Blk W16 g12 59 #[.int .u8 (x : Int), .int .u8 (y : Int)] ∧ CkBlk W16 g13 (ckArr (skK T (gsY y)) nilV nilV nilV nilV nilV) ∧ GpV wr W16 y nilV) := by
                      have e : gsY y = [] := by unfold gsY; rw [if_neg hy2]
                      rw [e]
                      exact ⟨HB16.out, HK12b.out, HK13.out, .inl ⟨by omega, rfl⟩⟩
                    go_wp2_with fail
                    go_meet
                    exact ⟨rfl, nilV, HQ⟩
                  · have hy2 : 2 ≤ y := of_decide_eq_true HBY.out.symm
                    have hb17 := below_one W16 (.cells #[.int .u16 (y : Int), .int .u16 ((y : Int) + (y : Int) % 3)] 42)
                    have HK17 := Lib.hid (blk_below HK13.out hb17)
                    have HQ : Hid (Below wr.heap.size wr ((W16.alloc (.cells #[.int .u16 (y : Int), .int .u16 ((y : Int) + (y : Int) % 3)] 42)).setCell ⟨g13, 14, none⟩ (.slice (some ⟨W16.heap.size, 0, none⟩) 1 1)) ∧ Blk ((W16.alloc (.cells #[.int .u16 (y : Int), .int .u16 ((y : Int) + (y : Int) % 3)] 42)).setCell ⟨g13, 14, none⟩ (.slice (some ⟨W16.heap.size, 0, none⟩) 1 1)) g12 59 #[.int .u8 (x : Int), .int .u8 (y : Int)] ∧ CkBlk ((W16.alloc (.cells #[.int .u16 (y : Int), .int .u16 ((y : Int) + (y : Int) % 3)] 42)).setCell ⟨g13, 14, none⟩ (.slice (some ⟨W16.heap.size, 0, none⟩) 1 1)) g13 (ckArr (skK T (gsY y)) (.slice (some ⟨W16.heap.size, 0, none⟩) 1 1) nilV nilV nilV nilV) ∧ GpV wr ((W16.alloc (.cells #[.int .u16 (y : Int), .int .u16 ((y : Int) + (y : Int) % 3)] 42)).setCell ⟨g13, 14, none⟩ (.slice (some ⟨W16.heap.size, 0, none⟩) 1 1)) y (.slice (some ⟨W16.heap.size, 0, none⟩) 1 1)) := by
                      have hf := (Fr.refl (fun k => k = g13) (W16.alloc (.cells #[.int .u16 (y : Int), .int .u16 ((y : Int) + (y : Int) % 3)] 42))).setCell (p := ⟨g13, 14, none⟩) (.inl rfl) (.slice (some ⟨W16.heap.size, 0, none⟩) 1 1)
                      have hlt13 := HK13.out.lt
                      refine ⟨below_fr (HB16.out.trans (hb17.mono HB16.out.size)) hf (Nat.le_refl _) (fun i e => by rw [show i = g13 from e]; exact HG13.out.1), hf.blk (blk_below HK12b.out hb17) (fun e => HG13.out.2 e), HK17.out.set_ 14 _, .inr ⟨hy2, _, rfl, HB16.out.size, ?_⟩⟩
                      rw [show ((y + y % 3 : Nat) : Int) = (y : Int) + (y : Int) % 3 by omega]
                      exact hf.blk (Blk.new W16 _ _) (fun e => by have e' : W16.heap.size = g13 := e; omega)
                    have f14 := HK17.out.frozen 14
                    have e14 : (W16.alloc (.cells #[.int .u16 (y : Int), .int .u16 ((y : Int) + (y : Int) % 3)] 42)).cell? ⟨g13, 14, none⟩ = some nilV := HK17.out.cell 14
                    clear hb17
                    go_wp2_with fail
                    go_meet
                    exact ⟨rfl, _, HQ⟩
                case rest =>
                  obtain ⟨rfl, gv, HQ⟩ := hcut
                  clear HK13 HK12b HB16 HBY c120 c121
                  have HF17 : Hid (FV R W2 p (fun i => wr.heap.size ≤ i ∧ i < wc.heap.size) s wc) := HL.out.1.more I HQ.out.1 (fun i hi => .inr hi)
                  go_wp2_with fail
                  refine (HF17.out.markB I).mono ?_
                  rintro e W18 ⟨rfl, HF18, HB18⟩
                  go_wp2_with fail
                  refine (HF18.out.leftB I).mono ?_
                  rintro e W19 ⟨rfl, HF19, HB19⟩
                  have HB19b : Hid (Below wc.heap.size wc W19) := HB18.out.trans (HB19.out.mono HB18.out.size)
                  have HQ19 : Hid (Blk W19 g12 59 #[.int .u8 (x : Int), .int .u8 (y : Int)] ∧ CkBlk W19 g13 (ckArr (skK T (gsY y)) gv nilV nilV nilV nilV) ∧ GpV wr W19 y gv) := ⟨blk_below HQ.out.2.1 HB19b.out, blk_below HQ.out.2.2.1 HB19b.out, HQ.out.2.2.2.below HB19b.out⟩
                  obtain ⟨D, hD⟩ : ∃ D, D = (x + 4294967296 - u) % 4294967296 := ⟨_, rfl⟩
                  obtain ⟨u', b', hR⟩ := HL.out.2.step (y := y) HNN.out.2 hx HT.out hD
                  have HR := Lib.hid hR
                  have HMK := Lib.hid HL.out.2
                  have HD := Lib.hid hD
                  have HCK : Hid (CkAt W19 W19.heap.size (ckArr (skK T (gsY y)) gv nilV nilV nilV nilV) (skK T (gsY y))) := HQ19.out.2.2.at_ hT3 hy
                  have HACK := Lib.hid (HF19.out.ack I (Below.refl _ _) (now := 9) (by omega) HCK.out (fun ad n cp e => by
                    have e' : (some gv : Option Value) = some (.slice (some ad) n cp) := e
                    injection e' with e'
                    obtain ⟨h1, h2⟩ := HQ.out.2.2.2.lie e'
                    exact .inl ⟨h1, h2⟩))
                  obtain ⟨M, hM⟩ : ∃ M, M = s.mark := ⟨_, rfl⟩
                  obtain ⟨lf, hlf⟩ : ∃ lf, lf = s.left := ⟨_, rfl⟩
                  have HM := Lib.hid hM
                  have HLF := Lib.hid hlf
                  rw [← hM, ← hlf]
                  clear hR hD hM hlf HCK HF18 HB18 HB19 HF17 HL
                  go_wp2_with (refine wpList_load_row rfl 35 _ rfl g13 rfl 35 (ckArr (skK T (gsY y)) gv nilV nilV nilV nilV) (0, 0) _ HQ19.out.2.1 Try.underlying35 rfl chunk_info ?_)
                  refine HACK.out.mono ?_
                  rintro e W20 ⟨rfl, HF20, HK20⟩
                  clear HACK
                  obtain ⟨s', hs'⟩ : ∃ s', s' = (ackF 9 s (skK T (gsY y))).1 := ⟨_, rfl⟩
                  obtain ⟨ak, hak⟩ : ∃ ak, ak = (ackF 9 s (skK T (gsY y))).2 := ⟨_, rfl⟩
                  rw [← hs'] at HF20
                  rw [← hs', ← hak] at HR
                  rw [← hak]
                  clear hs' hak
                  have HP20 : Hid (Blk W20 g12 59 #[.int .u8 (x : Int), .int .u8 (y : Int)] ∧ CkBlk W20 g13 (ckArr (skK T (gsY y)) gv nilV nilV nilV nilV) ∧ GpV wr W20 y gv) := by
                    have hl12 := HQ.out.2.1.lt
                    have hl13 := HQ.out.2.2.1.lt
                    refine ⟨HK20.out.blk HQ19.out.1 (fun e => e ⟨HG12.out, hl12⟩), HK20.out.blk HQ19.out.2.1 (fun e => e ⟨HG13.out.1, hl13⟩), ?_⟩
                    rcases HQ.out.2.2.2 with h | ⟨h1, g, h2, h3, h4⟩
                    · exact .inl h
                    · exact .inr ⟨h1, g, h2, h3, HK20.out.blk (blk_below h4 HB19b.out) (fun e => e ⟨h3, h4.lt⟩)⟩
                  clear HK20 HQ19 HB19b HF19 HQ
                  obtain ⟨kb, kon, kl, kr, kx⟩ := ak
                  go_upto_region 21 with (fail)
                  obtain ⟨W21, hW21⟩ : ∃ W21, W21 = W20.alloc (.cells #[.int .i64 (kb : Int), .bool kon, .bool kl, .int .i64 kr, .bool kx] 44) := ⟨_, rfl⟩
                  obtain ⟨g16, hg16⟩ : ∃ g16, g16 = W20.heap.size := ⟨_, rfl⟩
                  have hb21 : Below W20.heap.size W20 W21 := by rw [hW21]; exact below_one _ _
                  have HK16 : Hid (Blk W21 g16 44 #[.int .i64 (kb : Int), .bool kon, .bool kl, .int .i64 kr, .bool kx]) := by rw [hW21, hg16]; exact Blk.new _ _ _
                  have HP21 : Hid (Blk W21 g12 59 #[.int .u8 (x : Int), .int .u8 (y : Int)] ∧ CkBlk W21 g13 (ckArr (skK T (gsY y)) gv nilV nilV nilV nilV) ∧ GpV wr W21 y gv) := ⟨blk_below HP20.out.1 hb21, blk_below HP20.out.2.1 hb21, HP20.out.2.2.below hb21⟩
                  have HF21 : Hid (FV R W2 p (fun _ => False) s' W21) := HF20.out.more I hb21 (fun i h => h.elim)
                  rw [← hW21, ← hg16]
                  clear hW21 hg16 hb21 HP20 HF20
                  have c164 := HK16.out.cell 4
                  have c160 := HK16.out.cell 0
                  have c135 := HP21.out.2.1.cell 5
                  have c1314 := HP21.out.2.1.cell 14
                  have c120 := HP21.out.1.cell 0
                  simp only [List.getElem?_toArray, List.getElem?_cons_succ, List.getElem?_cons_zero] at c164 c160 c120
                  have c135' : W21.cell? ⟨g13, 5, none⟩ = some (.int .u32 (T : Int)) := c135
                  have c1314' : W21.cell? ⟨g13, 14, none⟩ = some gv := c1314
                  clear c135 c1314
                  go_cut [136] from 89 to 136 (fun v136 wx => v136 = .bool false ∧ Hid (∃ m, wx = W21.drewN m))
                  case first =>
                    have m1 : M = (st + 4294967295 + u) % 4294967296 := HM.out.trans HMK.out.mark
                    have hun : u ≤ i := HMK.out.un
                    have hi40 : i ≤ 40 := HNN.out.2
                    have hT9 := HT.out
                    have hD9 := HD.out
                    have hans : kx = !decide (D ≤ i - u ∧ (2 ≤ y → x + (y + y % 3) ≤ i)) := HR.out.ans
                    obtain ⟨K, hK⟩ : ∃ K, K = i - u := ⟨_, rfl⟩
                    obtain ⟨E, hE⟩ : ∃ E, E = (u + 4294967295) % 4294967296 := ⟨_, rfl⟩
                    have hKi : K ≤ i := by omega
                    have h94 : IntKind.u32.wrap ((T : Int) - (M : Int)) = (D : Int) := by rw [IntKind.wrap_u32]; omega
                    have h96 : IntKind.u32.wrap (i : Int) = (i : Int) := by rw [IntKind.wrap_u32]; omega
                    have h101 : IntKind.u32.wrap (x : Int) = (x : Int) := by rw [IntKind.wrap_u32]; omega
                    have h104 : IntKind.u32.wrap ((M : Int) - (st : Int)) = (E : Int) := by rw [IntKind.wrap_u32]; omega
                    have h105 : IntKind.u32.wrap ((E : Int) + 1) = (u : Int) := by rw [IntKind.wrap_u32]; omega
                    have h106 : IntKind.u32.wrap ((x : Int) - (u : Int)) = (D : Int) := by rw [IntKind.wrap_u32]; omega
                    have h113 : IntKind.u32.wrap ((i : Int) - (u : Int)) = (K : Int) := by rw [IntKind.wrap_u32]; omega
                    rw [← hK] at hans
                    have HANS := Lib.hid hans
                    clear m1 hun hT9 hD9 hK hE hans HR HMK HD HT HM HLF
                    by_cases hA : i < D
                    · obtain rfl : kx = true := by rw [HANS.out, decide_eq_false (fun e => by have := e.1; omega)]; rfl
                      have hd1 : decide ((i : Int) < (D : Int)) = true := decide_eq_true (by omega)
                      go_quiet (fail)
                      go_wp2_with fail
                      go_meet
                      exact ⟨rfl, _, rfl⟩
                    · have hd1 : decide ((i : Int) < (D : Int)) = false := decide_eq_false (by omega)
                      by_cases hB : K < D
                      · obtain rfl : kx = true := by rw [HANS.out, decide_eq_false (fun e => by have := e.1; omega)]; rfl
                        have hd2 : decide ((K : Int) < (D : Int)) = true := decide_eq_true (by omega)
                        go_quiet (fail)
                        go_wp2_with fail
                        go_meet
                        exact ⟨rfl, _, rfl⟩
                      · have hd2 : decide ((K : Int) < (D : Int)) = false := decide_eq_false (by omega)
                        rcases HP21.out.2.2 with ⟨hy1, rfl⟩ | ⟨hy1, gg, rfl, _, hgg⟩
                        · obtain rfl : kx = false := by rw [HANS.out, decide_eq_true ⟨by omega, fun e => by omega⟩]; rfl
                          go_quiet (fail)
                          go_wp2_with fail
                          go_meet
                          exact ⟨rfl, _, rfl⟩
                        · obtain ⟨tq, htq⟩ : ∃ tq, tq = y + y % 3 := ⟨_, rfl⟩
                          have HGG := Lib.hid hgg
                          have cg1 : W21.cell? ⟨gg, 1, none⟩ = some (.int .u16 (tq : Int)) := by rw [htq]; exact HGG.out.cell 1
                          have htb : tq < 512 := by omega
                          rw [← htq] at HANS
                          clear hgg htq
                          by_cases hC : i < x + tq
                          · obtain rfl : kx = true := by rw [HANS.out, decide_eq_false (fun e => by have := e.2 hy1; omega)]; rfl
                            have hd3 : decide ((i : Int) < (x : Int) + (tq : Int)) = true := decide_eq_true (by omega)
                            go_quiet (fail)
                            go_wp2_with fail
                            go_meet
                            exact ⟨rfl, _, rfl⟩
                          · obtain rfl : kx = false := by rw [HANS.out, decide_eq_true ⟨by omega, fun e => by omega⟩]; rfl
                            have hd3 : decide ((i : Int) < (x : Int) + (tq : Int)) = false := decide_eq_false (by omega)
                            go_quiet (fail)
                            go_wp2_with fail
                            go_meet
                            exact ⟨rfl, _, rfl⟩
                  case rest =>
                    obtain ⟨rfl, HW⟩ := hcut
                    obtain ⟨wd, hwd⟩ : ∃ wd, wd = wc := ⟨_, rfl⟩
                    have HF22 : Hid (FV R W2 p (fun _ => False) s' wc) := by
                      obtain ⟨m, e⟩ := HW.out
                      rw [e]
                      exact HF21.out.more I (below_drewN (Below.refl _ _) m) (fun i h => h.elim)
                    have HK22 : Hid (Blk wc g16 44 #[.int .i64 (kb : Int), .bool kon, .bool kl, .int .i64 kr, .bool kx]) := by
                      obtain ⟨m, e⟩ := HW.out
                      rw [e]
                      exact HK16.out
                    clear HK16 HP21 HF21 HW c164 c160 c120 c135' c1314' hwd
                    obtain ⟨M', hM'⟩ : ∃ M', M' = s'.mark := ⟨_, rfl⟩
                    obtain ⟨lf', hlf'⟩ : ∃ lf', lf' = s'.left := ⟨_, rfl⟩
                    have HMP := Lib.hid hM'
                    have HLP := Lib.hid hlf'
                    have m1 : M = (st + 4294967295 + u) % 4294967296 := HM.out.trans HMK.out.mark
                    have m2 : M' = (st + 4294967295 + u') % 4294967296 := hM'.trans HR.out.st.mark
                    have hun : u' ≤ i := HR.out.st.un
                    have hle : u ≤ u' := HR.out.le
                    have hi40 : i ≤ 40 := HNN.out.2
                    have hby : b' + kb = b := HR.out.by_
                    have hl1 : lf' ≤ lf := by rw [hlf', HLF.out]; exact HR.out.left
                    have hl0 : lf' = 0 ↔ b' = 0 := by rw [hlf']; exact HR.out.st.left
                    obtain ⟨V, hVe⟩ : ∃ V, V = u' - u := ⟨_, rfl⟩
                    have hVi : V ≤ i := by omega
                    have hV : IntKind.u32.wrap ((M' : Int) - (M : Int)) = (V : Int) := by rw [IntKind.wrap_u32]; omega
                    have h96 : IntKind.u32.wrap (i : Int) = (i : Int) := by rw [IntKind.wrap_u32]; omega
                    have hbk : (b : Int) - (kb : Int) = (b' : Int) := by omega
                    have hkb : kb ≤ 20000 ∧ b' ≤ 20000 := by omega
                    have hkb1 : kb ≤ 20000 := by omega
                    have hbad : kx = true → M' = M ∧ lf' = lf ∧ kb = 0 := fun e => by
                      obtain ⟨e1, e2, _⟩ := HR.out.bad e
                      exact ⟨by rw [hM', e1, HM.out], by rw [hlf', e1, HLF.out], e2⟩
                    have HST : Hid (MkS st i u' b' s') := HR.out.st
                    have h9 : (lf' = 0 ∧ b' = 0) ∨ (((lf' : Int) == 0) = false ∧ ((b' : Int) == 0) = false) := by
                      by_cases e : lf' = 0
                      · exact .inl ⟨e, hl0.1 e⟩
                      · exact .inr ⟨beq_no (by omega), beq_no (by omega)⟩
                    have H9 := Lib.hid h9
                    have HBAD := Lib.hid hbad
                    clear h9 hbad hl0 hby m1 m2 hun hle hVe hM' hlf' HR HMK HD HT HM HLF
                    have c4 := HK22.out.cell 4
                    have c0 := HK22.out.cell 0
                    simp only [List.getElem?_toArray, List.getElem?_cons_succ, List.getElem?_cons_zero] at c4 c0
                    cases kx
                    · go_wp2_with fail
                      refine (HF22.out.markB I).mono ?_
                      rintro e W23 ⟨rfl, HF23, HB23⟩
                      rw [← HMP.out]
                      go_wp2_with fail
                      refine (HF23.out.leftB I).mono ?_
                      rintro e W24 ⟨rfl, HF24, HB24⟩
                      rw [← HLP.out]
                      go_wp2_with fail
                      refine (HF24.out.leftB I).mono ?_
                      rintro e W25 ⟨rfl, HF25, HB25⟩
                      rw [← HLP.out]
                      have HL25 : Hid (FV R W2 p (fun _ => False) s' W25 ∧ MkS st i u' b' s') := ⟨HF25.out, HST.out⟩
                      rcases H9.out with ⟨rfl, rfl⟩ | ⟨e1, e2⟩
                      · go_wp2_with fail
                        go_roundw
                        case rel => exact ⟨j + 1, u', 0, s', by go_num, by go_num, by omega, by omega, HL25⟩
                        case measure => simp [intOf]; omega
                      · go_wp2_with fail
                        go_roundw
                        case rel => exact ⟨j + 1, u', b', s', by go_num, by go_num, by omega, by omega, HL25⟩
                        case measure => simp [intOf]; omega
                    · obtain ⟨b1, b2, b3⟩ := HBAD.out rfl
                      have hne : ((M' : Int) != (M : Int)) = false := by rw [b1]; simp
                      have hne2 : ((lf' : Int) != (lf : Int)) = false := by rw [b2]; simp
                      have hne3 : ((kb : Int) != 0) = false := by rw [b3]; rfl
                      clear b1 b2 b3
                      go_wp2_with fail
                      refine (HF22.out.markB I).mono ?_
                      rintro e W23 ⟨rfl, HF23, HB23⟩
                      rw [← HMP.out]
                      go_wp2_with fail
                      refine (HF23.out.leftB I).mono ?_
                      rintro e W24 ⟨rfl, HF24, HB24⟩
                      rw [← HLP.out]
                      have HK24 := Lib.hid (blk_below (blk_below HK22.out HB23.out) HB24.out)
                      have d0 := HK24.out.cell 0
                      simp only [List.getElem?_toArray, List.getElem?_cons_succ, List.getElem?_cons_zero] at d0
                      go_wp2_with fail
                      refine (HF24.out.markB I).mono ?_
                      rintro e W25 ⟨rfl, HF25, HB25⟩
                      rw [← HMP.out]
                      go_wp2_with fail
                      refine (HF25.out.leftB I).mono ?_
                      rintro e W26 ⟨rfl, HF26, HB26⟩
                      rw [← HLP.out]
                      go_wp2_with fail
                      refine (HF26.out.leftB I).mono ?_
                      rintro e W27 ⟨rfl, HF27, HB27⟩
                      rw [← HLP.out]
                      have HL27 : Hid (FV R W2 p (fun _ => False) s' W27 ∧ MkS st i u' b' s') := ⟨HF27.out, HST.out⟩
                      rcases H9.out with ⟨rfl, rfl⟩ | ⟨e1, e2⟩
                      · go_wp2_with fail
                        go_roundw
                        case rel => exact ⟨j + 1, u', 0, s', by go_num, by go_num, by omega, by omega, HL27⟩
                        case measure => simp [intOf]; omega
                      · go_wp2_with fail
                        go_roundw
                        case rel => exact ⟨j + 1, u', b', s', by go_num, by go_num, by omega, by omega, HL27⟩
                        case measure => simp [intOf]; omega
          · go_wp2_with fail
            go_ret
            exact ⟨rfl, HB2.out.trans (HL.out.1.bel.mono HB2.out.size)⟩
end Go.Proofs.Yteobobodangbgaa.flightMarks
