/-
  Of the texts FlightTimesWalk: what the laws reach.
-/
import Derived.Test.YteobobodangbgaaRows
import Derived.Test.YteobobodangbgaaFA8
import Derived.WalkKit
import Derived.ProofKit
import Derived.OpenShut
import Derived.ShutString
import Derived.ChangeOld
import Derived.Below

namespace Go.Proofs.Yteobobodangbgaa.flightTimes
open Go.ChangeShapes Go.WideShapes Go.ChangeAt Go.RowKit
open Go.ChangeMaps (open_string shut_string)
set_option linter.unusedVariables false
set_option linter.unusedSimpArgs false
theorem own : ownKnob Try.prog.godebug = none := by kernel_rfl
theorem laidOut : laidOutB Try.prog = true := by kernel_rfl
/-- What the walk is told of a slice of integers that came in. -/
def IsRow (k : IntKind) (w : World) (a : Option Addr) (len cap : Nat) (zs : List Int) : Prop :=
  (a = none ∧ len = 0 ∧ cap = 0 ∧ zs = []) ∨
  ∃ x, a = some x ∧ len ≤ cap ∧ cap ≤ maxLen ∧ zs.length = cap ∧ (∀ i, i < zs.length → w.cell? (x.add i) = some (.int k (zs.getD i 0))) ∧ ∀ n ∈ zs, (Lit.int k n).wf = true
open Words Oct Par Chk Fl
set_option maxHeartbeats 8000000 in
set_option maxRecDepth 100000 in
theorem walk {R : World → (Nat → Prop) → Nat → Fl.FS → Prop} (I : Fl.FlI R) (a0 : Int) (a1 : Int) (a2 : Int) (w : World) (w0 : (Lit.int .u32 a0).wf = true) (w1 : (Lit.int .i64 a1).wf = true) (w2 : (Lit.int .i64 a2).wf = true) :
    Calls Try.prog 4 #[.int .u32 a0, .int .i64 a1, .int .i64 a2] w fun e w' => e = .returned (.bool true) ∧ Below w.heap.size w w' := by
  have hw0 := bounds_u32 w0
  have hw1 := bounds_i64 w1
  have hw2 := bounds_i64 w2
  have kc := fun (w : World) (C : Array Value) (n c : Nat) => Lib.run_convert_bytes_const (P := Try.prog) w 23 5 C n c Try.underlying23 Try.underlying5
  obtain ⟨k, hk⟩ : ∃ k : Nat, k = (a0 % 20).toNat := ⟨_, rfl⟩
  have hk1 : a0 % 20 = (k : Int) := by omega
  have hk2 : k < 20 := by omega
  obtain ⟨x1, e1, h1⟩ := u64rem a1 5 (by omega) (by omega)
  obtain ⟨pn, hpn⟩ : ∃ pn : Nat, pn = 1 + x1 := ⟨_, rfl⟩
  have hpb : 1 ≤ pn ∧ pn ≤ 5 := by omega
  have hpe : (1 : Int) + (x1 : Int) = (pn : Int) := by omega
  have hpw : wrap64 ((1 : Int) + (x1 : Int)) = (pn : Int) := by rw [hpe]; exact IntWalk.wrap64_in _ (by omega)
  have hkw : IntKind.u32.wrap (k : Int) = (k : Int) := by rw [IntKind.wrap_u32]; omega
  clear hk hpn
  go_enter Try.func4, Try.ntmps4
  go_wp2_with fail
  refine (first_f I w).mono ?_
  rintro e W2 ⟨rfl, hb2⟩
  have HB2 := Lib.hid hb2
  clear hb2
  go_upto_region 5 with (fail)
  rw [hk1]
  clear hk1 e1 h1 hpe hpw hw0 hw1
  go_wp2_with fail
  refine (FV.new I (S := fun _ => False) W2 W2 (Below.refl _ _) (fun i h => h.elim) 100 (by omega)).mono ?_
  rintro e W3 ⟨p, rfl, HF3, _⟩
  have HL0 : Hid (FV R W2 p (fun _ => False) (fs0 100) W3 ∧ TmS k pn a2 0 (fun _ => 1) (fun _ => 0) (fs0 100)) := ⟨HF3.out, TmS.nil⟩
  clear HF3
  go_upto_region 7 with (fail)
  obtain ⟨wo, rfl⟩ : ∃ wo : World, wo = W3 := ⟨_, rfl⟩
  go_loopw [10, 34] (fun _ v34 wr => ∃ (j : Nat) (s : FS), v34 = .int .i64 (j : Int) ∧ j ≤ pn ∧ Hid (FV R W2 p (fun _ => False) s wr ∧ TmS k pn a2 j (fun _ => 1) (fun _ => 0) s)) (fun _ v34 _ => pn - (intOf v34).toNat)
  case atStart => exact ⟨0, _, rfl, by omega, HL0⟩
  case round =>
    clear HL0
    obtain ⟨j, s, rfl, hj, HL⟩ := hrel
    by_cases hlt : j < pn
    · have hw32 : IntKind.u32.wrap (j : Int) = (j : Int) := by rw [IntKind.wrap_u32]; omega
      have hsend := HL.out.1.sendX I (below_one wr (.cells #[.int .u8 120] 5 (1, 2))) (c := tmK j) (now := 0) (m := 7) (lk := 1) (ln := k) HL.out.2.fresh (by rw [HL.out.2.ms]; omega) (by omega) (by omega) (by omega) (by omega) ⟨rfl, rfl, rfl, rfl⟩ (tmK_ok (by omega)) (by show 1 ≤ _; omega) rfl (Nat.le_refl _) (byt_of_heap (heap_alloc_new wr _) (by simp) rfl)
      have HT2 := Lib.hid (HL.out.2.snoc hlt (by omega))
      go_wp2_with (refine wpList_build_as rfl 35 _ rfl (bareA (tmK j) (some ⟨wr.heap.size, 0, none⟩) 1 1) (built_tm j _ 1 1) ?_)
      refine hsend.mono ?_
      rintro e W6 ⟨A6, c6, rfl, HF6, _⟩
      have HL6 : Hid (FV R W2 p (fun _ => False) (s.send 7 1 k (tmK j) 0) W6 ∧ TmS k pn a2 (j + 1) (fun _ => 1) (fun _ => 0) (s.send 7 1 k (tmK j) 0)) := ⟨HF6.out, HT2.out⟩
      clear hsend HT2 HF6 HL
      go_wp2_with fail
      go_roundw
      case rel => exact ⟨j + 1, _, by go_num, by omega, HL6⟩
      case measure => simp [intOf]; omega
    · have hjp : j = pn := by omega
      subst hjp
      have hsend := HL.out.1.sendX I (below_one wr (.cells #[.int .u8 121] 5 (1, 2))) (c := tmO) (now := 0) (m := a2) (lk := 0) (ln := 0) HL.out.2.fresh (by rw [HL.out.2.ms]; omega) hw2 (by omega) (by omega) (by omega) ⟨rfl, rfl, rfl, rfl⟩ tmO_ok (by show 1 ≤ _; omega) rfl (Nat.le_refl _) (byt_of_heap (heap_alloc_new wr _) (by simp) rfl)
      have HT2 := Lib.hid (HL.out.2.last (by omega))
      go_wp2_with (refine wpList_build_as rfl 35 _ rfl (bareA tmO (some ⟨wr.heap.size, 0, none⟩) 1 1) (built_tmO _ 1 1) ?_)
      refine hsend.mono ?_
      rintro e W6 ⟨A6, c6, rfl, HF6, _⟩
      have HL6 : Hid (FV R W2 p (fun _ => False) (s.send a2 0 0 tmO 0) W6 ∧ TmS k j a2 (j + 1) (fun _ => 1 + 0) (fun _ => 0) (s.send a2 0 0 tmO 0)) := ⟨HF6.out, HT2.out⟩
      clear hsend HT2 HF6 HL
      go_upto_region 13 with (fail)
      obtain ⟨wp, rfl⟩ : ∃ wp : World, wp = W6 := ⟨_, rfl⟩
      go_loopw [11, 12, 13, 14, 15, 16, 17, 55] (fun _ _ _ _ _ _ _ v55 wr => ∃ (r : Nat) (s : FS), v55 = .int .u32 (r : Int) ∧ r ≤ k ∧ Hid (FV R W2 p (fun _ => False) s wr ∧ TmS k j a2 (j + 1) (fun _ => 1 + r) (fun _ => 0) s)) (fun _ _ _ _ _ _ _ v55 _ => k - (intOf v55).toNat)
      case atStart => exact ⟨0, _, rfl, by omega, HL6⟩
      case round =>
        clear HL6
        obtain ⟨r, s, rfl, hr, HL⟩ := hrel
        by_cases hrk : r < k
        · go_wp2_with fail
          refine (HL.out.1.late I).mono ?_
          rintro e W7 ⟨n7, rfl, HF7, _⟩
          have HL7 : Hid (FV R W2 p (fun _ => False) s.late W7 ∧ TmS k j a2 (j + 1) (fun x => if x < 0 then 2 + r else 1 + r) (fun x => if x < 0 then 0 else 1) s.late) := ⟨HF7.out, HL.out.2.late.sent_eq (fun x _ => by rw [if_neg (by omega)]) (fun x _ => by rw [if_neg (by omega)])⟩
          clear HF7 HL
          go_upto_region 16 with (fail)
          obtain ⟨wq, rfl⟩ : ∃ wq : World, wq = W7 := ⟨_, rfl⟩
          go_loopw [11, 12, 13, 60] (fun _ _ _ v60 wr => ∃ (i : Nat) (s : FS), v60 = .int .i64 (i : Int) ∧ i ≤ j ∧ Hid (FV R W2 p (fun _ => False) s wr ∧ TmS k j a2 (j + 1) (fun x => if x < i then 2 + r else 1 + r) (fun x => if x < i then 0 else 1) s)) (fun _ _ _ v60 _ => j - (intOf v60).toNat)
          case atStart => exact ⟨0, _, rfl, by omega, HL7⟩
          case round =>
            clear HL7
            obtain ⟨i, s, rfl, hi, HL⟩ := hrel
            by_cases hij : i < j
            · go_wp2_with fail
              refine (HL.out.1.again I (now := 1) (by omega)).mono ?_
              rintro e V8 ⟨c_V8, A_V8, cp_V8, ok_V8, s_V8, r_V8, rfl, HAR_V8, HDJ_V8, HF_V8, HKP_V8⟩
              obtain ⟨cs8, hcs8⟩ : ∃ cs, cs = bareA c_V8 A_V8 c_V8.body.length cp_V8 := ⟨_, rfl⟩
              have HSZ_cs8 : Hid (cs8.size = 19) := by rw [hcs8]; rfl
              have HON_cs8 : Hid (cs8.all (·.oneCell') = true) := by rw [hcs8]; exact bareA_oneF _ _ _ _
              have HC5_cs8 : Hid (cs8[5]? = some (.int .u32 (c_V8.tsn : Int))) := by rw [hcs8]; rfl
              have HC6_cs8 : Hid (cs8[6]? = some (.int .u16 (c_V8.st : Int))) := by rw [hcs8]; rfl
              have HC7_cs8 : Hid (cs8[7]? = some (.int .u32 (c_V8.mid : Int))) := by rw [hcs8]; rfl
              have HC18_cs8 : Hid (cs8[18]? = some (.slice A_V8 c_V8.body.length cp_V8)) := by rw [hcs8]; rfl
              rw [← hcs8]
              clear hcs8
              have hag := HL.out.2.again HAR_V8.out (i := i) (by omega) (by rw [if_neg (by omega)]) (fun x hx => by rw [if_pos hx]; omega) (fun _ => by rw [if_neg (by omega)]; omega) (by rw [if_neg (by omega)]; omega)
              obtain ⟨ht8, c8', hr8, htn8, hst8⟩ := hag
              have hok8 : ok_V8 = true ∧ c_V8.tsn = 100 + i := by
                rcases HDJ_V8.out with ⟨e1, _⟩ | ⟨e1, e2⟩
                · rw [hr8] at e1; cases e1
                · rw [hr8] at e1
                  injection e1 with e1
                  exact ⟨e2, by rw [← e1]; exact htn8⟩
              obtain ⟨rfl, htn8'⟩ := hok8
              rw [htn8'] at HC5_cs8
              have HT8 : Hid (TmS k j a2 (j + 1) (fun x => if x < i + 1 then 2 + r else 1 + r) (fun x => if x < i + 1 then 0 else 1) s_V8) := ht8.sent_eq (fun x _ => by
                unfold upd
                dsimp only
                by_cases e : x = i
                · rw [if_pos e, if_neg (by omega), if_pos (by omega)]; omega
                · rw [if_neg e]
                  by_cases e2 : x < i
                  · rw [if_pos e2, if_pos (by omega)]
                  · rw [if_neg e2, if_neg (by omega)]) (fun x _ => by
                unfold upd
                dsimp only
                by_cases e : x = i
                · rw [if_pos e, if_pos (by omega)]
                · rw [if_neg e]
                  by_cases e2 : x < i
                  · rw [if_pos e2, if_pos (by omega)]
                  · rw [if_neg e2, if_neg (by omega)])
              clear ht8 hr8 htn8 hst8 htn8' HAR_V8 HDJ_V8 HL HKP_V8
              have HS1_V9 : Hid ((Try.prog.info? 35).map (·.size) = some cs8.size) := by rw [HSZ_cs8.out]; exact chunk_info
              have HS2_V9 : Hid ((ckArr (zeroC 0) nilV nilV nilV nilV nilV).size = cs8.size) := by rw [HSZ_cs8.out]; rfl
              go_upto_region 19 with (first
                | (with_reducible refine wpList_alloc_run _ rfl 35 rfl (alloc_zk _) ?_)
                | (refine wpList_store_row rfl 35 _ _ rfl _ cs8 rfl rfl 35 (ckArr (zeroC 0) nilV nilV nilV nilV nilV) (Blk.new _ _ _) HS1_V9.out HS2_V9.out HON_cs8.out ?_))
              try simp only [Act.put, List.setIfInBounds_toArray, List.set_cons_zero, List.set_cons_succ]
              obtain ⟨V9, hV9⟩ : ∃ V9, V9 = (V8.alloc (.cells (ckArr (zeroC 0) nilV nilV nilV nilV nilV) 35)).setRow V8.heap.size cs8 := ⟨_, rfl⟩
              obtain ⟨g9, hg9⟩ : ∃ g9, g9 = V8.heap.size := ⟨_, rfl⟩
              have hb_V9 : Below V8.heap.size V8 V9 := by rw [hV9]; exact below_setRow (below_one V8 _) (Nat.le_refl _) _
              have HK_V9 : Hid (CkBlk V9 g9 cs8) := by rw [hV9, hg9]; exact setRow_heap _ _ _ _ _ _ (Blk.new V8 _ _)
              have HGS_V9 : Hid (V8.heap.size ≤ g9) := Nat.le_of_eq hg9.symm
              rw [← hV9, ← hg9]
              clear hV9 hg9 HS1_V9 HS2_V9
              have HL9 : Hid (FV R W2 p (fun _ => False) s_V8 V9 ∧ TmS k j a2 (j + 1) (fun x => if x < i + 1 then 2 + r else 1 + r) (fun x => if x < i + 1 then 0 else 1) s_V8) := ⟨HF_V8.out.grows I hb_V9, HT8.out⟩
              obtain ⟨T, hT⟩ : ∃ T, T = 100 + i := ⟨_, rfl⟩
              rw [← hT] at HC5_cs8
              have k5 : V9.cell? ⟨g9, 5, none⟩ = some (.int .u32 (T : Int)) := (HK_V9.out.cell 5).trans HC5_cs8.out
              have hw32 : IntKind.u32.wrap (i : Int) = (i : Int) := by rw [IntKind.wrap_u32]; omega
              have hT2 : (100 : Int) + (i : Int) = (T : Int) := by omega
              have hT3 : IntKind.u32.wrap (T : Int) = (T : Int) := by rw [IntKind.wrap_u32]; omega
              clear hT hb_V9 HF_V8 HT8
              go_wp2_with fail
              go_roundw
              case rel => exact ⟨i + 1, _, by go_num, by omega, HL9⟩
              case measure => simp [intOf]; omega
            · have hije : i = j := by omega
              subst hije
              go_wp2_with fail
              refine (HL.out.1.again I (now := 1) (by omega)).mono ?_
              rintro e V8 ⟨c_V8, A_V8, cp_V8, ok_V8, s_V8, r_V8, rfl, HAR_V8, HDJ_V8, HF_V8, HKP_V8⟩
              obtain ⟨cs8, hcs8⟩ : ∃ cs, cs = bareA c_V8 A_V8 c_V8.body.length cp_V8 := ⟨_, rfl⟩
              have HSZ_cs8 : Hid (cs8.size = 19) := by rw [hcs8]; rfl
              have HON_cs8 : Hid (cs8.all (·.oneCell') = true) := by rw [hcs8]; exact bareA_oneF _ _ _ _
              have HC5_cs8 : Hid (cs8[5]? = some (.int .u32 (c_V8.tsn : Int))) := by rw [hcs8]; rfl
              have HC6_cs8 : Hid (cs8[6]? = some (.int .u16 (c_V8.st : Int))) := by rw [hcs8]; rfl
              have HC7_cs8 : Hid (cs8[7]? = some (.int .u32 (c_V8.mid : Int))) := by rw [hcs8]; rfl
              have HC18_cs8 : Hid (cs8[18]? = some (.slice A_V8 c_V8.body.length cp_V8)) := by rw [hcs8]; rfl
              rw [← hcs8]
              clear hcs8
              have hag := HL.out.2.again HAR_V8.out (i := i) (by omega) (by rw [if_neg (by omega)]) (fun x hx => by rw [if_pos hx]; omega) (fun e => absurd e (Nat.lt_irrefl _)) (by rw [if_neg (by omega)]; omega)
              obtain ⟨ht8, c8', hr8, htn8, hst8⟩ := hag
              have hok8 : ok_V8 = true ∧ c_V8.st = 1 := by
                rcases HDJ_V8.out with ⟨e1, _⟩ | ⟨e1, e2⟩
                · rw [hr8] at e1; cases e1
                · rw [hr8] at e1
                  injection e1 with e1
                  exact ⟨e2, by rw [← e1, hst8, if_neg (Nat.lt_irrefl _)]⟩
              obtain ⟨rfl, hst8'⟩ := hok8
              rw [hst8'] at HC6_cs8
              have HT8 : Hid (TmS k i a2 (i + 1) (fun _ => 1 + (r + 1)) (fun _ => 0) s_V8) := ht8.sent_eq (fun x hx => by
                unfold upd
                dsimp only
                by_cases e : x = i
                · rw [if_pos e, if_neg (by omega)]; omega
                · rw [if_neg e, if_pos (by omega)]; omega) (fun x hx => by
                unfold upd
                dsimp only
                by_cases e : x = i
                · rw [if_pos e]
                · rw [if_neg e, if_pos (by omega)])
              clear ht8 hr8 htn8 hst8 hst8' HAR_V8 HDJ_V8 HL HKP_V8
              have HS1_V9 : Hid ((Try.prog.info? 35).map (·.size) = some cs8.size) := by rw [HSZ_cs8.out]; exact chunk_info
              have HS2_V9 : Hid ((ckArr (zeroC 0) nilV nilV nilV nilV nilV).size = cs8.size) := by rw [HSZ_cs8.out]; rfl
              go_upto_region 23 with (first
                | (with_reducible refine wpList_alloc_run _ rfl 35 rfl (alloc_zk _) ?_)
                | (refine wpList_store_row rfl 35 _ _ rfl _ cs8 rfl rfl 35 (ckArr (zeroC 0) nilV nilV nilV nilV nilV) (Blk.new _ _ _) HS1_V9.out HS2_V9.out HON_cs8.out ?_))
              try simp only [Act.put, List.setIfInBounds_toArray, List.set_cons_zero, List.set_cons_succ]
              obtain ⟨V9, hV9⟩ : ∃ V9, V9 = (V8.alloc (.cells (ckArr (zeroC 0) nilV nilV nilV nilV nilV) 35)).setRow V8.heap.size cs8 := ⟨_, rfl⟩
              obtain ⟨g9, hg9⟩ : ∃ g9, g9 = V8.heap.size := ⟨_, rfl⟩
              have hb_V9 : Below V8.heap.size V8 V9 := by rw [hV9]; exact below_setRow (below_one V8 _) (Nat.le_refl _) _
              have HK_V9 : Hid (CkBlk V9 g9 cs8) := by rw [hV9, hg9]; exact setRow_heap _ _ _ _ _ _ (Blk.new V8 _ _)
              have HGS_V9 : Hid (V8.heap.size ≤ g9) := Nat.le_of_eq hg9.symm
              rw [← hV9, ← hg9]
              clear hV9 hg9 HS1_V9 HS2_V9
              have HF9 : Hid (FV R W2 p (fun _ => False) s_V8 V9) := HF_V8.out.grows I hb_V9
              have k6 : V9.cell? ⟨g9, 6, none⟩ = some (.int .u16 1) := (HK_V9.out.cell 6).trans HC6_cs8.out
              clear hb_V9 HF_V8
              go_wp2_with fail
              refine (HF9.out.point I (inter := true)).mono ?_
              rintro e V10 ⟨cs10, ck10, ok10, rfl, HAT10, HPT10, HF10, _⟩
              have hok10 : ok10 = false := by
                rcases HPT10.out with ⟨_, e, _⟩ | ⟨e, _⟩
                · exact e
                · exact absurd (HT8.out.norow (by omega) (by omega)) e
              subst hok10
              have HSZ_cs10 : Hid (cs10.size = 19) := HAT10.out.size
              have HON_cs10 : Hid (cs10.all (·.oneCell') = true) := HAT10.out.one
              clear HPT10 HF9 k6 HK_V9
              have HS1_V11 : Hid ((Try.prog.info? 35).map (·.size) = some cs10.size) := by rw [HSZ_cs10.out]; exact chunk_info
              have HS2_V11 : Hid ((ckArr (zeroC 0) nilV nilV nilV nilV nilV).size = cs10.size) := by rw [HSZ_cs10.out]; rfl
              go_upto_region 26 with (first
                | (with_reducible refine wpList_alloc_run _ rfl 35 rfl (alloc_zk _) ?_)
                | (refine wpList_store_row rfl 35 _ _ rfl _ cs10 rfl rfl 35 (ckArr (zeroC 0) nilV nilV nilV nilV nilV) (Blk.new _ _ _) HS1_V11.out HS2_V11.out HON_cs10.out ?_))
              try simp only [Act.put, List.setIfInBounds_toArray, List.set_cons_zero, List.set_cons_succ]
              obtain ⟨V11, hV11⟩ : ∃ V11, V11 = (V10.alloc (.cells (ckArr (zeroC 0) nilV nilV nilV nilV nilV) 35)).setRow V10.heap.size cs10 := ⟨_, rfl⟩
              obtain ⟨g11, hg11⟩ : ∃ g11, g11 = V10.heap.size := ⟨_, rfl⟩
              have hb_V11 : Below V10.heap.size V10 V11 := by rw [hV11]; exact below_setRow (below_one V10 _) (Nat.le_refl _) _
              have HK_V11 : Hid (CkBlk V11 g11 cs10) := by rw [hV11, hg11]; exact setRow_heap _ _ _ _ _ _ (Blk.new V10 _ _)
              have HGS_V11 : Hid (V10.heap.size ≤ g11) := Nat.le_of_eq hg11.symm
              rw [← hV11, ← hg11]
              clear hV11 hg11 HS1_V11 HS2_V11
              have HF11 : Hid (FV R W2 p (fun _ => False) s_V8 V11) := HF10.out.grows I hb_V11
              clear hb_V11 HF10
              go_wp2_with fail
              refine (HF11.out.expire I (now := 1) (by omega)).mono ?_
              rintro e V12 ⟨A12, c12, n12, l12, rfl, _, _, H12N, _, _, H12M, HF12, _⟩
              have hex := HT8.out.exp
              have hl12 : l12 = [] := List.eq_nil_iff_forall_not_mem.2 (fun x hx => by
                have h9 := (H12M.out x).1 hx
                rw [hex.1] at h9
                cases h9)
              obtain rfl : n12 = 0 := by rw [H12N.out, hl12]; rfl
              obtain ⟨G12, hF12, _⟩ := HF12.out
              have HL12 : Hid (FV R W2 p (fun _ => False) (s_V8.expire 1).told V12 ∧ TmS k i a2 (i + 1) (fun _ => 1 + (r + 1)) (fun _ => 0) (s_V8.expire 1).told) := ⟨⟨G12, hF12, fun x hx => hx.elim⟩, hex.2⟩
              clear hex hl12 hF12 H12N H12M HF12 HF11 HT8
              go_wp2_with fail
              go_roundw
              case rel => exact ⟨r + 1, _, by go_num, by omega, HL12⟩
              case measure => simp [intOf]; omega
        · have hrke : r = k := by omega
          subst hrke
          go_wp2_with fail
          refine (HL.out.1.late I).mono ?_
          rintro e W7 ⟨n7, rfl, HF7, _⟩
          have HT7 : Hid (TmS r j a2 (j + 1) (fun _ => 1 + r) (fun _ => 1) s.late) := HL.out.2.late
          clear HL
          go_wp2_with fail
          refine (HF7.out.again I (now := 1) (by omega)).mono ?_
          rintro e V8 ⟨c_V8, A_V8, cp_V8, ok_V8, s_V8, r_V8, rfl, HAR_V8, HDJ_V8, HF_V8, HKP_V8⟩
          obtain ⟨cs8, hcs8⟩ : ∃ cs, cs = bareA c_V8 A_V8 c_V8.body.length cp_V8 := ⟨_, rfl⟩
          have HSZ_cs8 : Hid (cs8.size = 19) := by rw [hcs8]; rfl
          have HON_cs8 : Hid (cs8.all (·.oneCell') = true) := by rw [hcs8]; exact bareA_oneF _ _ _ _
          have HC5_cs8 : Hid (cs8[5]? = some (.int .u32 (c_V8.tsn : Int))) := by rw [hcs8]; rfl
          have HC6_cs8 : Hid (cs8[6]? = some (.int .u16 (c_V8.st : Int))) := by rw [hcs8]; rfl
          have HC7_cs8 : Hid (cs8[7]? = some (.int .u32 (c_V8.mid : Int))) := by rw [hcs8]; rfl
          have HC18_cs8 : Hid (cs8[18]? = some (.slice A_V8 c_V8.body.length cp_V8)) := by rw [hcs8]; rfl
          rw [← hcs8]
          clear hcs8
          by_cases ho : a2 = 7
          · subst ho
            obtain ⟨hr8, hl8⟩ := HT7.out.end7 (by omega) HAR_V8.out
            have hok8 : ok_V8 = false := by
              rcases HDJ_V8.out with ⟨_, e, _⟩ | ⟨e, _⟩
              · exact e
              · rw [hr8] at e; cases e
            subst hok8
            have HLE := Lib.hid hl8
            clear hr8 hl8 HT7 HAR_V8 HDJ_V8 HF7
            have HS1_V9 : Hid ((Try.prog.info? 35).map (·.size) = some cs8.size) := by rw [HSZ_cs8.out]; exact chunk_info
            have HS2_V9 : Hid ((ckArr (zeroC 0) nilV nilV nilV nilV nilV).size = cs8.size) := by rw [HSZ_cs8.out]; rfl
            go_upto_region 31 with (first
              | (with_reducible refine wpList_alloc_run _ rfl 35 rfl (alloc_zk _) ?_)
              | (refine wpList_store_row rfl 35 _ _ rfl _ cs8 rfl rfl 35 (ckArr (zeroC 0) nilV nilV nilV nilV nilV) (Blk.new _ _ _) HS1_V9.out HS2_V9.out HON_cs8.out ?_))
            try simp only [Act.put, List.setIfInBounds_toArray, List.set_cons_zero, List.set_cons_succ]
            obtain ⟨V9, hV9⟩ : ∃ V9, V9 = (V8.alloc (.cells (ckArr (zeroC 0) nilV nilV nilV nilV nilV) 35)).setRow V8.heap.size cs8 := ⟨_, rfl⟩
            obtain ⟨g9, hg9⟩ : ∃ g9, g9 = V8.heap.size := ⟨_, rfl⟩
            have hb_V9 : Below V8.heap.size V8 V9 := by rw [hV9]; exact below_setRow (below_one V8 _) (Nat.le_refl _) _
            have HK_V9 : Hid (CkBlk V9 g9 cs8) := by rw [hV9, hg9]; exact setRow_heap _ _ _ _ _ _ (Blk.new V8 _ _)
            have HGS_V9 : Hid (V8.heap.size ≤ g9) := Nat.le_of_eq hg9.symm
            rw [← hV9, ← hg9]
            clear hV9 hg9 HS1_V9 HS2_V9
            have HF9 : Hid (FV R W2 p (fun _ => False) s_V8 V9) := HF_V8.out.grows I hb_V9
            clear hb_V9 HF_V8
            go_wp2_with fail
            refine (HF9.out.left I).mono ?_
            rintro e V10 ⟨rfl, HF10, _⟩
            rw [HLE.out]
            go_wp2_with fail
            go_ret
            exact ⟨rfl, HB2.out.trans (HF10.out.bel.mono HB2.out.size)⟩
          · obtain ⟨hE, c8', hr8, hst8⟩ := HT7.out.endO (by omega) ho HAR_V8.out
            have hok8 : ok_V8 = true ∧ c_V8.st = 1 := by
              rcases HDJ_V8.out with ⟨e1, _⟩ | ⟨e1, e2⟩
              · rw [hr8] at e1; cases e1
              · rw [hr8] at e1
                injection e1 with e1
                exact ⟨e2, by rw [← e1, hst8]⟩
            obtain ⟨rfl, hst8'⟩ := hok8
            rw [hst8'] at HC6_cs8
            have HE := Lib.hid hE
            have ho2 : (a2 == 7) = false := by simpa using ho
            clear hE hr8 hst8 hst8' HT7 HAR_V8 HDJ_V8 HF7
            have HS1_V9 : Hid ((Try.prog.info? 35).map (·.size) = some cs8.size) := by rw [HSZ_cs8.out]; exact chunk_info
            have HS2_V9 : Hid ((ckArr (zeroC 0) nilV nilV nilV nilV nilV).size = cs8.size) := by rw [HSZ_cs8.out]; rfl
            go_upto_region 31 with (first
              | (with_reducible refine wpList_alloc_run _ rfl 35 rfl (alloc_zk _) ?_)
              | (refine wpList_store_row rfl 35 _ _ rfl _ cs8 rfl rfl 35 (ckArr (zeroC 0) nilV nilV nilV nilV nilV) (Blk.new _ _ _) HS1_V9.out HS2_V9.out HON_cs8.out ?_))
            try simp only [Act.put, List.setIfInBounds_toArray, List.set_cons_zero, List.set_cons_succ]
            obtain ⟨V9, hV9⟩ : ∃ V9, V9 = (V8.alloc (.cells (ckArr (zeroC 0) nilV nilV nilV nilV nilV) 35)).setRow V8.heap.size cs8 := ⟨_, rfl⟩
            obtain ⟨g9, hg9⟩ : ∃ g9, g9 = V8.heap.size := ⟨_, rfl⟩
            have hb_V9 : Below V8.heap.size V8 V9 := by rw [hV9]; exact below_setRow (below_one V8 _) (Nat.le_refl _) _
            have HK_V9 : Hid (CkBlk V9 g9 cs8) := by rw [hV9, hg9]; exact setRow_heap _ _ _ _ _ _ (Blk.new V8 _ _)
            have HGS_V9 : Hid (V8.heap.size ≤ g9) := Nat.le_of_eq hg9.symm
            rw [← hV9, ← hg9]
            clear hV9 hg9 HS1_V9 HS2_V9
            have HF9 : Hid (FV R W2 p (fun i => i = g9) s_V8 V9) := HF_V8.out.more I hb_V9 (fun i e => .inr ⟨by rw [show i = g9 from e]; exact HGS_V9.out, by rw [show i = g9 from e]; exact HK_V9.out.lt⟩)
            clear hb_V9 HF_V8
            go_wp2_with fail
            refine (HF9.out.pointS I (inter := true)).mono ?_
            rintro e V10 ⟨cs10, ck10, ok10, rfl, HAT10, HPT10, HF10, HKP10⟩
            obtain ⟨hok10, sk, hsk, hck⟩ : ok10 = true ∧ ∃ sk, SkOk true s_V8.lat sk ∧ ck10 = pointC s_V8 true sk := by
              rcases HPT10.out with ⟨e1, _⟩ | ⟨_, e, sk, h2, h3⟩
              · have := HE.out.row_len
                rw [e1] at this
                simp at this
                omega
              · exact ⟨e, sk, h2, h3⟩
            subst hok10
            have hskw := HE.out.skips (by omega) hsk
            subst hskw
            obtain ⟨g, dh, s0, p0, b0, C, Ls⟩ := HAT10.out.parts
            have htn : ck10.tsn = 99 + j := by
              rw [hck]
              show (s_V8.mark + s_V8.row.length) % 4294967296 = _
              rw [HE.out.mark, HE.out.row_len]
              omega
            have hcsk : ck10.skips = [(4, false, 9)] := by rw [hck]; rfl
            have e16 : cs10[16]? = some (.slice s0.A 1 s0.cap) := by rw [C.c16, hcsk]; rfl
            have HE5 : Hid (cs10[5]? = some (.int .u32 ((99 + j : Nat) : Int))) := by rw [C.c5, htn]; exact rfl
            have HE16 := Lib.hid e16
            have HRS : Hid (Reads V10 V10.heap.size 3 s0.A 1 (skC [(4, false, 9)])) := by
              have := Ls.skips
              rw [hcsk] at this
              exact this
            have HSC : Hid (1 ≤ s0.cap ∧ s0.cap ≤ 9223372036854775807) := by
              have := Ls.oks
              rw [hcsk] at this
              exact this
            have HK10 : Hid (CkBlk V10 g9 cs8) := HKP10.out.blk HK_V9.out (fun hx => hx rfl)
            have HSZ_cs10 : Hid (cs10.size = 19) := HAT10.out.size
            have HON_cs10 : Hid (cs10.all (·.oneCell') = true) := HAT10.out.one
            clear HPT10 HF9 HK_V9 HKP10 C Ls htn hcsk hck hsk e16 HAT10
            have HS1_V11 : Hid ((Try.prog.info? 35).map (·.size) = some cs10.size) := by rw [HSZ_cs10.out]; exact chunk_info
            have HS2_V11 : Hid ((ckArr (zeroC 0) nilV nilV nilV nilV nilV).size = cs10.size) := by rw [HSZ_cs10.out]; rfl
            go_upto_region 34 with (first
              | (with_reducible refine wpList_alloc_run _ rfl 35 rfl (alloc_zk _) ?_)
              | (refine wpList_store_row rfl 35 _ _ rfl _ cs10 rfl rfl 35 (ckArr (zeroC 0) nilV nilV nilV nilV nilV) (Blk.new _ _ _) HS1_V11.out HS2_V11.out HON_cs10.out ?_))
            try simp only [Act.put, List.setIfInBounds_toArray, List.set_cons_zero, List.set_cons_succ]
            obtain ⟨V11, hV11⟩ : ∃ V11, V11 = (V10.alloc (.cells (ckArr (zeroC 0) nilV nilV nilV nilV nilV) 35)).setRow V10.heap.size cs10 := ⟨_, rfl⟩
            obtain ⟨g11, hg11⟩ : ∃ g11, g11 = V10.heap.size := ⟨_, rfl⟩
            have hb_V11 : Below V10.heap.size V10 V11 := by rw [hV11]; exact below_setRow (below_one V10 _) (Nat.le_refl _) _
            have HK_V11 : Hid (CkBlk V11 g11 cs10) := by rw [hV11, hg11]; exact setRow_heap _ _ _ _ _ _ (Blk.new V10 _ _)
            have HGS_V11 : Hid (V10.heap.size ≤ g11) := Nat.le_of_eq hg11.symm
            rw [← hV11, ← hg11]
            clear hV11 hg11 HS1_V11 HS2_V11
            have HF11 : Hid (FV R W2 p (fun i => (i = g9 ∨ ∃ (ad : Addr) (n cp : Nat), cs10[16]? = some (.slice (some ad) n cp) ∧ ad.block = i) ∨ i = g11) s_V8 V11) := HF10.out.more I hb_V11 (fun i e => e.elim .inl (fun e => .inr ⟨by rw [show i = g11 from e]; exact HGS_V11.out, by rw [show i = g11 from e]; exact HK_V11.out.lt⟩))
            have HK11 : Hid (CkBlk V11 g9 cs8) := blk_below HK10.out hb_V11
            have HRS11 : Hid (Reads V11 V11.heap.size 3 s0.A 1 (skC [(4, false, 9)])) := (HRS.out.below hb_V11).more hb_V11.size
            clear hb_V11 HF10 HK10 HRS
            go_wp2_with fail
            refine (HF11.out.expire I (now := 1) (by omega)).mono ?_
            rintro e V12 ⟨A12, c12, n12, l12, rfl, h12a, h12b, H12N, HRD12, H12S, H12M, HF12, HKP12⟩
            have hl12 : l12 = [7] := up_eq _ _ H12S.out (List.pairwise_singleton _ _) (fun x => by rw [H12M.out, HE.out.gone_iff])
            subst hl12
            obtain rfl : n12 = 1 := H12N.out
            have HK12 : Hid (CkBlk V12 g9 cs8) := HKP12.out.blk HK11.out (fun hx => hx (.inl (.inl rfl)))
            have HL12 : Hid (CkBlk V12 g11 cs10) := HKP12.out.blk HK_V11.out (fun hx => hx (.inr rfl))
            obtain ⟨ad2, hA12, _, hc12⟩ := HRD12.out.2 (by omega)
            have d7 : V12.cell? (ad2.add 0) = some (.int .i64 7) := hc12 0 _ rfl
            obtain ⟨ad, y, hA0, hadb, hy, d0, d1, d2⟩ := sk_cells (k := 0) HRS11.out rfl (by omega)
            obtain rfl : y = (4, false, 9) := by injection hy with hy; exact hy.symm
            have hblk12 := HKP12.out.block ad.block hadb (fun hx => hx (.inl (.inr ⟨ad, 1, s0.cap, by rw [← hA0]; exact HE16.out, rfl⟩)))
            have hadd0 : (ad.add (0 * 3)).block = ad.block := block_of_add _ _
            have d0' : V12.cell? (ad.add (0 * 3)) = some (.int .u16 4) := by
              have h9 : V12.heap[(ad.add (0 * 3)).block]? = V11.heap[(ad.add (0 * 3)).block]? := by rw [hadd0]; exact hblk12
              have h10 : V12.cell? (ad.add (0 * 3)) = V11.cell? (ad.add (0 * 3)) := World.cell?_of_block h9
              rw [h10]; exact d0
            have d1' : V12.cell? ⟨(ad.add (0 * 3)).block, (ad.add (0 * 3)).off + 1, none⟩ = some (.bool false) := by
              have h9 : V12.heap[(ad.add (0 * 3)).block]? = V11.heap[(ad.add (0 * 3)).block]? := by rw [hadd0]; exact hblk12
              have h10 : V12.cell? ⟨(ad.add (0 * 3)).block, (ad.add (0 * 3)).off + 1, none⟩ = V11.cell? ⟨(ad.add (0 * 3)).block, (ad.add (0 * 3)).off + 1, none⟩ := World.cell?_of_block h9
              rw [h10]; exact d1
            have d2' : V12.cell? ⟨(ad.add (0 * 3)).block, (ad.add (0 * 3)).off + 2, none⟩ = some (.int .u32 9) := by
              have h9 : V12.heap[(ad.add (0 * 3)).block]? = V11.heap[(ad.add (0 * 3)).block]? := by rw [hadd0]; exact hblk12
              have h10 : V12.cell? ⟨(ad.add (0 * 3)).block, (ad.add (0 * 3)).off + 2, none⟩ = V11.cell? ⟨(ad.add (0 * 3)).block, (ad.add (0 * 3)).off + 2, none⟩ := World.cell?_of_block h9
              rw [h10]; exact d2
            have k6 : V12.cell? ⟨g9, 6, none⟩ = some (.int .u16 1) := (HK12.out.cell 6).trans HC6_cs8.out
            obtain ⟨T, hT⟩ : ∃ T, T = 99 + j := ⟨_, rfl⟩
            have k5 : V12.cell? ⟨g11, 5, none⟩ = some (.int .u32 (T : Int)) := by rw [hT]; exact (HL12.out.cell 5).trans HE5.out
            have k16 : V12.cell? ⟨g11, 16, none⟩ = some (.slice (some ad) 1 s0.cap) := by rw [← hA0]; exact (HL12.out.cell 16).trans HE16.out
            have hw32 : IntKind.u32.wrap (j : Int) = (j : Int) := by rw [IntKind.wrap_u32]; omega
            have hT2 : (99 : Int) + (j : Int) = (T : Int) := by omega
            have hT3 : IntKind.u32.wrap (T : Int) = (T : Int) := by rw [IntKind.wrap_u32]; omega
            have hT4 : IntKind.u32.wrap ((99 : Int) + (j : Int)) = (T : Int) := by rw [hT2, hT3]
            subst hA12
            have HLF : Hid ((s_V8.expire 1).told.left = 1) := HE.out.left
            clear hT hA0 d0 d1 d2 hadd0 hblk12 hc12 HRD12 H12N H12S H12M HF11 HK11 HK_V11 HRS11 HE HKP12 HK12 HL12 hy hadb
            have haz : ad.add (0 * 3) = ad := by simp [Addr.add]
            rw [haz] at d0' d1' d2'
            have haz2 : ad2.add 0 = ad2 := by simp [Addr.add]
            rw [haz2] at d7
            go_wp2_with fail
            refine (HF12.out.left I).mono ?_
            rintro e V13 ⟨rfl, HF13, _⟩
            rw [HLF.out]
            go_wp2_with fail
            go_ret
            exact ⟨rfl, HB2.out.trans (HF13.out.bel.mono HB2.out.size)⟩
end Go.Proofs.Yteobobodangbgaa.flightTimes
