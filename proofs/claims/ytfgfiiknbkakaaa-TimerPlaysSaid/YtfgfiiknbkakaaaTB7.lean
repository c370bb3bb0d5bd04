/-
  Of the texts TimerPlaysWalk: what the laws reach.
-/
import Derived.Test.YtfgfiiknbkakaaaRows
import Derived.Test.YtfgfiiknbkakaaaTB6
import Derived.WalkKit
import Derived.ProofKit
import Derived.OpenShut
import Derived.ShutString
import Derived.ChangeOld
import Derived.Below

namespace Go.Proofs.Ytfgfiiknbkakaaa.timerPlays
open Go.ChangeShapes Go.WideShapes Go.ChangeAt Go.RowKit
open Go.ChangeMaps (open_string shut_string)
set_option linter.unusedVariables false
set_option linter.unusedSimpArgs false
theorem own : ownKnob Try.prog.godebug = none := by kernel_rfl
theorem laidOut : laidOutB Try.prog = true := by kernel_rfl
open Words Tm
set_option maxHeartbeats 6400000 in
set_option maxRecDepth 100000 in
theorem walk {R : Tm.Mem} (I : Tm.TmI R) {H : Type} {enc : TypeId × Value → H} {base : Nat} (v0 : Value) (d0 : DataW H) (p0 : List MemPlace) (w : World) (o0 : Value.okWide Try.prog w .any base 53 v0) (k0 : DataW.Trod enc Try.prog w 0 (fun _ => true) true 53 v0 d0 p0) :
    Calls Try.prog 4 #[v0] w fun e w' => e = .returned (.bool true) ∧ Below w.heap.size w w' := by
  obtain ⟨A1, ns, cs1, rfl⟩ := okWide_slice Try.underlying53 o0
  have hsee : Sees w (.slice OpSh) [.slice A1 ns cs1] := sees_of (sh := .slice OpSh) rfl (by kernel_rfl) k0
  obtain ⟨A1', ns', cs1', he, hcs1, hcs63, hel⟩ := Sees.elems hsee
  injection he with e1 e2 e3
  subst e1 e2 e3
  have HA : Hid (∀ i, i < ns → ∃ ad K F T, A1 = some ad ∧ OpAt3 w ad i K F T) := opAt3_of hel
  clear o0 k0 hsee hel
  go_enter Try.func4, Try.ntmps4
  go_wp2_with fail
  refine (first_t I w).mono ?_
  rintro e W2 ⟨rfl, hb2⟩
  have HB2 := Lib.hid hb2
  clear hb2
  go_upto_region 5 with (fail)
  obtain ⟨W4, hW4⟩ : ∃ W4, W4 = (W2.alloc (.cells #[.slice none 0 0, .map none] 58)).alloc (.cells #[.slice none 0 0] 62) := ⟨_, rfl⟩
  obtain ⟨p, hp⟩ : ∃ p, p = W2.heap.size := ⟨_, rfl⟩
  obtain ⟨q, hq⟩ : ∃ q, q = W2.heap.size + 1 := ⟨_, rfl⟩
  have H1 : Hid (TW R RT W2 W4 p q [] [] (fun _ => False) ∧ ([] : List K).length ≤ min 0 100) := by
    refine ⟨?_, Nat.le_refl _⟩
    have h1 := (TW.none W2).zero (r := []) I triv_rep (below_new _ _) (tab_zero W2) (Nat.le_refl _)
    have h2 := h1.swap.refzero I.toRep (below_new _ (.cells #[.slice none 0 0] 62)) (Blk.new _ _ _) (Nat.le_refl _)
    rw [hW4, hp, hq, ← World.size_alloc (w := W2) (o := .cells #[.slice none 0 0, .map none] 58)]
    exact h2.swap
  rw [← hW4, ← hq, ← hp]
  clear hW4 hp hq
  go_upto_region 6 with (fail)
  obtain ⟨wo, rfl⟩ : ∃ wo : World, wo = W4 := ⟨_, rfl⟩
  go_loopw [5, 6, 7, 8, 9, 10, 11, 12, 13, 14, 15, 17, 24] (fun _ _ _ _ _ _ _ _ _ _ _ _ v24 wr => ∃ (i : Nat) (L : List K), v24 = .int .i64 (i : Int) ∧ i ≤ ns ∧ Hid (TW R RT W2 wr p q L L (fun _ => False) ∧ L.length ≤ min i 100)) (fun _ _ _ _ _ _ _ _ _ _ _ _ v24 _ => ns - (intOf v24).toNat)
  case atStart => exact ⟨0, [], rfl, Nat.zero_le _, H1⟩
  case round =>
    clear H1
    obtain ⟨i, L, rfl, hi, H⟩ := hrel
    by_cases hin : i < ns
    · obtain ⟨ad, K, F, T, rfl, hat⟩ := HA.out i hin
      obtain ⟨c1, c2, c3, hK, hF, hT⟩ := hat.keep (HB2.out.trans (H.out.1.bel.mono HB2.out.size))
      go_upto_region 8 with (fail)
      obtain ⟨Wo, hWo⟩ : ∃ Wo, Wo = wr.alloc (.cells #[.int .i64 K, .int .i64 F, .int .u64 (T : Int)] 65) := ⟨_, rfl⟩
      obtain ⟨g, hg⟩ : ∃ g, g = wr.heap.size := ⟨_, rfl⟩
      have HO : Hid (∃ G1 G2, TO R W2 Wo p q L L G1 G2 g K F T) := by
        rw [hWo, hg]
        obtain ⟨G1, G2, h⟩ := H.out.1.more I.toRep rt_rep (below_new wr (.cells #[.int .i64 K, .int .i64 F, .int .u64 (T : Int)] 65)) (S' := fun i => i = wr.heap.size) (fun i hi => .inr ⟨by rw [show i = wr.heap.size from hi]; exact Nat.le_refl _, by rw [show i = wr.heap.size from hi, World.size_alloc]; exact Nat.lt_succ_self _⟩)
        exact ⟨G1, G2, h, Blk.new _ _ _, H.out.1.bel.size⟩
      have HL := Lib.hid H.out.2
      rw [← hWo, ← hg]
      clear hWo hg c1 c2 c3 H hat
      by_cases h100 : i < 100
      · obtain ⟨G1, G2, ho⟩ := HO.out
        have o0 : Wo.cell? ⟨g, 0, none⟩ = some (.int .i64 K) := ho.o.cell 0
        have HT := Lib.hid ho
        clear ho HO
        go_upto_block 2 with (fail)
        obtain ⟨m, hm⟩ : ∃ m, m = (IntKind.u64.wrap K).tmod 3 := ⟨_, rfl⟩
        rw [← hm]
        clear hm o0
        have HLL : Hid (L.length ≤ i) := by have := HL.out; show L.length ≤ i; omega
        go_cut [] from 35 to 84 (fun wx => ∃ (L' : List Tm.K) (G1 G2 : Nat → Prop), Hid (TO R W2 wx p q L' L' G1 G2 g K F T ∧ L'.length ≤ i + 1))
        case first =>
          by_cases m0 : m = 0
          · have e0 : (m == 0) = true := by simp [m0]
            clear m0
            have o1 : Wo.cell? ⟨g, 1, none⟩ = some (.int .i64 F) := HT.out.o.cell 1
            have o2 : Wo.cell? ⟨g, 2, none⟩ = some (.int .u64 (T : Int)) := HT.out.o.cell 2
            have hset := I.set HT.out.t.r1 (by have := HLL.out; omega) hF hT
            go_wp2_with fail
            refine hset.mono ?_
            rintro e w4 ⟨G1', rfl, hr4, hg4, hf4⟩
            have H4 := Lib.hid (HT.out.prog hr4 hg4 hf4)
            have o1' : w4.cell? ⟨g, 1, none⟩ = some (.int .i64 F) := H4.out.o.cell 1
            have o2' : w4.cell? ⟨g, 2, none⟩ = some (.int .u64 (T : Int)) := H4.out.o.cell 2
            have hset2 := rset_t H4.out.t.r2 (by have := HLL.out; omega) hF hT
            clear hr4 hg4 hf4
            go_wp2_with fail
            refine hset2.mono ?_
            rintro e w5 ⟨G2', rfl, hr5, hg5, hf5⟩
            have H5 : Hid (TO R W2 w5 p q (put F T L) (put F T L) G1' G2' g K F T ∧ (put F T L).length ≤ i + 1) := ⟨H4.out.ref I.toRep hr5 hg5 hf5, Nat.le_trans put_le (by have := HLL.out; omega)⟩
            go_wp2_with fail
            go_meet
            exact ⟨_, _, _, H5⟩
          · have e0 : (m == 0) = false := by simpa using m0
            clear m0
            by_cases m1 : m = 1
            · have e1 : (m == 1) = true := by simp [m1]
              clear m1
              go_upto_region 23 with (fail)
              have HST : Hid (∀ j V, Hid (PlS R W2 p q (one0 L (stop F L)) (one1 L (stop F L)) g K F T j V) → V.cell? ⟨g, 1, none⟩ = some (.int .i64 F)) := fun j V h => h.out.o.1
              have HS0 : Hid (PlS R W2 p q (one0 L (stop F L)) (one1 L (stop F L)) g K F T 0 Wo.drew) := ⟨G1, G2, HT.out.grows I.toRep (Below.drew (Below.refl _ _))⟩
              refine wp_region_stage (fun _ _ => True) (fun j V => Hid (PlS R W2 p q (one0 L (stop F L)) (one1 L (stop F L)) g K F T j V)) [(false, .exact (.pointer (some ⟨g, 1, none⟩))),
                  (false, .exact (.int .i64 F)),
                  (true, .exact (.bool (has F L))),
                  (false, .exact (tptr q)),
                  (false, .exact (.pointer (some ⟨g, 1, none⟩))),
                  (false, .exact (.int .i64 F)),
                  (true, .exact (.bool (has F L))),
                  (false, .exact (.bool false))] (by kernel_rfl) (by kernel_rfl) (by kernel_rfl) rfl ?lasts ?start ?walk
              case lasts => exact trivial
              case start => exact HS0
              case walk =>
                refine stage_pure rfl (fun _ => trivial) (fun V m hS hl => by go_simp) ?_
                simp only [Act.put, List.setIfInBounds_toArray, List.set_cons_zero, List.set_cons_succ, List.cons_append, List.nil_append]
                refine stage_pure rfl (fun _ => trivial) (fun V m hS hl => by
                    have hc := HST.out m V hS
                    go_simp) ?_
                simp only [Act.put, List.setIfInBounds_toArray, List.set_cons_zero, List.set_cons_succ, List.cons_append, List.nil_append]
                refine stage_move rfl (fun V hS hl => by
                    go_simp
                    obtain ⟨G1, G2, h⟩ := hS.out
                    refine (I.stop h.t.r1 hF).mono ?_
                    rintro e V' ⟨G', rfl, hr, hg, hf⟩
                    exact ⟨_, rfl, rfl, ⟨_, _, h.prog hr hg hf⟩⟩) ?_
                simp only [Act.put, List.setIfInBounds_toArray, List.set_cons_zero, List.set_cons_succ, List.cons_append, List.nil_append]
                refine stage_pure rfl (fun _ => trivial) (fun V m hS hl => by go_simp) ?_
                simp only [Act.put, List.setIfInBounds_toArray, List.set_cons_zero, List.set_cons_succ, List.cons_append, List.nil_append]
                refine stage_pure rfl (fun _ => trivial) (fun V m hS hl => by go_simp) ?_
                simp only [Act.put, List.setIfInBounds_toArray, List.set_cons_zero, List.set_cons_succ, List.cons_append, List.nil_append]
                refine stage_pure rfl (fun _ => trivial) (fun V m hS hl => by
                    have hc := HST.out m V hS
                    go_simp) ?_
                simp only [Act.put, List.setIfInBounds_toArray, List.set_cons_zero, List.set_cons_succ, List.cons_append, List.nil_append]
                refine stage_move rfl (fun V hS hl => by
                    go_simp
                    obtain ⟨G1, G2, h⟩ := hS.out
                    refine (rstop_t h.t.r2 hF).mono ?_
                    rintro e V' ⟨G', rfl, hr, hg, hf⟩
                    exact ⟨_, rfl, rfl, ⟨_, _, h.ref I.toRep hr hg hf⟩⟩) ?_
                simp only [Act.put, List.setIfInBounds_toArray, List.set_cons_zero, List.set_cons_succ, List.cons_append, List.nil_append]
                refine stage_pure rfl (fun _ => trivial) (fun V m hS hl => by go_simp) ?_
                simp only [Act.put, List.setIfInBounds_toArray, List.set_cons_zero, List.set_cons_succ, List.cons_append, List.nil_append]
                refine stage_nil (fun V hS hF => ?_)
                have HE : Hid (∃ (L' : List Tm.K) (G1 G2 : Nat → Prop), Hid (TO R W2 V p q L' L' G1 G2 g K F T ∧ L'.length ≤ i + 1)) := by
                  obtain ⟨G1, G2, h⟩ := hS.out
                  exact ⟨stop F L, G1, G2, h, by have h1 := stop_le (k := F) (L := L); have h2 := HLL.out; omega⟩
                clear hS hF
                go_wp2_with fail
                go_meet
                exact HE.out
            · have e1 : (m == 1) = false := by simpa using m1
              clear m1
              go_upto_region 10 with (fail)
              have HST : Hid (∀ j V, Hid (PlD R W2 Wo.heap.size p q (one0 L (dueR T L)) (one1 L (dueR T L)) g K F T j V) → V.cell? ⟨g, 2, none⟩ = some (.int .u64 (T : Int))) := fun j V h => h.out.o.2
              have HS0 : Hid (PlD R W2 Wo.heap.size p q (one0 L (dueR T L)) (one1 L (dueR T L)) g K F T 0 Wo.drew) := ⟨G1, G2, HT.out.grows I.toRep (Below.drew (Below.refl _ _)), fun _ i hi => I.lt HT.out.t.r1 i hi, fun _ i hi => rt_rep.lt HT.out.t.r2 i hi, Nat.le_refl _⟩
              refine wp_region_stage (Fr (fun i => i < Wo.heap.size)) (fun j V => Hid (PlD R W2 Wo.heap.size p q (one0 L (dueR T L)) (one1 L (dueR T L)) g K F T j V)) [(false, .exact (.pointer (some ⟨g, 2, none⟩))),
                  (false, .exact (.int .u64 (T : Int))),
                  (true, .grows (RowP Wo ((dueL T L).map (·.2)))),
                  (false, .exact (tptr q)),
                  (false, .exact (.pointer (some ⟨g, 2, none⟩))),
                  (false, .exact (.int .u64 (T : Int))),
                  (true, .grows (RowP Wo ((dueL T L).map (·.2)))),
                  (false, .grows (RowP Wo ((dueL T L).map (·.2)))),
                  (false, .grows (RowP Wo ((dueL T L).map (·.2))))] (by kernel_rfl) (by kernel_rfl) (by kernel_rfl) rfl ?lasts ?start ?walk
              case lasts => exact ⟨fun _ _ _ => RowP.lasts, fun _ _ _ => RowP.lasts, fun _ _ _ => RowP.lasts, fun _ _ _ => RowP.lasts, trivial⟩
              case start => exact HS0
              case walk =>
                refine stage_pure rfl (fun V => Fr.refl _ _) (fun V m hS hl => by go_simp) ?_
                simp only [Act.put, List.setIfInBounds_toArray, List.set_cons_zero, List.set_cons_succ, List.cons_append, List.nil_append]
                refine stage_pure rfl (fun V => Fr.refl _ _) (fun V m hS hl => by
                    have hc := HST.out m V hS
                    go_simp) ?_
                simp only [Act.put, List.setIfInBounds_toArray, List.set_cons_zero, List.set_cons_succ, List.cons_append, List.nil_append]
                refine stage_move_grows rfl (fun V hS hl => by
                    go_simp
                    refine (hS.out.due I hT rfl rfl rfl).mono ?_
                    rintro e V' ⟨v, rfl, h1, h2, h3⟩
                    exact ⟨_, rfl, h1, h2, h3⟩) (fun v37 => ?_)
                simp only [Act.put, List.setIfInBounds_toArray, List.set_cons_zero, List.set_cons_succ, List.cons_append, List.nil_append]
                refine stage_pure rfl (fun V => Fr.refl _ _) (fun V m hS hl => by go_simp) ?_
                simp only [Act.put, List.setIfInBounds_toArray, List.set_cons_zero, List.set_cons_succ, List.cons_append, List.nil_append]
                refine stage_pure rfl (fun V => Fr.refl _ _) (fun V m hS hl => by go_simp) ?_
                simp only [Act.put, List.setIfInBounds_toArray, List.set_cons_zero, List.set_cons_succ, List.cons_append, List.nil_append]
                refine stage_pure rfl (fun V => Fr.refl _ _) (fun V m hS hl => by
                    have hc := HST.out m V hS
                    go_simp) ?_
                simp only [Act.put, List.setIfInBounds_toArray, List.set_cons_zero, List.set_cons_succ, List.cons_append, List.nil_append]
                refine stage_move_grows rfl (fun V hS hl => by
                    go_simp
                    refine (hS.out.rdue I.toRep hT rfl rfl rfl).mono ?_
                    rintro e V' ⟨v, rfl, h1, h2, h3⟩
                    exact ⟨_, rfl, h1, h2, h3⟩) (fun v41 => ?_)
                simp only [Act.put, List.setIfInBounds_toArray, List.set_cons_zero, List.set_cons_succ, List.cons_append, List.nil_append]
                refine stage_grows rfl (fun V m hS hl => by
                    go_simp
                    exact ⟨Fr.refl _ _, (hl.1 (by kernel_rfl)), hS⟩) (fun v7 => ?_)
                simp only [Act.put, List.setIfInBounds_toArray, List.set_cons_zero, List.set_cons_succ, List.cons_append, List.nil_append]
                refine stage_grows rfl (fun V m hS hl => by
                    go_simp
                    exact ⟨Fr.refl _ _, (hl.2.1 (by kernel_rfl)), hS⟩) (fun v8 => ?_)
                simp only [Act.put, List.setIfInBounds_toArray, List.set_cons_zero, List.set_cons_succ, List.cons_append, List.nil_append]
                refine stage_nil (fun V hS hF => ?_)
                have hF2 : RowP Wo ((dueL T L).map (·.2)) v37 V ∧ RowP Wo ((dueL T L).map (·.2)) v41 V ∧ RowP Wo ((dueL T L).map (·.2)) v7 V ∧ RowP Wo ((dueL T L).map (·.2)) v8 V ∧ True := hF
                obtain ⟨l, hl⟩ : ∃ l, l = (dueL T L).map (·.2) := ⟨_, rfl⟩
                rw [← hl] at hF2
                obtain ⟨nl, hnl⟩ : ∃ nl, nl = l.length := ⟨_, rfl⟩
                have hr7 := hF2.2.2.1
                have hr8 := hF2.2.2.2.1
                unfold RowP at hr7 hr8
                rw [← hnl] at hr7 hr8
                obtain ⟨A7, c7, rfl, h7a, h7b⟩ := own_slice hr7
                obtain ⟨A8, c8, rfl, h8a, h8b⟩ := own_slice hr8
                have hnlb : nl ≤ 100 := by
                  rw [hnl, hl, List.length_map]
                  have h1 := due_len (now := T) (L := L)
                  have h2 := HLL.out
                  omega
                have HEL : Hid (∀ j, j < nl → ∃ (a7 a8 : Addr) (x : Int), A7 = some a7 ∧ A8 = some a8 ∧ V.cell? (a7.add j) = some (.int .i64 x) ∧ V.cell? (a8.add j) = some (.int .i64 x)) := fun j hj => by
                  obtain ⟨a7, x7, e1, e2, e3⟩ := reads_i64 (Reads.of_own hr7) hj
                  obtain ⟨a8, x8, f1, f2, f3⟩ := reads_i64 (Reads.of_own hr8) hj
                  rw [e2] at f2
                  injection f2 with f2
                  exact ⟨a7, a8, x7, e1, f1, e3, by rw [f3, f2]⟩
                have HE : Hid (∀ j, ∃ (L' : List Tm.K) (G1 G2 : Nat → Prop), Hid (TO R W2 (V.drewN j) p q L' L' G1 G2 g K F T ∧ L'.length ≤ i + 1)) := fun j => by
                  obtain ⟨G1, G2, h, _⟩ := hS.out
                  exact ⟨dueR T L, G1, G2, h.grows I.toRep (below_drewN (Below.refl _ _) j), by have h1 := dueR_le (now := T) (L := L); have h2 := HLL.out; omega⟩
                clear hS hF hF2 hl hnl hr7 hr8 HST HS0 HT
                go_wp2_with fail
                obtain ⟨wd, rfl⟩ : ∃ wd : World, wd = V := ⟨_, rfl⟩
                go_loopw [9, 49] (fun _ v49 wy => ∃ j : Nat, v49 = .int .i64 (j : Int) ∧ j ≤ nl ∧ Hid (∃ m, wy = wd.drewN m)) (fun _ v49 _ => nl - (intOf v49).toNat)
                case atStart => exact ⟨0, rfl, Nat.zero_le _, ⟨0, rfl⟩⟩
                case round =>
                  obtain ⟨j, rfl, hj, HW⟩ := hrel
                  have HKR : Hid (∀ p v, wd.cell? p = some v → wr.cell? p = some v) := fun p v h => by
                    obtain ⟨m, hm⟩ := HW.out
                    rw [hm]
                    exact h
                  by_cases hjn : j < nl
                  · obtain ⟨a7, a8, x, rfl, rfl, c7', c8'⟩ := HEL.out j hjn
                    have cx := HKR.out _ _ c7'
                    have cy := HKR.out _ _ c8'
                    have hjnI : (j : Int) < (nl : Int) := by omega
                    have HWW : Hid (∀ m, ∃ m', wr.drewN m = wd.drewN m') := fun m => by
                      obtain ⟨m0, hm0⟩ := HW.out
                      exact ⟨m0 + m, by rw [hm0, World.drewN_drewN]⟩
                    clear c7' c8'
                    go_upto_region 16 with (fail)
                    go_quiet (fail)
                    have HQ := Lib.hid (HWW.out nq)
                    go_wp2_with fail
                    go_roundw
                    case rel => exact ⟨j + 1, by go_num, by omega, HQ⟩
                    case measure => simp [intOf]; omega
                  · have HEF : Hid (∃ (L' : List Tm.K) (G1 G2 : Nat → Prop), Hid (TO R W2 wr p q L' L' G1 G2 g K F T ∧ L'.length ≤ i + 1)) := by
                      obtain ⟨m, hm⟩ := HW.out
                      rw [hm]
                      exact HE.out m
                    go_wp2_with fail
                    go_meet
                    exact HEF.out
        case rest =>
          obtain ⟨L', G1', G2', HT'⟩ := hcut
          clear HT HLL HL
          obtain ⟨W3, rfl⟩ : ∃ W3 : World, W3 = wc := ⟨_, rfl⟩
          obtain ⟨nx, hnx⟩ : ∃ nx, nx = (L'.head?.map (·.1)).getD 0 := ⟨_, rfl⟩
          obtain ⟨nb, hnb⟩ : ∃ nb, nb = !L'.isEmpty := ⟨_, rfl⟩
          obtain ⟨av, hav⟩ : ∃ av, av = (at_ F L').getD 0 := ⟨_, rfl⟩
          obtain ⟨ab, hab⟩ : ∃ ab, ab = has F L' := ⟨_, rfl⟩
          have hnext := I.next HT'.out.1.t.r1
          rw [← hnx, ← hnb] at hnext
          have HNX := Lib.hid (And.intro hnx hnb)
          have HAV := Lib.hid (And.intro hav hab)
          clear hnx hnb
          go_upto_region 26 with (go_at_call 24; refine hnext.mono ?_; rintro e W4 ⟨rfl, hb4⟩)
          have H4 : Hid (TO R W2 W4 p q L' L' G1' G2' g K F T) := HT'.out.1.grows I.toRep hb4
          have o1 : W4.cell? ⟨g, 1, none⟩ = some (.int .i64 F) := H4.out.o.cell 1
          have hat' := I.at' (k := F) H4.out.t.r1 hF
          rw [← hav, ← hab] at hat'
          clear hav hab hb4 hnext
          go_upto_region 28 with (go_at_call 25; refine hat'.mono ?_; rintro e W5 ⟨rfl, hb5⟩)
          have H5 : Hid (TO R W2 W5 p q L' L' G1' G2' g K F T) := H4.out.grows I.toRep hb5
          have HLn := Lib.hid HT'.out.2
          clear hb5 hat' H4 HT' o1
          obtain ⟨A, n, cap, hrt⟩ := H5.out.t.r2
          have c0 : W5.cell? ⟨q, 0, none⟩ = some (.slice A n cap) := hrt.blk.cell 0
          have HN := Lib.hid hrt.hn
          have hnb : n ≤ 1000000 := by rw [hrt.hn]; exact hrt.few
          have hcp := hrt.hc
          have HRT := Lib.hid hrt
          have HS0 : Hid (Below W5.heap.size W5 W5 ∧ ((0 : Nat), false) = wantF F L' 0) := ⟨Below.refl _ _, rfl⟩
          clear hrt
          go_upto_region 29 with (fail)
          go_loopw [14, 15, 17, 100] (fun v14 v15 _ v100 wy => ∃ (j wa : Nat) (th : Bool), v14 = .int .u64 (wa : Int) ∧ v15 = .bool th ∧ v100 = .int .i64 (j : Int) ∧ j ≤ n ∧ Hid (Below W5.heap.size W5 wy ∧ (wa, th) = wantF F L' j)) (fun _ _ _ v100 _ => n - (intOf v100).toNat)
          case atStart => exact ⟨0, 0, false, rfl, rfl, rfl, Nat.zero_le _, HS0⟩
          case round =>
            clear HS0 c0
            obtain ⟨j, wa, th, rfl, rfl, rfl, hj, HJ⟩ := hrel
            by_cases hjn : j < n
            · obtain ⟨ad2, x, rfl, hB, hx, c1, c2⟩ := tm_at (HRT.out.rd.below HJ.out.1) HN.out hjn
              have HXJ := Lib.hid hx
              obtain ⟨xa, hxa⟩ : ∃ xa, xa = x.1 := ⟨_, rfl⟩
              obtain ⟨xk, hxk⟩ : ∃ xk, xk = x.2 := ⟨_, rfl⟩
              rw [← hxa] at c2
              rw [← hxk] at c1
              have HX : Hid (x = (xa, xk)) := by show x = _; rw [hxa, hxk]
              have HO5 := Lib.hid (H5.out.grows I.toRep HJ.out.1)
              clear hxa hxk hx hB
              go_upto_region 31 with (fail)
              obtain ⟨W6, hW6⟩ : ∃ W6, W6 = wr.alloc (.cells #[.int .i64 xk, .int .u64 (xa : Int)] 74) := ⟨_, rfl⟩
              obtain ⟨g6, hg6⟩ : ∃ g6, g6 = wr.heap.size := ⟨_, rfl⟩
              have bk : Hid (Blk W6 g6 74 #[.int .i64 xk, .int .u64 (xa : Int)]) := by rw [hW6, hg6]; exact Blk.new _ _ _
              have HB6 : Hid (Below W5.heap.size W5 W6) := by rw [hW6]; exact HJ.out.1.alloc HJ.out.1.size _
              have o1 : W6.cell? ⟨g, 1, none⟩ = some (.int .i64 F) := by
                have h := (HO5.out.o.alloc (.cells #[.int .i64 xk, .int .u64 (xa : Int)] 74)).cell 1
                rw [hW6]
                exact h
              rw [← hW6, ← hg6]
              have k0 : W6.cell? ⟨g6, 0, none⟩ = some (.int .i64 xk) := bk.out.cell 0
              have k1 : W6.cell? ⟨g6, 1, none⟩ = some (.int .u64 (xa : Int)) := bk.out.cell 1
              clear hW6 hg6 c1 c2 HO5
              by_cases hxF : xk = F
              · have HW2 : Hid (Below W5.heap.size W5 W6 ∧ (xa, true) = wantF F L' (j + 1)) := ⟨HB6.out, by
                  unfold wantF
                  rw [HXJ.out, HX.out]
                  dsimp only
                  rw [if_pos hxF]⟩
                have hxb : (xk == F) = true := by simpa using hxF
                clear hxF HJ
                go_wp2_with fail
                go_roundw
                case rel => exact ⟨j + 1, xa, true, rfl, rfl, by go_num, by omega, HW2⟩
                case measure => simp [intOf]; omega
              · have HW2 : Hid (Below W5.heap.size W5 W6 ∧ (wa, th) = wantF F L' (j + 1)) := ⟨HB6.out, by
                  unfold wantF
                  rw [HXJ.out, HX.out]
                  dsimp only
                  rw [if_neg hxF]
                  exact HJ.out.2⟩
                have hxb : (xk == F) = false := by simpa using hxF
                clear hxF HJ
                go_wp2_with fail
                go_roundw
                case rel => exact ⟨j + 1, wa, th, rfl, rfl, by go_num, by omega, HW2⟩
                case measure => simp [intOf]; omega
            · have hje : j = n := by omega
              subst hje
              obtain ⟨rfl, rfl⟩ : wa = av ∧ th = ab := by
                have h := HJ.out.2
                rw [HN.out, wantF_end HRT.out.ok, ← HAV.out.1, ← HAV.out.2] at h
                injection h with h1 h2
                exact ⟨h1, h2⟩
              have HO6 := Lib.hid (H5.out.grows I.toRep HJ.out.1)
              have hrd := HRT.out.rd.below HJ.out.1
              have c0 : wr.cell? ⟨q, 0, none⟩ = some (.slice A j cap) := (HRT.out.blk.below HJ.out.1 HRT.out.blk.lt).cell 0
              have hlen : ∀ k, Calls Try.prog 26 #[tptr p] (wr.drewN k) fun e w' => e = .returned (.int .i64 (j : Int)) ∧ wr.drewN k = w' := fun k => by
                have h := I.lenQ (HO6.out.grows I.toRep (below_drewN (Below.refl _ _) k)).t.r1
                rw [← HN.out] at h
                exact h
              clear HJ hjn hj
              go_upto_region 34 with (fail)
              go_cut [160] from 112 to 160 (fun v160 wx => v160 = .bool false ∧ Hid (∃ m, wx = wr.drewN m))
              case first =>
                cases hLL : L' with
                | nil =>
                  obtain rfl : j = 0 := by rw [HN.out, hLL]; rfl
                  obtain rfl : nb = false := by rw [HNX.out.2, hLL]; rfl
                  obtain rfl : nx = 0 := by rw [HNX.out.1, hLL]; rfl
                  clear hLL
                  go_quiet ((go_at_call 26; exact quiet_left (hlen _)))
                  go_wp2_with fail
                  have HQ : Hid (∃ m, wr.drewN nq = wr.drewN m) := ⟨_, rfl⟩
                  go_meet
                  exact ⟨rfl, HQ⟩
                | cons z t =>
                  obtain rfl : nb = true := by rw [HNX.out.2, hLL]; rfl
                  have hnxz : z.1 = nx := by rw [HNX.out.1, hLL]; rfl
                  have hj0 : 0 < j := by rw [HN.out, hLL]; exact Nat.succ_pos _
                  have hj0I : (0 : Int) < (j : Int) := by omega
                  obtain ⟨ad2, x, rfl, _, hx, _, c2⟩ := tm_at hrd HN.out hj0
                  rw [hLL] at hx
                  obtain rfl : z = x := by injection hx
                  have e0 : ad2.add (0 * 2) = ad2 := by simp [Addr.add]
                  rw [e0] at c2
                  rw [hnxz] at c2
                  clear hLL hx e0 hnxz
                  go_quiet ((go_at_call 26; exact quiet_left (hlen _)))
                  go_wp2_with fail
                  have HQ : Hid (∃ m, wr.drewN nq = wr.drewN m) := ⟨_, rfl⟩
                  go_meet
                  exact ⟨rfl, HQ⟩
              case rest =>
                obtain ⟨rfl, HQ⟩ := hcut
                have HF7 : Hid (TW R RT W2 wc p q L' L' (fun _ => False) ∧ L'.length ≤ min (i + 1) 100) := by
                  obtain ⟨m, hm⟩ := HQ.out
                  rw [hm]
                  exact ⟨(HO6.out.grows I.toRep (below_drewN (Below.refl _ _) m)).tw I.toRep, by have := HLn.out; omega⟩
                clear HQ c0 hlen hrd
                go_wp2_with fail
                go_roundw
                case rel => exact ⟨i + 1, L', by go_num, by omega, HF7⟩
                case measure => simp [intOf]; omega
      · obtain ⟨G1, G2, ho⟩ := HO.out
        have HBE : Hid (Below w.heap.size w Wo) := HB2.out.trans (ho.t.bel.mono HB2.out.size)
        clear ho HO
        have h100' : (100 : Int) ≤ (i : Int) := by omega
        go_wp2_with fail
        go_ret
        exact ⟨rfl, HBE.out⟩
    · have hie : i = ns := by omega
      subst hie
      have HBE : Hid (Below w.heap.size w wr) := HB2.out.trans (H.out.1.bel.mono HB2.out.size)
      clear hin hi H
      go_wp2_with fail
      go_ret
      exact ⟨rfl, HBE.out⟩
end Go.Proofs.Ytfgfiiknbkakaaa.timerPlays
