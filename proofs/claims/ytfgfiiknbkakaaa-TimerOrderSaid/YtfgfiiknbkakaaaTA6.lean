/-
  Of the texts TimerOrderWalk: what the laws reach.
-/
import Derived.Test.YtfgfiiknbkakaaaRows
import Derived.Test.YtfgfiiknbkakaaaTA5
import Derived.WalkKit
import Derived.ProofKit
import Derived.OpenShut
import Derived.ShutString
import Derived.ChangeOld
import Derived.Below

namespace Go.Proofs.Ytfgfiiknbkakaaa.timerOrder
open Go.ChangeShapes Go.WideShapes Go.ChangeAt Go.RowKit
open Go.ChangeMaps (open_string shut_string)
set_option linter.unusedVariables false
set_option linter.unusedSimpArgs false
theorem own : ownKnob Try.prog.godebug = none := by kernel_rfl
theorem laidOut : laidOutB Try.prog = true := by kernel_rfl
/-- What the walk is told of a slice of integers that came in. -/
def IsRow (k : IntKind) (w : World) (a : Option Addr) (len cap : Nat) (zs : List Int) : Prop :=
  (a = none ∧ len = 0 ∧ cap = 0 ∧ zs = []) ∨
  ∃ x, a = some x ∧ len ≤ cap ∧ cap ≤ maxLen ∧ zs.length = cap ∧ (∀ i, i < zs.length → w.cell? (x.add i) = some (.int k (zs.getD i 0))) ∧ ∀ n ∈ zs, (Lit.int k n).wf = true
open Words Tm
set_option maxHeartbeats 3200000 in
set_option maxRecDepth 100000 in
theorem walk {R : Tm.Mem} (I : Tm.TmI R) (a0 : Option Addr) (len0 cap0 : Nat) (z0 : List Int) (w : World) (w0 : IsRow .u64 w a0 len0 cap0 z0) :
    Calls Try.prog 5 #[.slice a0 len0 cap0] w fun e w' => e = .returned (.bool true) ∧ Below w.heap.size w w' := by
  obtain ⟨el, HZ⟩ : ∃ el : Nat → Nat, Hid (∀ i, i < len0 → ∃ a : Addr, a0 = some a ∧ el i ≤ 18446744073709551615 ∧ ∀ V : World, Below w.heap.size w V → V.cell? (a.add i) = some (.int .u64 (el i : Int))) := by
    refine ⟨fun i => (z0.getD i 0).toNat, fun i hi => ?_⟩
    rcases w0 with ⟨_, h2, _⟩ | ⟨y, h1, h2, h3, h4, h5, h6⟩
    · omega
    · have hl : i < z0.length := by omega
      obtain ⟨d, hd, hd2⟩ := nat_u64a (h6 (z0.getD i 0) (by
        rw [List.getD_eq_getElem?_getD, List.getElem?_eq_getElem hl]
        exact List.getElem_mem hl))
      exact ⟨y, h1, by dsimp only; rw [hd]; exact hd2, fun V hb => by
        dsimp only
        have := (hb.cell (World.block_lt_of_cell? w _ (h5 i hl))).trans (h5 i hl)
        rw [this, hd]
        rfl⟩
  have hlen : len0 ≤ 9223372036854775807 := by
    rcases w0 with ⟨_, h2, _⟩ | ⟨y, h1, h2, h3, _⟩
    · omega
    · unfold maxLen at h3; omega
  obtain ⟨N, hN⟩ : ∃ N, N = min len0 60 := ⟨_, rfl⟩
  have HNN : Hid (N = min len0 60) := hN
  have hN1 : N ≤ len0 ∧ N ≤ 60 := by omega
  clear w0 hN
  go_enter Try.func5, Try.ntmps5
  go_wp2_with fail
  refine (first_t I w).mono ?_
  rintro e W2 ⟨rfl, hb2⟩
  have HB2 := Lib.hid hb2
  clear hb2
  go_upto_region 3 with (fail)
  go_cut [3] from 12 to 14 (fun v3 wx => v3 = .int .i64 (N : Int) ∧ W2 = wx)
  case first =>
    by_cases h40 : len0 ≤ 60
    · have e : N = len0 := by have := HNN.out; omega
      go_wp2_with fail
      go_meet
      exact ⟨by rw [e] <;> rfl, rfl⟩
    · have e : N = 60 := by have := HNN.out; omega
      go_wp2_with fail
      go_meet
      exact ⟨by rw [e] <;> rfl, rfl⟩
  case rest =>
    obtain ⟨rfl, rfl⟩ := hcut
    go_upto_region 6 with (fail)
    obtain ⟨pa, hpa⟩ : ∃ pa, pa = W2.heap.size := ⟨_, rfl⟩
    obtain ⟨pb, hpb⟩ : ∃ pb, pb = W2.heap.size + 1 := ⟨_, rfl⟩
    obtain ⟨W4, hW4⟩ : ∃ W4, W4 = (W2.alloc (.cells #[.slice none 0 0, .map none] 58)).alloc (.cells #[.slice none 0 0, .map none] 58) := ⟨_, rfl⟩
    have H1 : Hid (TW R R W2 W4 pa pb [] [] (fun _ => False) ∧ OrM el 0 0 [] ∧ ([] : List K).length = 0 ∧ OrM el N N [] ∧ ([] : List K).length = 0) := by
      refine ⟨?_, or_nil, rfl, or_nil, rfl⟩
      have h1 := (TW.none W2).zero (r := []) I triv_rep (below_new _ _) (tab_zero W2) (Nat.le_refl _)
      have h2 := h1.swap.zero (r := []) I I.toRep (below_new _ _) (tab_zero _) (Nat.le_refl _)
      rw [hW4, hpa, hpb, ← World.size_alloc (w := W2) (o := .cells #[.slice none 0 0, .map none] 58)]
      exact h2.swap
    rw [← hW4, ← hpb, ← hpa]
    clear hW4 hpa hpb
    obtain ⟨wo, rfl⟩ : ∃ wo : World, wo = W4 := ⟨_, rfl⟩
    go_loopw [6, 16] (fun _ v16 wr => ∃ (i : Nat) (La Lb : List K), v16 = .int .i64 (i : Int) ∧ i ≤ N ∧ Hid (TW R R W2 wr pa pb La Lb (fun _ => False) ∧ OrM el 0 i La ∧ La.length = i ∧ OrM el (N - i) N Lb ∧ Lb.length = i)) (fun _ v16 _ => N - (intOf v16).toNat)
    case atStart => exact ⟨0, [], [], rfl, Nat.zero_le _, H1⟩
    case round =>
      clear H1
      obtain ⟨i, La, Lb, rfl, hi, H⟩ := hrel
      by_cases hil : i < N
      · obtain ⟨m, hm⟩ : ∃ m, m = N - 1 - i := ⟨_, rfl⟩
        have hmI : (N : Int) - 1 - (i : Int) = (m : Int) := by omega
        obtain ⟨a, rfl, hel, hcz⟩ := HZ.out i (by omega)
        obtain ⟨a', e', hel', hcz'⟩ := HZ.out m (by omega)
        injection e' with e'
        subst e'
        have cz := hcz wr (HB2.out.trans (H.out.1.bel.mono HB2.out.size))
        have hset := H.out.1.set I I.toRep (k := (i : Int)) (a := el i) (by rw [H.out.2.2.1]; omega) (by omega) hel
        have HCZ := Lib.hid hcz'
        have HM := Lib.hid hm
        have hml : (m : Int) < (len0 : Int) := by omega
        have hmN : m < N := by omega
        clear hcz hcz' hm
        go_wp2_with fail
        refine hset.mono ?_
        rintro e W5 ⟨rfl, H5, _⟩
        have cz2 := HCZ.out W5 (HB2.out.trans (H5.out.bel.mono HB2.out.size))
        have hset2 := H5.out.swap.set I I.toRep (k := (m : Int)) (a := el m) (by rw [H.out.2.2.2.2]; omega) (by omega) hel'
        go_wp2_with fail
        refine hset2.mono ?_
        rintro e W6 ⟨rfl, H6, _⟩
        have hb1 : OrM el (m + 1) N Lb := by have h := H.out.2.2.2.1; rw [show N - i = m + 1 by have := HM.out; omega] at h; exact h
        have H7 : Hid (TW R R W2 W6 pa pb (put (i : Int) (el i) La) (put (m : Int) (el m) Lb) (fun _ => False) ∧ OrM el 0 (i + 1) (put (i : Int) (el i) La) ∧ (put (i : Int) (el i) La).length = i + 1 ∧ OrM el (N - (i + 1)) N (put (m : Int) (el m) Lb) ∧ (put (m : Int) (el m) Lb).length = i + 1) :=
          ⟨H6.out.swap, or_up H.out.2.1, by rw [stop_ins_len (or_no_up H.out.2.1), H.out.2.2.1], by rw [show N - (i + 1) = m by have := HM.out; omega]; exact or_down hb1 hmN, by rw [stop_ins_len (or_no_down hb1), H.out.2.2.2.2]⟩
        clear H H5 H6 hset hset2 hb1 HM HCZ
        go_wp2_with fail
        go_roundw
        case rel => exact ⟨i + 1, _, _, by go_num, by omega, H7⟩
        case measure => simp [intOf]; omega
      · have hie : i = N := by omega
        subst hie
        clear hil hi
        have oka := (H.out.1.ok1 I.toRep).1
        have okb := (H.out.1.ok2 I.toRep).1
        have hab : La = Lb := or_same H.out.2.1 (by have h := H.out.2.2.2.1; rw [Nat.sub_self] at h; exact h) oka okb
        subst hab
        have HL := Lib.hid (And.intro H.out.2.1 (And.intro H.out.2.2.1 oka))
        have hd := H.out.1.due I I.toRep (now := 18446744073709551615) (by decide)
        rw [(due_max oka).1, (due_max oka).2] at hd
        clear okb
        go_wp2_with fail
        refine hd.mono ?_
        rintro e W6 ⟨A6, c6, n6, rfl, hn6, hc6, hl6, ho6, H6, _⟩
        have hd2 := H6.out.swap.due I I.toRep (now := 18446744073709551615) (by decide)
        rw [(due_max oka).1, (due_max oka).2] at hd2
        go_wp2_with fail
        refine hd2.mono ?_
        rintro e W7 ⟨A7, c7, n7, rfl, hn7, hc7, hl7, ho7, H7, k7⟩
        obtain rfl : n6 = i := by rw [hl6.out]; exact HL.out.2.1
        obtain rfl : n7 = n6 := by rw [hl7.out]; exact HL.out.2.1
        have HO6 := Lib.hid (k7.out.own ho6.out (fun g hg => .inr ⟨g, hg, rfl⟩))
        have hlen := H7.out.swap.len I I.toRep
        have HO7 := Lib.hid ho7.out
        have HEL : Hid (∀ q, q < n7 → ∃ (g6 g7 j : Nat), A6 = some ⟨g6, 0, none⟩ ∧ A7 = some ⟨g7, 0, none⟩ ∧ j < n7 ∧ La[q]? = some (el j, (j : Int)) ∧ W7.cell? ⟨g6, q, none⟩ = some (.int .i64 (j : Int)) ∧ W7.cell? ⟨g7, q, none⟩ = some (.int .i64 (j : Int))) := fun q hq => by
          obtain ⟨g6, y6, e1, e2, e3⟩ := own_i64 HO6.out hq
          obtain ⟨g7, y7, f1, f2, f3⟩ := own_i64 HO7.out hq
          obtain ⟨j, hj, hjq⟩ := or_at HL.out.1 (q := q) (by rw [HL.out.2.1]; exact hq)
          rw [List.getElem?_map, hjq] at e2 f2
          injection e2 with e2
          injection f2 with f2
          exact ⟨g6, g7, j, e1, f1, hj, hjq, by rw [e3, ← e2], by rw [f3, ← f2]⟩
        have HB7 : Hid (Below W2.heap.size W2 W7) := H7.out.bel
        clear hd hd2 H H6 ho6 ho7 hl6 hl7 k7 oka HO6 HO7
        go_wp2_with (go_at_call 26; refine hlen.mono ?_; rintro e W8 ⟨he8, H8, hb8⟩; obtain rfl : e = .returned (.int .i64 0) := he8)
        have HK8 : Hid (∀ g q v, W7.cell? ⟨g, q, none⟩ = some v → W8.cell? ⟨g, q, none⟩ = some v) := fun g q v h => (hb8.out.cell (World.block_lt_of_cell? W7 _ h)).trans h
        clear hb8 hlen
        go_upto_region 15 with (fail)
        obtain ⟨wd, rfl⟩ : ∃ wd : World, wd = W8 := ⟨_, rfl⟩
        go_loopw [9, 56] (fun _ v56 wy => ∃ q : Nat, v56 = .int .i64 (q : Int) ∧ q ≤ n7 ∧ Hid (∃ m, wy = wd.drewN m)) (fun _ v56 _ => n7 - (intOf v56).toNat)
        case atStart => exact ⟨0, rfl, Nat.zero_le _, ⟨0, rfl⟩⟩
        case round =>
          obtain ⟨q, rfl, hq, HW⟩ := hrel
          have HKR : Hid (∀ p v, wd.cell? p = some v → wr.cell? p = some v) := fun p v h => by
            obtain ⟨m, hm⟩ := HW.out
            rw [hm]
            exact h
          by_cases hqn : q < n7
          · obtain ⟨g6, g7, j, rfl, rfl, hjn, hjq, c6', c7'⟩ := HEL.out q hqn
            obtain ⟨a, rfl, hel, hcz⟩ := HZ.out j (by omega)
            have cz := HKR.out _ _ (hcz wd (HB2.out.trans (H8.out.bel.mono HB2.out.size)))
            have cx := HKR.out _ _ (HK8.out _ _ _ c6')
            have cy := HKR.out _ _ (HK8.out _ _ _ c7')
            have HJ := Lib.hid hjq
            have hjl : (j : Int) < (len0 : Int) := by omega
            have hqnI : (q : Int) < (n7 : Int) := by omega
            obtain ⟨x, hx⟩ : ∃ x, x = el j := ⟨_, rfl⟩
            rw [← hx] at cz hel
            have HX := Lib.hid hx
            clear hjq c6' c7' hcz hx
            go_upto_region 17 with (fail)
            go_cut [119] from 59 to 119 (fun v119 wx => v119 = .bool false ∧ Hid (∃ m, wx = wd.drewN m))
            case first =>
              have HWW : Hid (∀ m, ∃ m', wr.drewN m = wd.drewN m') := fun m => by
                obtain ⟨m0, hm0⟩ := HW.out
                exact ⟨m0 + m, by rw [hm0, World.drewN_drewN]⟩
              by_cases hq0 : q = 0
              · have hq0' : decide ((0 : Int) < (q : Int)) = false := decide_eq_false (by omega)
                have hq0'' : decide (0 < q) = false := decide_eq_false (by omega)
                clear hq0
                go_quiet (fail)
                go_wp2_with fail
                have HQ := Lib.hid (HWW.out nq)
                go_meet
                exact ⟨rfl, HQ⟩
              · obtain ⟨q1, hq1⟩ : ∃ q1, q = q1 + 1 := ⟨q - 1, by omega⟩
                obtain ⟨g6', g7', j', e6, e7, hjn', hjq', c6', _⟩ := HEL.out q1 (by omega)
                injection e6 with e6
                injection e6 with e6 _ _
                subst e6
                obtain ⟨a', e8, hel', hcz'⟩ := HZ.out j' (by omega)
                injection e8 with e8
                subst e8
                have cz' := HKR.out _ _ (hcz' wd (HB2.out.trans (H8.out.bel.mono HB2.out.size)))
                have cx' := HKR.out _ _ (HK8.out _ _ _ c6')
                have hjl' : (j' : Int) < (len0 : Int) := by omega
                have hqq : (q : Int) - 1 = (q1 : Int) := by omega
                have hq1n : (q1 : Int) < (n7 : Int) := by omega
                have hq0' : (0 : Int) < (q : Int) := by omega
                have hq0'' : 0 < q := by omega
                obtain ⟨x', hx'⟩ : ∃ x', x' = el j' := ⟨_, rfl⟩
                rw [← hx'] at cz' hel'
                have hlt := or_lt HL.out.2.2 (q := q1) hjq' (by rw [← hq1]; exact HJ.out)
                rw [← hx', ← HX.out] at hlt
                clear e7 hjq' c6' hcz' hx' hq1 hq0
                rcases hlt with hlt | ⟨hle, hlt⟩
                · have h1 : decide ((x : Int) < (x' : Int)) = false := decide_eq_false (by omega)
                  have h1' : decide (x < x') = false := decide_eq_false (by omega)
                  have h2 : ((x' : Int) == (x : Int)) = false := by simp; omega
                  have h2' : (x' == x) = false := by simp; omega
                  have h2'' : ¬ x' = x := by omega
                  clear hlt
                  go_quiet (fail)
                  go_wp2_with fail
                  have HQ := Lib.hid (HWW.out nq)
                  go_meet
                  exact ⟨rfl, HQ⟩
                · subst hle
                  have h1 : ¬ (j : Int) ≤ (j' : Int) := by omega
                  have h1' : decide (j ≤ j') = false := decide_eq_false (by omega)
                  clear hlt
                  go_quiet (fail)
                  go_wp2_with fail
                  have HQ := Lib.hid (HWW.out nq)
                  go_meet
                  exact ⟨rfl, HQ⟩
            case rest =>
              obtain ⟨rfl, HQ⟩ := hcut
              go_wp2_with fail
              go_roundw
              case rel => exact ⟨q + 1, by go_num, by omega, HQ⟩
              case measure => simp [intOf]; omega
          · have HBE : Hid (Below w.heap.size w wr) := by
              obtain ⟨m, hm⟩ := HW.out
              rw [hm]
              exact below_drewN (HB2.out.trans (H8.out.bel.mono HB2.out.size)) m
            go_wp2_with fail
            go_ret
            exact ⟨rfl, HBE.out⟩
end Go.Proofs.Ytfgfiiknbkakaaa.timerOrder
