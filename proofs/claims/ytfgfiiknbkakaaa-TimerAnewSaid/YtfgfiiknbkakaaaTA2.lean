/-
  Of the texts TimerAnewWalk: what the laws reach.
-/
import Derived.Test.YtfgfiiknbkakaaaRows
import Derived.Test.YtfgfiiknbkakaaaTA1
import Derived.WalkKit
import Derived.ProofKit
import Derived.OpenShut
import Derived.ShutString
import Derived.ChangeOld
import Derived.Below

namespace Go.Proofs.Ytfgfiiknbkakaaa.timerAnew
open Go.ChangeShapes Go.WideShapes Go.ChangeAt Go.RowKit
open Go.ChangeMaps (open_string shut_string)
set_option linter.unusedVariables false
set_option linter.unusedSimpArgs false
theorem own : ownKnob Try.prog.godebug = none := by kernel_rfl
theorem laidOut : laidOutB Try.prog = true := by kernel_rfl
/-- What the walk is told of a slice of integers that came in. -/
def IsRow (k : IntKind) (w : World) (a : Option Addr) (len cap : Nat) (zs : List Int) : Prop :=
  (a = none ∧ len = 0 ∧ cap = 0 ∧ zs = []) ∨
  ∃ x, a = some x ∧ len ≤ cap ∧ cap ≤ maxLen ∧ zs.length = cap ∧ (∀ i, i < zs.length → w.cell? (x.add i) = some (.int k (zs.getD i 0))) ∧ ∀ n ∈ zs, (Lit.int k n).wf = true
open Words Tm
set_option maxHeartbeats 3200000 in
set_option maxRecDepth 100000 in
theorem walk {R : Tm.Mem} (I : Tm.TmI R) (a0 : Int) (a1 : Option Addr) (len1 cap1 : Nat) (z1 : List Int) (a2 : Bool) (w : World) (w0 : (Lit.int .i64 a0).wf = true) (w1 : IsRow .u64 w a1 len1 cap1 z1) :
    Calls Try.prog 7 #[.int .i64 a0, .slice a1 len1 cap1, .bool a2] w fun e w' => e = .returned (.bool true) ∧ Below w.heap.size w w' := by
  have hk := bounds_i64 w0
  obtain ⟨el, HZ⟩ : ∃ el : Nat → Nat, Hid (∀ i, i < len1 → ∃ a : Addr, a1 = some a ∧ el i ≤ 18446744073709551615 ∧ ∀ V : World, Below w.heap.size w V → V.cell? (a.add i) = some (.int .u64 (el i : Int))) := by
    refine ⟨fun i => (z1.getD i 0).toNat, fun i hi => ?_⟩
    rcases w1 with ⟨_, h2, _⟩ | ⟨y, h1, h2, h3, h4, h5, h6⟩
    · omega
    · have hl : i < z1.length := by omega
      obtain ⟨d, hd, hd2⟩ := nat_u64a (h6 (z1.getD i 0) (by
        rw [List.getD_eq_getElem?_getD, List.getElem?_eq_getElem hl]
        exact List.getElem_mem hl))
      exact ⟨y, h1, by dsimp only; rw [hd]; exact hd2, fun V hb => by
        dsimp only
        have := (hb.cell (World.block_lt_of_cell? w _ (h5 i hl))).trans (h5 i hl)
        rw [this, hd]
        rfl⟩
  have hlen : len1 ≤ 9223372036854775807 := by
    rcases w1 with ⟨_, h2, _⟩ | ⟨y, h1, h2, h3, _⟩
    · omega
    · unfold maxLen at h3; omega
  obtain ⟨N, hN⟩ : ∃ N, N = min len1 50 := ⟨_, rfl⟩
  have HNN : Hid (N = min len1 50) := hN
  have hN1 : N ≤ len1 ∧ N ≤ 50 := by omega
  clear w1 hN
  go_enter Try.func7, Try.ntmps7
  go_wp2_with fail
  refine (first_t I w).mono ?_
  rintro e W2 ⟨rfl, hb2⟩
  have HB2 := Lib.hid hb2
  clear hb2
  go_upto_region 4 with (fail)
  obtain ⟨W3, hW3⟩ : ∃ W3, W3 = W2.alloc (.cells #[.slice none 0 0, .map none] 58) := ⟨_, rfl⟩
  obtain ⟨p, hp⟩ : ∃ p, p = W2.heap.size := ⟨_, rfl⟩
  have H1 : Hid (TW R Triv W2 W3 p 0 (anewL el a0 0) [] (fun _ => False)) := by
    rw [hW3, hp]
    exact (TW.none W2).zero (r := []) I triv_rep (below_new _ _) (tab_zero W2) (Nat.le_refl _)
  rw [← hW3, ← hp]
  clear hW3 hp
  go_upto_region 5 with (fail)
  obtain ⟨wo, rfl⟩ : ∃ wo : World, wo = W3 := ⟨_, rfl⟩
  go_loopw [8, 9, 17] (fun _ _ v17 wr => ∃ i : Nat, v17 = .int .i64 (i : Int) ∧ i ≤ len1 ∧ Hid (TW R Triv W2 wr p 0 (anewL el a0 i) [] (fun _ => False))) (fun _ _ v17 _ => len1 - (intOf v17).toNat)
  case atStart => exact ⟨0, rfl, Nat.zero_le _, H1⟩
  case round =>
    clear H1
    obtain ⟨i, rfl, hi, H⟩ := hrel
    by_cases hil : i < len1
    · obtain ⟨a, rfl, hel, hcz⟩ := HZ.out i hil
      have cz := hcz wr (HB2.out.trans (H.out.bel.mono HB2.out.size))
      obtain ⟨x, hx⟩ : ∃ x, x = el i := ⟨_, rfl⟩
      rw [← hx] at cz hel
      have HX := Lib.hid hx
      clear hcz hx
      by_cases h50 : i < 50
      · have hset := H.out.set I triv_rep (k := a0) (a := x) anew_len hk hel
        go_wp2_with fail
        refine hset.mono ?_
        rintro e W4 ⟨rfl, H4, _⟩
        have H5 : Hid (TW R Triv W2 W4 p 0 (anewL el a0 (i + 1)) [] (fun _ => False)) := by
          rw [← anew_next h50, ← HX.out]
          exact H4.out
        clear H H4 hset
        go_wp2_with fail
        go_roundw
        case rel => exact ⟨i + 1, by go_num, by omega, H5⟩
        case measure => simp [intOf]; omega
      · have H5 : Hid (TW R Triv W2 wr p 0 (anewL el a0 (i + 1)) [] (fun _ => False)) := by rw [anew_same (by omega)]; exact H.out
        clear H
        go_wp2_with fail
        go_roundw
        case rel => exact ⟨i + 1, by go_num, by omega, H5⟩
        case measure => simp [intOf]; omega
    · have hie : i = len1 := by omega
      subst hie
      clear hil hi
      go_upto_region 10 with (fail)
      go_cut [10] from 28 to 30 (fun v10 wx => v10 = .int .i64 (N : Int) ∧ wr = wx)
      case first =>
        by_cases h40 : i ≤ 50
        · have e : N = i := by have := HNN.out; omega
          go_wp2_with fail
          go_meet
          exact ⟨by rw [e] <;> rfl, rfl⟩
        · have e : N = 50 := by have := HNN.out; omega
          go_wp2_with fail
          go_meet
          exact ⟨by rw [e] <;> rfl, rfl⟩
      case rest =>
        obtain ⟨rfl, rfl⟩ := hcut
        by_cases hN0 : N = 0
        · have hi0 : i = 0 := by have := HNN.out; omega
          subst hi0
          have hst := H.out.stop I triv_rep (k := a0) hk
          go_wp2_with fail
          refine hst.mono ?_
          rintro e W4 ⟨he, H4, _⟩
          obtain rfl : e = .returned (.bool false) := he
          have HB4 : Hid (Below w.heap.size w W4) := HB2.out.trans (H4.out.bel.mono HB2.out.size)
          go_wp2_with fail
          go_ret
          exact ⟨rfl, HB4.out⟩
        · obtain ⟨M, hM⟩ : ∃ M, N = M + 1 := ⟨N - 1, by omega⟩
          have hNM : (N : Int) - 1 = (M : Int) := by omega
          have hN0b : ((N : Int) == 0) = false := by simp; omega
          have hMl : M < i := by omega
          have hMi : (M : Int) < (i : Int) := by omega
          obtain ⟨a, rfl, hel, hcz⟩ := HZ.out M hMl
          have cz := hcz wr (HB2.out.trans (H.out.bel.mono HB2.out.size))
          obtain ⟨x, hx⟩ : ∃ x, x = el M := ⟨_, rfl⟩
          rw [← hx] at cz hel
          have HL : Hid (TW R Triv W2 wr p 0 [(x, a0)] [] (fun _ => False)) := by
            have e : anewL el a0 i = [(x, a0)] := by
              unfold anewL
              rw [if_neg (by omega), show min i 50 - 1 = M by have := HNN.out; omega, hx]
            rw [← e]
            exact H.out
          clear hx hcz H hM hN0
          cases a2 with
          | true =>
            have hst := HL.out.stop I triv_rep (k := a0) hk
            go_wp2_with fail
            refine hst.mono ?_
            rintro e W4 ⟨he, H4, _⟩
            obtain rfl : e = .returned (.bool true) := by rw [he, has_one]
            rw [stop_one] at H4
            clear he
            go_wp2_with fail
            refine (H4.out.len I triv_rep).mono ?_
            rintro e W5 ⟨he, H5, _⟩
            obtain rfl : e = .returned (.int .i64 0) := he
            go_wp2_with fail
            refine (H5.out.due I triv_rep (now := 18446744073709551615) (by decide)).mono ?_
            rintro e W6 ⟨A6, c6, n6, rfl, hn6, hc6, hl6, ho6, H6, _⟩
            obtain rfl : n6 = 0 := hl6.out
            have HB6 : Hid (Below w.heap.size w W6) := HB2.out.trans (H6.out.bel.mono HB2.out.size)
            go_wp2_with fail
            go_ret
            exact ⟨rfl, HB6.out⟩
          | false =>
            go_upto_region 16 with (fail)
            go_cut [61] from 53 to 61 (fun v61 wx => v61 = .bool false ∧ Hid (TW R Triv W2 wx p 0 [(x, a0)] [] (fun _ => False)))
            case first =>
              by_cases hx0 : x = 0
              · have hx0' : ¬ (0 : Int) < (x : Int) := by omega
                clear hx0
                go_wp2_with fail
                go_meet
                exact ⟨rfl, HL⟩
              · obtain ⟨x1, hx1⟩ : ∃ x1, x = x1 + 1 := ⟨x - 1, by omega⟩
                have hw : (IntKind.u64.wrap ((x : Int) - 1)) = (x1 : Int) := by simp [IntKind.wrap, IntKind.bits, IntKind.signed]; omega
                have hx0' : (0 : Int) < (x : Int) := by omega
                have hd := HL.out.due I triv_rep (now := x1) (by omega)
                have hdn := due_one_no (k := a0) (x := x) (now := x1) (by omega)
                rw [hdn.1, hdn.2] at hd
                clear hdn hx1 hx0
                go_wp2_with fail
                refine hd.mono ?_
                rintro e W6 ⟨A6, c6, n6, rfl, hn6, hc6, hl6, ho6, H6, _⟩
                obtain rfl : n6 = 0 := hl6.out
                have H7 := Lib.hid (H6.out.more I.toRep triv_rep (Below.refl _ _) (S' := fun _ => False) (fun i h => h.elim))
                clear H6 ho6 hl6
                go_wp2_with fail
                go_meet
                exact ⟨rfl, H7⟩
            case rest =>
              obtain ⟨rfl, HL2⟩ := hcut
              have hd := HL2.out.due I triv_rep (now := x) hel
              have hdn := due_one_yes (k := a0) (x := x) (now := x) (Nat.le_refl _)
              rw [hdn.1, hdn.2] at hd
              clear hdn HL
              go_wp2_with fail
              refine hd.mono ?_
              rintro e W6 ⟨A6, c6, n6, rfl, hn6, hc6, hl6, ho6, H6, _⟩
              obtain rfl : n6 = 1 := hl6.out
              obtain ⟨g6, x6, rfl, hx6, cx6⟩ := own_i64 ho6.out (show 0 < 1 by decide)
              obtain rfl : a0 = x6 := by injection hx6
              clear hx6 ho6 hl6 hd
              go_wp2_with fail
              refine (H6.out.len I triv_rep).mono ?_
              rintro e W7 ⟨he, H7, _⟩
              obtain rfl : e = .returned (.int .i64 0) := he
              go_wp2_with fail
              refine (H7.out.stop I triv_rep (k := a0) hk).mono ?_
              rintro e W8 ⟨he, H8, _⟩
              obtain rfl : e = .returned (.bool false) := he
              have HB8 : Hid (Below w.heap.size w W8) := HB2.out.trans (H8.out.bel.mono HB2.out.size)
              go_wp2_with fail
              go_ret
              exact ⟨rfl, HB8.out⟩
end Go.Proofs.Ytfgfiiknbkakaaa.timerAnew
