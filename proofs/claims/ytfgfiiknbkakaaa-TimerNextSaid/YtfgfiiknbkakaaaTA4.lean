/-
  Of the texts TimerNextWalk: what the laws reach.
-/
import Derived.Test.YtfgfiiknbkakaaaRows
import Derived.Test.YtfgfiiknbkakaaaTA3
import Derived.WalkKit
import Derived.ProofKit
import Derived.OpenShut
import Derived.ShutString
import Derived.ChangeOld
import Derived.Below

namespace Go.Proofs.Ytfgfiiknbkakaaa.timerNext
open Go.ChangeShapes Go.WideShapes Go.ChangeAt Go.RowKit
open Go.ChangeMaps (open_string shut_string)
set_option linter.unusedVariables false
set_option linter.unusedSimpArgs false
theorem own : ownKnob Try.prog.godebug = none := by kernel_rfl
theorem laidOut : laidOutB Try.prog = true := by kernel_rfl
/-- What the walk is told of a slice of integers that came in. -/
def IsRow (k : IntKind) (w : World) (a : Option Addr) (len cap : Nat) (zs : List Int) : Prop :=
  (a = none ∧ len = 0 ∧ cap = 0 ∧ zs = []) ∨
  ∃ x, a = some x ∧ len ≤ cap ∧ cap ≤ maxLen ∧ zs.length = cap ∧ (∀ i, i < zs.length → w.cell? (x.add i) = some (.int k (zs.getD i 0))) ∧ ∀ n ∈ zs, (Lit.int k n).wf = true
open Words Tm
set_option maxHeartbeats 3200000 in
set_option maxRecDepth 100000 in
theorem walk {R : Tm.Mem} (I : Tm.TmI R) (a0 : Option Addr) (len0 cap0 : Nat) (z0 : List Int) (w : World) (w0 : IsRow .u64 w a0 len0 cap0 z0) :
    Calls Try.prog 8 #[.slice a0 len0 cap0] w fun e w' => e = .returned (.bool true) ∧ Below w.heap.size w w' := by
  obtain ⟨el, HZ⟩ : ∃ el : Nat → Nat, Hid (∀ i, i < len0 → ∃ a : Addr, a0 = some a ∧ el i ≤ 18446744073709551615 ∧ ∀ V : World, Below w.heap.size w V → V.cell? (a.add i) = some (.int .u64 (el i : Int))) := by
    refine ⟨fun i => (z0.getD i 0).toNat, fun i hi => ?_⟩
    rcases w0 with ⟨_, h2, _⟩ | ⟨y, h1, h2, h3, h4, h5, h6⟩
    · omega
    · have hl : i < z0.length := by omega
      obtain ⟨d, hd, hd2⟩ := nat_u64a (h6 (z0.getD i 0) (by
        rw [List.getD_eq_getElem?_getD, List.getElem?_eq_getElem hl]
        exact List.getElem_mem hl))
      exact ⟨y, h1, by dsimp only; rw [hd]; exact hd2, fun V hb => by
        dsimp only
        have := (hb.cell (World.block_lt_of_cell? w _ (h5 i hl))).trans (h5 i hl)
        rw [this, hd]
        rfl⟩
  have hlen : len0 ≤ 9223372036854775807 := by
    rcases w0 with ⟨_, h2, _⟩ | ⟨y, h1, h2, h3, _⟩
    · omega
    · unfold maxLen at h3; omega
  obtain ⟨N, hN⟩ : ∃ N, N = min len0 50 := ⟨_, rfl⟩
  have HNN : Hid (N = min len0 50) := hN
  have hN1 : N ≤ len0 ∧ N ≤ 50 := by omega
  clear w0 hN
  go_enter Try.func8, Try.ntmps8
  go_wp2_with fail
  refine (first_t I w).mono ?_
  rintro e W2 ⟨rfl, hb2⟩
  have HB2 := Lib.hid hb2
  clear hb2
  go_upto_region 4 with (fail)
  obtain ⟨W3, hW3⟩ : ∃ W3, W3 = W2.alloc (.cells #[.slice none 0 0, .map none] 58) := ⟨_, rfl⟩
  obtain ⟨p, hp⟩ : ∃ p, p = W2.heap.size := ⟨_, rfl⟩
  have H1 : Hid (TW R Triv W2 W3 p 0 [] [] (fun _ => False) ∧ NxM el (-25) 0 [] ∧ ([] : List K).length = 0) := by
    rw [hW3, hp]
    exact ⟨(TW.none W2).zero (r := []) I triv_rep (below_new _ _) (tab_zero W2) (Nat.le_refl _), nx_nil, rfl⟩
  rw [← hW3, ← hp]
  clear hW3 hp
  go_cut [4] from 16 to 18 (fun v4 wx => v4 = .int .i64 (N : Int) ∧ W3 = wx)
  case first =>
    by_cases h40 : len0 ≤ 50
    · have e : N = len0 := by have := HNN.out; omega
      go_wp2_with fail
      go_meet
      exact ⟨by rw [e] <;> rfl, rfl⟩
    · have e : N = 50 := by have := HNN.out; omega
      go_wp2_with fail
      go_meet
      exact ⟨by rw [e] <;> rfl, rfl⟩
  case rest =>
    obtain ⟨rfl, rfl⟩ := hcut
    go_upto_region 6 with (fail)
    obtain ⟨wo, rfl⟩ : ∃ wo : World, wo = W3 := ⟨_, rfl⟩
    go_loopw [5, 20] (fun _ v20 wr => ∃ (i : Nat) (L : List K), v20 = .int .i64 (i : Int) ∧ i ≤ N ∧ Hid (TW R Triv W2 wr p 0 L [] (fun _ => False) ∧ NxM el (-25) i L ∧ L.length = i)) (fun _ v20 _ => N - (intOf v20).toNat)
    case atStart => exact ⟨0, [], rfl, Nat.zero_le _, H1⟩
    case round =>
      clear H1
      obtain ⟨i, L, rfl, hi, H⟩ := hrel
      by_cases hil : i < N
      · obtain ⟨a, rfl, hel, hcz⟩ := HZ.out i (by omega)
        have cz := hcz wr (HB2.out.trans (H.out.1.bel.mono HB2.out.size))
        clear hcz
        have hset := H.out.1.set I triv_rep (k := (i : Int) + (-25)) (a := el i) (by rw [H.out.2.2]; omega) (by omega) hel
        rw [show (i : Int) + (-25) = (i : Int) - 25 by omega] at hset
        go_wp2_with fail
        refine hset.mono ?_
        rintro e W4 ⟨rfl, H4, _⟩
        have H5 : Hid (TW R Triv W2 W4 p 0 (put ((i : Int) + (-25)) (el i) L) [] (fun _ => False) ∧ NxM el (-25) (i + 1) (put ((i : Int) + (-25)) (el i) L) ∧ (put ((i : Int) + (-25)) (el i) L).length = i + 1) :=
          ⟨by rw [show (i : Int) + (-25) = (i : Int) - 25 by omega]; exact H4.out, nx_put H.out.2.1, by rw [stop_ins_len (nx_no H.out.2.1), H.out.2.2]⟩
        clear H H4 hset
        go_wp2_with fail
        go_roundw
        case rel => exact ⟨i + 1, _, by go_num, by omega, H5⟩
        case measure => simp [intOf]; omega
      · have hie : i = N := by omega
        subst hie
        clear hil hi
        have HQ : Hid (TW R Triv W2 wr p 0 L [] (fun _ => False) ∧ NxM el (-25) i L ∧ 0 + L.length = i ∧ L.length + 0 ≤ i) := ⟨H.out.1, H.out.2.1, by have := H.out.2.2; omega, by have := H.out.2.2; omega⟩
        clear H
        go_upto_region 12 with (fail)
        obtain ⟨wp, rfl⟩ : ∃ wp : World, wp = wr := ⟨_, rfl⟩
        go_loopw [6, 7, 8, 9, 11, 32] (fun v6 _ _ _ _ v32 wz => ∃ (r seen : Nat) (L : List K), v6 = .int .i64 (seen : Int) ∧ v32 = .int .i64 (r : Int) ∧ r ≤ i ∧ seen ≤ i ∧ Hid (TW R Triv W2 wz p 0 L [] (fun _ => False) ∧ NxM el (-25) i L ∧ seen + L.length = i ∧ L.length + r ≤ i)) (fun _ _ _ _ _ v32 _ => i - (intOf v32).toNat)
        case atStart => exact ⟨0, 0, L, rfl, rfl, Nat.zero_le _, Nat.zero_le _, HQ⟩
        case round =>
          clear HQ L
          obtain ⟨r, seen, L, rfl, rfl, hr, hse, H⟩ := hrel
          by_cases hri : r < i
          · have hnx := H.out.1.next I triv_rep
            cases L with
            | nil =>
              have hse2 : seen = i := by have := H.out.2.2.1; simpa using this
              subst hse2
              go_wp2_with fail
              refine hnx.mono ?_
              rintro e W5 ⟨he, H5, _⟩
              obtain rfl : e = .returned (.tuple #[.int .u64 0, .bool false]) := he
              go_wp2_with fail
              refine (H5.out.next I triv_rep).mono ?_
              rintro e W6 ⟨he, H6, _⟩
              obtain rfl : e = .returned (.tuple #[.int .u64 0, .bool false]) := he
              go_wp2_with fail
              refine (H6.out.len I triv_rep).mono ?_
              rintro e W7 ⟨he, H7, _⟩
              obtain rfl : e = .returned (.int .i64 0) := he
              have HB7 : Hid (Below w.heap.size w W7) := HB2.out.trans (H7.out.bel.mono HB2.out.size)
              go_wp2_with fail
              go_ret
              exact ⟨rfl, HB7.out⟩
            | cons z t =>
              obtain ⟨x, hx⟩ : ∃ x, x = z.1 := ⟨_, rfl⟩
              have hxb : x ≤ 18446744073709551615 := by rw [hx]; exact ((H.out.1.ok1 I.toRep).1.bnd z List.mem_cons_self).1
              have HX := Lib.hid hx
              clear hx
              go_wp2_with fail
              refine hnx.mono ?_
              rintro e W5 ⟨he, H5, _⟩
              obtain rfl : e = .returned (.tuple #[.int .u64 (x : Int), .bool true]) := by rw [HX.out]; exact he
              clear he
              go_upto_region 15 with (fail)
              go_cut [48] from 40 to 48 (fun v48 wx => v48 = .bool false ∧ Hid (TW R Triv W2 wx p 0 (z :: t) [] (fun _ => False)))
              case first =>
                by_cases hx0 : x = 0
                · have hx0' : ¬ (0 : Int) < (x : Int) := by omega
                  clear hx0
                  go_wp2_with fail
                  go_meet
                  exact ⟨rfl, H5⟩
                · obtain ⟨x1, hx1⟩ : ∃ x1, x = x1 + 1 := ⟨x - 1, by omega⟩
                  have hw : (IntKind.u64.wrap ((x : Int) - 1)) = (x1 : Int) := by simp [IntKind.wrap, IntKind.bits, IntKind.signed]; omega
                  have hx0' : (0 : Int) < (x : Int) := by omega
                  have hd := H5.out.due I triv_rep (now := x1) (by omega)
                  have hdn := due_before (z := z) (t := t) (now := x1) (by have := HX.out; omega)
                  rw [hdn.1, hdn.2] at hd
                  clear hdn hx1 hx0
                  go_wp2_with fail
                  refine hd.mono ?_
                  rintro e W6 ⟨A6, c6, n6, rfl, hn6, hc6, hl6, ho6, H6, _⟩
                  obtain rfl : n6 = 0 := hl6.out
                  have H7 := Lib.hid (H6.out.more I.toRep triv_rep (Below.refl _ _) (S' := fun _ => False) (fun i h => h.elim))
                  clear H6 ho6 hl6
                  go_wp2_with fail
                  go_meet
                  exact ⟨rfl, H7⟩
              case rest =>
                obtain ⟨rfl, HL2⟩ := hcut
                have hd := HL2.out.due I triv_rep (now := x) hxb
                go_wp2_with fail
                refine hd.mono ?_
                rintro e W6 ⟨A6, c6, n6, rfl, hn6, hc6, hl6, ho6, H6, _⟩
                have hpos : 0 < n6 := by rw [hl6.out, HX.out]; exact due_pos
                have hposI : ¬ (n6 : Int) = 0 := by omega
                have HDL := Lib.hid (due_len (now := x) (L := z :: t))
                have hle6 : seen + n6 ≤ i := by have h1 := H.out.2.2.1; have h2 := HDL.out; have h3 := hl6.out; omega
                have HN6 : Hid (TW R Triv W2 W6 p 0 (dueR x (z :: t)) [] (fun _ => False) ∧ NxM el (-25) i (dueR x (z :: t)) ∧ (seen + n6) + (dueR x (z :: t)).length = i ∧ (dueR x (z :: t)).length + (r + 1) ≤ i) :=
                  ⟨H6.out.more I.toRep triv_rep (Below.refl _ _) (fun i h => h.elim), nx_sub H.out.2.1 (fun y hy => dueR_sub y hy), by have h1 := H.out.2.2.1; have h2 := HDL.out; have h3 := hl6.out; omega, by have h1 := H.out.2.2.2; have h2 := HDL.out; have h3 := hl6.out; omega⟩
                have HEL : Hid (∀ q, q < n6 → ∃ (g : Nat) (j : Nat), A6 = some ⟨g, 0, none⟩ ∧ j < i ∧ el j = x ∧ W6.cell? ⟨g, q, none⟩ = some (.int .i64 ((j : Int) - 25))) := fun q hq => by
                  obtain ⟨g, y, e1, e2, e3⟩ := own_i64 ho6.out hq
                  rw [List.getElem?_map] at e2
                  cases hz : (dueL x (z :: t))[q]? with
                  | none => rw [hz] at e2; cases e2
                  | some v =>
                    rw [hz] at e2
                    injection e2 with e2
                    have hm : v ∈ dueL x (z :: t) := List.mem_of_getElem? hz
                    obtain ⟨j, hj, e4⟩ := H.out.2.1 v (dueL_sub v hm)
                    have h1 : v.1 = z.1 := by
                      rw [HX.out] at hm
                      exact due_head (H.out.1.ok1 I.toRep).1 hm
                    refine ⟨g, j, e1, hj, by rw [HX.out, ← h1, e4], ?_⟩
                    rw [e3, ← e2, e4]
                    rfl
                clear hd H HL2 H6 ho6 hl6 H5 hnx HDL
                go_upto_region 21 with (fail)
                obtain ⟨wd, rfl⟩ : ∃ wd : World, wd = W6 := ⟨_, rfl⟩
                go_loopw [11, 56] (fun _ v56 wy => ∃ q : Nat, v56 = .int .i64 (q : Int) ∧ q ≤ n6 ∧ wy = wd) (fun _ v56 _ => n6 - (intOf v56).toNat)
                case atStart => exact ⟨0, rfl, Nat.zero_le _, rfl⟩
                case round =>
                  obtain ⟨q, rfl, hq, rfl⟩ := hrel
                  by_cases hqn : q < n6
                  · obtain ⟨g, j, rfl, hji, hej, cq⟩ := HEL.out q hqn
                    obtain ⟨a, rfl, hel, hcz⟩ := HZ.out j (by have := HNN.out; omega)
                    have cz := hcz wr (HB2.out.trans (HN6.out.1.bel.mono HB2.out.size))
                    rw [hej] at cz
                    have hj25 : (j : Int) - 25 + 25 = (j : Int) := by omega
                    clear hcz hel hej
                    go_wp2_with fail
                    go_roundw
                    case rel => exact ⟨q + 1, by go_num, by omega, trivial⟩
                    case measure => simp [intOf]; omega
                  · have hqe : q = n6 := by omega
                    subst hqe
                    obtain ⟨s6, hs6⟩ : ∃ s6, s6 = seen + q := ⟨_, rfl⟩
                    have hs6I : (seen : Int) + (q : Int) = (s6 : Int) := by omega
                    rw [← hs6] at HN6 hle6
                    clear hs6
                    go_wp2_with fail
                    go_roundw
                    case rel => exact ⟨r + 1, s6, _, rfl, by go_num, by omega, hle6, HN6⟩
                    case measure => simp [intOf]; omega
          · have hL : L = [] := List.eq_nil_of_length_eq_zero (by have := H.out.2.2.2; omega)
            subst hL
            have hse2 : seen = i := by have := H.out.2.2.1; simpa using this
            subst hse2
            have hnx := H.out.1.next I triv_rep
            go_wp2_with fail
            refine hnx.mono ?_
            rintro e W6 ⟨he, H6, _⟩
            obtain rfl : e = .returned (.tuple #[.int .u64 0, .bool false]) := he
            go_wp2_with fail
            refine (H6.out.len I triv_rep).mono ?_
            rintro e W7 ⟨he, H7, _⟩
            obtain rfl : e = .returned (.int .i64 0) := he
            have HB7 : Hid (Below w.heap.size w W7) := HB2.out.trans (H7.out.bel.mono HB2.out.size)
            go_wp2_with fail
            go_ret
            exact ⟨rfl, HB7.out⟩
end Go.Proofs.Ytfgfiiknbkakaaa.timerNext
