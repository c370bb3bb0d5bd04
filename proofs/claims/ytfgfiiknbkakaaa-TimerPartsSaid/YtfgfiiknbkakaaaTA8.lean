/-
  Of the texts TimerPartsWalk: what the laws reach.
-/
import Derived.Test.YtfgfiiknbkakaaaRows
import Derived.Test.YtfgfiiknbkakaaaTA7
import Derived.WalkKit
import Derived.ProofKit
import Derived.OpenShut
import Derived.ShutString
import Derived.ChangeOld
import Derived.Below

namespace Go.Proofs.Ytfgfiiknbkakaaa.timerParts
open Go.ChangeShapes Go.WideShapes Go.ChangeAt Go.RowKit
open Go.ChangeMaps (open_string shut_string)
set_option linter.unusedVariables false
set_option linter.unusedSimpArgs false
theorem own : ownKnob Try.prog.godebug = none := by kernel_rfl
theorem laidOut : laidOutB Try.prog = true := by kernel_rfl
/-- What the walk is told of a slice of integers that came in. -/
def IsRow (k : IntKind) (w : World) (a : Option Addr) (len cap : Nat) (zs : List Int) : Prop :=
  (a = none ∧ len = 0 ∧ cap = 0 ∧ zs = []) ∨
  ∃ x, a = some x ∧ len ≤ cap ∧ cap ≤ maxLen ∧ zs.length = cap ∧ (∀ i, i < zs.length → w.cell? (x.add i) = some (.int k (zs.getD i 0))) ∧ ∀ n ∈ zs, (Lit.int k n).wf = true
open Words Tm
set_option maxHeartbeats 3200000 in
set_option maxRecDepth 100000 in
theorem walk {R : Tm.Mem} (I : Tm.TmI R) (a0 : Option Addr) (len0 cap0 : Nat) (z0 : List Int) (a1 : Int) (a2 : Int) (w : World) (w0 : IsRow .u64 w a0 len0 cap0 z0) (w1 : (Lit.int .u64 a1).wf = true) (w2 : (Lit.int .u64 a2).wf = true) :
    Calls Try.prog 6 #[.slice a0 len0 cap0, .int .u64 a1, .int .u64 a2] w fun e w' => e = .returned (.bool true) ∧ Below w.heap.size w w' := by
  obtain ⟨el, HZ⟩ : ∃ el : Nat → Nat, Hid (∀ i, i < len0 → ∃ a : Addr, a0 = some a ∧ el i ≤ 18446744073709551615 ∧ ∀ V : World, Below w.heap.size w V → V.cell? (a.add i) = some (.int .u64 (el i : Int))) := by
    refine ⟨fun i => (z0.getD i 0).toNat, fun i hi => ?_⟩
    rcases w0 with ⟨_, h2, _⟩ | ⟨y, h1, h2, h3, h4, h5, h6⟩
    · omega
    · have hl : i < z0.length := by omega
      obtain ⟨d, hd, hd2⟩ := nat_u64a (h6 (z0.getD i 0) (by
        rw [List.getD_eq_getElem?_getD, List.getElem?_eq_getElem hl]
        exact List.getElem_mem hl))
      exact ⟨y, h1, by dsimp only; rw [hd]; exact hd2, fun V hb => by
        dsimp only
        have := (hb.cell (World.block_lt_of_cell? w _ (h5 i hl))).trans (h5 i hl)
        rw [this, hd]
        rfl⟩
  have hlen : len0 ≤ 9223372036854775807 := by
    rcases w0 with ⟨_, h2, _⟩ | ⟨y, h1, h2, h3, _⟩
    · omega
    · unfold maxLen at h3; omega
  obtain ⟨N, hN⟩ : ∃ N, N = min len0 60 := ⟨_, rfl⟩
  have HNN : Hid (N = min len0 60) := hN
  have hN1 : N ≤ len0 ∧ N ≤ 60 := by omega
  clear w0 hN
  obtain ⟨c, rfl, hc⟩ := nat_u64a w1
  obtain ⟨e, rfl, he⟩ := nat_u64a w2
  clear w1 w2
  obtain ⟨mn, hmn⟩ : ∃ mn, mn = min c e := ⟨_, rfl⟩
  obtain ⟨mx, hmx⟩ : ∃ mx, mx = max c e := ⟨_, rfl⟩
  have hmb : mn ≤ mx ∧ mn ≤ 18446744073709551615 ∧ mx ≤ 18446744073709551615 := by omega
  have HMN := Lib.hid hmn
  have HMX := Lib.hid hmx
  clear hmn hmx
  go_enter Try.func6, Try.ntmps6
  go_wp2_with fail
  refine (first_t I w).mono ?_
  rintro e W2 ⟨rfl, hb2⟩
  have HB2 := Lib.hid hb2
  clear hb2
  go_upto_region 4 with (fail)
  obtain ⟨pa, hpa⟩ : ∃ pa, pa = W2.heap.size := ⟨_, rfl⟩
  obtain ⟨pb, hpb⟩ : ∃ pb, pb = W2.heap.size + 1 := ⟨_, rfl⟩
  obtain ⟨W4, hW4⟩ : ∃ W4, W4 = (W2.alloc (.cells #[.slice none 0 0, .map none] 58)).alloc (.cells #[.slice none 0 0, .map none] 58) := ⟨_, rfl⟩
  have H1 : Hid (TW R R W2 W4 pa pb [] [] (fun _ => False) ∧ ([] : List K).length ≤ 0) := by
    refine ⟨?_, Nat.le_refl _⟩
    have h1 := (TW.none W2).zero (r := []) I triv_rep (below_new _ _) (tab_zero W2) (Nat.le_refl _)
    have h2 := h1.swap.zero (r := []) I I.toRep (below_new _ _) (tab_zero _) (Nat.le_refl _)
    rw [hW4, hpa, hpb, ← World.size_alloc (w := W2) (o := .cells #[.slice none 0 0, .map none] 58)]
    exact h2.swap
  rw [← hW4, ← hpb, ← hpa]
  clear hW4 hpa hpb
  go_cut [17, 18] from 15 to 18 (fun v17 v18 wx => v17 = .int .i64 (N : Int) ∧ v18 = .int .i64 0 ∧ W4 = wx)
  case first =>
    by_cases h40 : len0 ≤ 60
    · have e : N = len0 := by have := HNN.out; omega
      go_wp2_with fail
      go_meet
      exact ⟨by rw [e] <;> rfl, rfl, rfl⟩
    · have e : N = 60 := by have := HNN.out; omega
      go_wp2_with fail
      go_meet
      exact ⟨by rw [e] <;> rfl, rfl, rfl⟩
  case rest =>
    obtain ⟨rfl, rfl, rfl⟩ := hcut
    go_upto_region 5 with (fail)
    obtain ⟨wo, rfl⟩ : ∃ wo : World, wo = W4 := ⟨_, rfl⟩
    go_loopw [9, 18] (fun _ v18 wr => ∃ (i : Nat) (L : List K), v18 = .int .i64 (i : Int) ∧ i ≤ N ∧ Hid (TW R R W2 wr pa pb L L (fun _ => False) ∧ L.length ≤ i)) (fun _ v18 _ => N - (intOf v18).toNat)
    case atStart => exact ⟨0, [], rfl, Nat.zero_le _, H1⟩
    case round =>
      clear H1
      obtain ⟨i, L, rfl, hi, H⟩ := hrel
      by_cases hil : i < N
      · obtain ⟨a, rfl, hel, hcz⟩ := HZ.out i (by omega)
        obtain ⟨m, hm⟩ : ∃ m, m = i % 20 := ⟨_, rfl⟩
        have hmI : (i : Int) % 20 = (m : Int) := by omega
        have hmI2 : (i : Int).tmod 20 = (m : Int) := by rw [hm]; exact (Int.ofNat_tmod i 20).symm
        have hmb2 : m < 20 := by omega
        obtain ⟨x, hx⟩ : ∃ x, x = el i := ⟨_, rfl⟩
        have cz := hcz wr (HB2.out.trans (H.out.1.bel.mono HB2.out.size))
        rw [← hx] at cz hel
        have hset := H.out.1.set I I.toRep (k := (m : Int)) (a := x) (by have := H.out.2; omega) (by omega) hel
        have HCZ := Lib.hid hcz
        have HX := Lib.hid hx
        clear hcz hm hx
        go_wp2_with fail
        refine hset.mono ?_
        rintro e W5 ⟨rfl, H5, _⟩
        have cz2 := HCZ.out W5 (HB2.out.trans (H5.out.bel.mono HB2.out.size))
        rw [← HX.out] at cz2
        have hset2 := H5.out.swap.set I I.toRep (k := (m : Int)) (a := x) (by have := H.out.2; omega) (by omega) hel
        go_wp2_with fail
        refine hset2.mono ?_
        rintro e W6 ⟨rfl, H6, _⟩
        have H7 : Hid (TW R R W2 W6 pa pb (put (m : Int) x L) (put (m : Int) x L) (fun _ => False) ∧ (put (m : Int) x L).length ≤ i + 1) := ⟨H6.out.swap, Nat.le_trans put_le (by have := H.out.2; omega)⟩
        clear H H5 H6 hset hset2 HCZ HX
        go_wp2_with fail
        go_roundw
        case rel => exact ⟨i + 1, _, by go_num, by omega, H7⟩
        case measure => simp [intOf]; omega
      · have HLL : Hid (L.length ≤ 60) := by have := H.out.2; show L.length ≤ 60; omega
        have HT := Lib.hid H.out.1
        have hie : i = N := by omega
        subst hie
        clear H hil hi
        go_upto_region 10 with (fail)
        go_cut [10] from 36 to 39 (fun v10 wx => ∃ (A : Option Addr) (n c : Nat), v10 = .slice A n c ∧ n ≤ c ∧ c ≤ 9223372036854775807 ∧ Hid (n = (dueL mn L).length ∧ TWr R R W2 wx pa pb (dueR mn L) L (.slice A n c) ((dueL mn L).map (·.2))))
        case first =>
          have hd := HT.out.due I I.toRep (now := mn) hmb.2.1
          have HD : Hid (∀ e w', (∃ (A : Option Addr) (cp n : Nat), e = Ending.returned (.slice A n cp) ∧ n ≤ cp ∧ cp ≤ 9223372036854775807 ∧ Hid (n = (dueL mn L).length) ∧ Hid (w'.ownsRow wr.heap.size 3 1 (.slice A n cp) n (z64 ((dueL mn L).map (·.2)))) ∧ Hid (TW R R W2 w' pa pb (dueR mn L) L (fun i => (fun _ => False) i ∨ ∃ g, (Value.slice A n cp).ownBlock = some g ∧ g = i)) ∧ Hid (Kp (fun _ => False) wr w')) → ∃ (A : Option Addr) (n c : Nat), e = .returned (.slice A n c) ∧ n ≤ c ∧ c ≤ 9223372036854775807 ∧ Hid (n = (dueL mn L).length ∧ TWr R R W2 w' pa pb (dueR mn L) L (.slice A n c) ((dueL mn L).map (·.2)))) := by
            rintro e w' ⟨A, cp, n, rfl, h1, h2, h3, h4, h5, _⟩
            refine ⟨A, n, cp, rfl, h1, h2, h3.out, ⟨?_, ?_⟩⟩
            · exact h5.out.more I.toRep I.toRep (Below.refl _ _) (fun i hi => .inl (.inr ⟨i, hi, rfl⟩))
            · have h6 := own_mono h4.out HT.out.bel.size
              rw [List.length_map, ← h3.out]
              exact h6
          by_cases hce : c ≤ e
          · obtain rfl : mn = c := by have := HMN.out; omega
            go_wp2_with fail
            refine hd.mono ?_
            intro e w' h
            obtain ⟨A, n, c6, rfl, h1, h2, h3⟩ := HD.out e w' h
            clear h
            go_wp2_with fail
            go_meet
            exact ⟨A, n, c6, rfl, h1, h2, h3⟩
          · obtain rfl : mn = e := by have := HMN.out; omega
            have hceI : ¬ (c : Int) ≤ (mn : Int) := by omega
            go_wp2_with fail
            refine hd.mono ?_
            intro e w' h
            obtain ⟨A, n, c6, rfl, h1, h2, h3⟩ := HD.out e w' h
            clear h
            go_wp2_with fail
            go_meet
            exact ⟨A, n, c6, rfl, h1, h2, h3⟩
        case rest =>
          obtain ⟨A6, n6, c6, rfl, hn6, hc6, HT6⟩ := hcut
          obtain ⟨W6, rfl⟩ : ∃ W6 : World, W6 = wc := ⟨_, rfl⟩
          obtain ⟨i0, hi0, hz0, hz1, hz2⟩ := info_parts3 int_info3
          obtain ⟨l6, hl6⟩ : ∃ l6, l6 = (dueL mn L).map (·.2) := ⟨_, rfl⟩
          have HL6 := Lib.hid hl6
          have HT6' := Lib.hid HT6.out.2
          rw [← hl6] at HT6'
          have HNL : Hid (n6 = l6.length) := by show n6 = _; rw [hl6, List.length_map]; exact HT6.out.1
          have hn6b : n6 ≤ 60 := by
            have h1 := HT6.out.1
            have h2 := due_len (now := mn) (L := L)
            have h3 := HLL.out
            omega
          have HB6 := Lib.hid (below_new W6 (.cells #[] 3))
          have HE7 : Hid (TWr R R W2 (W6.alloc (.cells #[] 3)) pa pb (dueR mn L) L (.slice (some ⟨W6.heap.size, 0, none⟩) 0 0) []) :=
            ⟨HT6'.out.tw.more I.toRep I.toRep HB6.out (fun i hi => by
              have hi' : (some W6.heap.size : Option Nat) = some i := hi
              injection hi' with hi'
              subst hi'
              exact .inr ⟨Nat.le_refl _, by rw [World.size_alloc]; exact Nat.lt_succ_self _⟩), own_mono (own_empty W6 3) HT6'.out.tw.bel.size⟩
          have HR7 : Hid (Reads (W6.alloc (.cells #[] 3)) (W6.alloc (.cells #[] 3)).heap.size 1 A6 n6 (z64 l6)) := by
            have h := row_below HB6.out HT6'.out.own
            rw [← HNL.out] at h
            exact Reads.of_own h
          have HS7 : Hid (W2.heap.size ≤ (W6.alloc (.cells #[] 3)).heap.size) := HE7.out.tw.bel.size
          have HFIN : Hid (∀ (W : World) (A : Option Addr) (c n : Nat), n = (dueL mx (dueR mn L)).length → TWr R R W2 W pa pb (dueR mx (dueR mn L)) L (.slice A (n6 + n) c) (l6 ++ (dueL mx (dueR mn L)).map (·.2)) → (n6 + n = (dueL mx L).length ∧ TWr R R W2 W pa pb (dueR mx L) L (.slice A (n6 + n) c) ((dueL mx L).map (·.2)))) := by
            intro W A c n hn h
            obtain ⟨d1, d2⟩ := due_two hmb.1 L
            have e1 : l6 ++ (dueL mx (dueR mn L)).map (·.2) = (dueL mx L).map (·.2) := by rw [HL6.out, ← List.map_append, d1]
            rw [e1, d2] at h
            refine ⟨?_, h⟩
            rw [← d1, List.length_append, ← hn, HT6.out.1]
          have HNB : Hid (∀ n, n = (dueL mx (dueR mn L)).length → n ≤ 60) := fun n hn => by
            have h2 := due_len (now := mx) (L := dueR mn L)
            have h3 := due_len (now := mn) (L := L)
            have h4 := HLL.out
            omega
          clear hl6 HT6
          go_upto_region 11 with (fail)
          go_cut [10] from 40 to 47 (fun v10 wx => ∃ (A : Option Addr) (n c : Nat), v10 = .slice A n c ∧ n ≤ c ∧ c ≤ 9223372036854775807 ∧ Hid (n = (dueL mx L).length ∧ TWr R R W2 wx pa pb (dueR mx L) L (.slice A n c) ((dueL mx L).map (·.2))))
          case first =>
            by_cases hce : c < e
            · obtain rfl : mx = e := by have := HMX.out; omega
              have hceI : (c : Int) < (mx : Int) := by omega
              go_wp2_with (first
                | (at_builtin; refine wpList_append_any _ rfl (.tmp 40) (.tmp 41) _ rfl W2.heap.size 3 i0 _ 1 8 Try.underlying50 hi0 hz0 hz1 hz2 rfl (by omega) (.slice (some ⟨W6.heap.size, 0, none⟩) 0 0) 0 [] rfl HE7.out.own _ A6 n6 c6 (z64 l6) rfl HR7.out (z64_one _) (by simp only [maxLen]; omega) (by omega) HS7.out ?_; rw [Nat.zero_add]; intro v8 W8 ho8 hg8 hb8; obtain ⟨A8, c8, rfl, _, _⟩ := own_slice ho8; have H8 := Lib.hid (HE7.out.app (m := l6) I.toRep I.toRep hg8 (by rw [List.nil_append]; exact HNL.out) ho8 hb8); rw [List.nil_append] at H8; clear ho8 hg8 hb8)
                | (go_at_call 22; refine (H8.out.due I I.toRep (now := mx) hmb.2.2).mono ?_; rintro e W9 ⟨A9, c9, n9, rfl, hn9, hc9, HL9, HR9, HS9, H9⟩; have hn9b := HNB.out n9 HL9.out; have HO9 := Lib.hid H9.out.own; rw [← HNL.out] at HO9)
                | (at_builtin; refine wpList_append_any _ rfl (.tmp 42) (.tmp 46) _ rfl W2.heap.size 3 i0 _ 1 8 Try.underlying50 hi0 hz0 hz1 hz2 rfl (by omega) (.slice A8 n6 c8) n6 (z64 l6) rfl HO9.out _ A9 n9 c9 (z64 ((dueL mx (dueR mn L)).map (·.2))) rfl HR9.out (z64_one _) (by simp only [maxLen]; omega) (by omega) HS9.out ?_; intro v10 W10 ho10 hg10 hb10; obtain ⟨A10, c10, rfl, hn10, hc10⟩ := own_slice ho10; have H10 := Lib.hid (H9.out.app (m := (dueL mx (dueR mn L)).map (·.2)) I.toRep I.toRep hg10 (by rw [List.length_append, ← HNL.out, List.length_map, ← HL9.out]) ho10 hb10); clear ho10 hg10 hb10))
              obtain ⟨N10, hN10⟩ : ∃ N10, N10 = n6 + n9 := ⟨_, rfl⟩
              have HF := Lib.hid (HFIN.out W10 A10 c10 n9 HL9.out H10.out)
              rw [← hN10] at hn10 HF ⊢
              clear hN10
              go_meet
              exact ⟨A10, N10, c10, rfl, hn10, hc10, HF⟩
            · obtain rfl : mx = c := by have := HMX.out; omega
              have hceI : ¬ (mx : Int) < (e : Int) := by omega
              go_wp2_with (first
                | (at_builtin; refine wpList_append_any _ rfl (.tmp 40) (.tmp 41) _ rfl W2.heap.size 3 i0 _ 1 8 Try.underlying50 hi0 hz0 hz1 hz2 rfl (by omega) (.slice (some ⟨W6.heap.size, 0, none⟩) 0 0) 0 [] rfl HE7.out.own _ A6 n6 c6 (z64 l6) rfl HR7.out (z64_one _) (by simp only [maxLen]; omega) (by omega) HS7.out ?_; rw [Nat.zero_add]; intro v8 W8 ho8 hg8 hb8; obtain ⟨A8, c8, rfl, _, _⟩ := own_slice ho8; have H8 := Lib.hid (HE7.out.app (m := l6) I.toRep I.toRep hg8 (by rw [List.nil_append]; exact HNL.out) ho8 hb8); rw [List.nil_append] at H8; clear ho8 hg8 hb8)
                | (go_at_call 22; refine (H8.out.due I I.toRep (now := mx) hmb.2.2).mono ?_; rintro e W9 ⟨A9, c9, n9, rfl, hn9, hc9, HL9, HR9, HS9, H9⟩; have hn9b := HNB.out n9 HL9.out; have HO9 := Lib.hid H9.out.own; rw [← HNL.out] at HO9)
                | (at_builtin; refine wpList_append_any _ rfl (.tmp 42) (.tmp 46) _ rfl W2.heap.size 3 i0 _ 1 8 Try.underlying50 hi0 hz0 hz1 hz2 rfl (by omega) (.slice A8 n6 c8) n6 (z64 l6) rfl HO9.out _ A9 n9 c9 (z64 ((dueL mx (dueR mn L)).map (·.2))) rfl HR9.out (z64_one _) (by simp only [maxLen]; omega) (by omega) HS9.out ?_; intro v10 W10 ho10 hg10 hb10; obtain ⟨A10, c10, rfl, hn10, hc10⟩ := own_slice ho10; have H10 := Lib.hid (H9.out.app (m := (dueL mx (dueR mn L)).map (·.2)) I.toRep I.toRep hg10 (by rw [List.length_append, ← HNL.out, List.length_map, ← HL9.out]) ho10 hb10); clear ho10 hg10 hb10))
              obtain ⟨N10, hN10⟩ : ∃ N10, N10 = n6 + n9 := ⟨_, rfl⟩
              have HF := Lib.hid (HFIN.out W10 A10 c10 n9 HL9.out H10.out)
              rw [← hN10] at hn10 HF ⊢
              clear hN10
              go_meet
              exact ⟨A10, N10, c10, rfl, hn10, hc10, HF⟩
          case rest =>
            obtain ⟨A7, n7, c7, rfl, hn7, hc7, HT7⟩ := hcut
            obtain ⟨W7, rfl⟩ : ∃ W7 : World, W7 = wc := ⟨_, rfl⟩
            clear HFIN HNB HR7 HS7 HE7 HB6 HNL HT6' HL6
            go_upto_region 12 with (fail)
            go_cut [11] from 48 to 51 (fun v11 wx => ∃ (A : Option Addr) (n c : Nat), v11 = .slice A n c ∧ n ≤ c ∧ c ≤ 9223372036854775807 ∧ Hid (n = (dueL mx L).length) ∧ Hid (Reads wx wx.heap.size 1 A n (z64 ((dueL mx L).map (·.2)))) ∧ Hid (TWr R R W2 wx pb pa (dueR mx L) (dueR mx L) (.slice A7 n7 c7) ((dueL mx L).map (·.2))))
            case first =>
              have hd := HT7.out.2.swap.due I I.toRep (now := mx) hmb.2.2
              by_cases hce : c < e
              · obtain rfl : mx = e := by have := HMX.out; omega
                have hceI : (c : Int) < (mx : Int) := by omega
                go_wp2_with (go_at_call 22; refine hd.mono ?_; rintro e W9 ⟨A9, c9, n9, rfl, hn9, hc9, HL9, HR9, HS9, H9⟩)
                go_meet
                exact ⟨A9, n9, c9, rfl, hn9, hc9, HL9, HR9, H9⟩
              · obtain rfl : mx = c := by have := HMX.out; omega
                have hceI : ¬ (mx : Int) < (e : Int) := by omega
                go_wp2_with (go_at_call 22; refine hd.mono ?_; rintro e W9 ⟨A9, c9, n9, rfl, hn9, hc9, HL9, HR9, HS9, H9⟩)
                go_meet
                exact ⟨A9, n9, c9, rfl, hn9, hc9, HL9, HR9, H9⟩
            case rest =>
              obtain ⟨A8, n8, c8, rfl, hn8, hc8, HL8, HR8, HT8⟩ := hcut
              obtain ⟨W8, rfl⟩ : ∃ W8 : World, W8 = wc := ⟨_, rfl⟩
              obtain rfl : n7 = n8 := by rw [HL8.out]; exact HT7.out.1
              have hn7b : n7 ≤ 60 := by
                have h1 := HL8.out
                have h2 := due_len (now := mx) (L := L)
                have h3 := HLL.out
                omega
              obtain ⟨r, hr⟩ : ∃ r, r = (dueR mx L).length := ⟨_, rfl⟩
              have hla := HT8.out.swap.len I I.toRep
              rw [← hr] at hla
              have HRR := Lib.hid hr
              clear HT7 hr
              go_wp2_with (go_at_call 26; refine hla.mono ?_; rintro e W9 ⟨rfl, hb9, H9⟩)
              have hlb := H9.out.swap.len I I.toRep
              rw [← HRR.out] at hlb
              go_wp2_with (go_at_call 26; refine hlb.mono ?_; rintro e W10 ⟨rfl, hb10, H10⟩)
              have HB10 : Hid (Below W8.heap.size W8 W10) := hb9.out.trans (hb10.out.mono hb9.out.size)
              have HEL : Hid (∀ q, q < n7 → ∃ (a7 a8 : Addr) (x : Int), A7 = some a7 ∧ A8 = some a8 ∧ W10.cell? (a7.add q) = some (.int .i64 x) ∧ W10.cell? (a8.add q) = some (.int .i64 x)) := fun q hq => by
                have ho : W10.ownsRow W2.heap.size 3 1 (.slice A7 n7 c7) n7 (z64 ((dueL mx L).map (·.2))) := by
                  have h := H10.out.own
                  rw [List.length_map, ← HL8.out] at h
                  exact h
                obtain ⟨a7, x7, e1, e2, e3⟩ := reads_i64 (Reads.of_own ho) hq
                obtain ⟨a8, x8, f1, f2, f3⟩ := reads_i64 (HR8.out.below HB10.out) hq
                rw [e2] at f2
                injection f2 with f2
                exact ⟨a7, a8, x7, e1, f1, e3, by rw [f3, f2]⟩
              have HBE : Hid (Below w.heap.size w W10) := HB2.out.trans (H10.out.tw.bel.mono HB2.out.size)
              clear HL8 HR8 HT8 hla hlb hb9 hb10 H9 H10 HB10 HRR HT HLL
              go_upto_region 16 with (fail)
              obtain ⟨wd, rfl⟩ : ∃ wd : World, wd = W10 := ⟨_, rfl⟩
              go_loopw [12, 64] (fun _ v64 wy => ∃ q : Nat, v64 = .int .i64 (q : Int) ∧ q ≤ n7 ∧ Hid (∃ m, wy = wd.drewN m)) (fun _ v64 _ => n7 - (intOf v64).toNat)
              case atStart => exact ⟨0, rfl, Nat.zero_le _, ⟨0, rfl⟩⟩
              case round =>
                obtain ⟨q, rfl, hq, HW⟩ := hrel
                have HKR : Hid (∀ p v, wd.cell? p = some v → wr.cell? p = some v) := fun p v h => by
                  obtain ⟨m, hm⟩ := HW.out
                  rw [hm]
                  exact h
                by_cases hqn : q < n7
                · obtain ⟨a7, a8, x, rfl, rfl, c7', c8'⟩ := HEL.out q hqn
                  have cx := HKR.out _ _ c7'
                  have cy := HKR.out _ _ c8'
                  have hqnI : (q : Int) < (n7 : Int) := by omega
                  have HWW : Hid (∀ m, ∃ m', wr.drewN m = wd.drewN m') := fun m => by
                    obtain ⟨m0, hm0⟩ := HW.out
                    exact ⟨m0 + m, by rw [hm0, World.drewN_drewN]⟩
                  clear c7' c8'
                  go_upto_region 18 with (fail)
                  go_quiet (fail)
                  have HQ := Lib.hid (HWW.out nq)
                  go_wp2_with fail
                  go_roundw
                  case rel => exact ⟨q + 1, by go_num, by omega, HQ⟩
                  case measure => simp [intOf]; omega
                · have HBF : Hid (Below w.heap.size w wr) := by
                    obtain ⟨m, hm⟩ := HW.out
                    rw [hm]
                    exact below_drewN HBE.out m
                  go_wp2_with fail
                  go_ret
                  exact ⟨rfl, HBF.out⟩
end Go.Proofs.Ytfgfiiknbkakaaa.timerParts
