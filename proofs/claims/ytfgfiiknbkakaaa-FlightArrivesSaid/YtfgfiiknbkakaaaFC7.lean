/-
  Of the texts FlightArrivesWalk: what the laws reach.
-/
import Derived.Test.YtfgfiiknbkakaaaRows
import Derived.Test.YtfgfiiknbkakaaaFC6
import Derived.WalkKit
import Derived.ProofKit
import Derived.OpenShut
import Derived.ShutString
import Derived.ChangeOld
import Derived.Below

namespace Go.Proofs.Ytfgfiiknbkakaaa.flightArrives
open Go.ChangeShapes Go.WideShapes Go.ChangeAt Go.RowKit
open Go.ChangeMaps (open_string shut_string)
set_option linter.unusedVariables false
set_option linter.unusedSimpArgs false
theorem own : ownKnob Try.prog.godebug = none := by kernel_rfl
theorem laidOut : laidOutB Try.prog = true := by kernel_rfl
/-- What the walk is told of a slice of integers that came in. -/
def IsRow (k : IntKind) (w : World) (a : Option Addr) (len cap : Nat) (zs : List Int) : Prop :=
  (a = none ∧ len = 0 ∧ cap = 0 ∧ zs = []) ∨
  ∃ x, a = some x ∧ len ≤ cap ∧ cap ≤ maxLen ∧ zs.length = cap ∧ (∀ i, i < zs.length → w.cell? (x.add i) = some (.int k (zs.getD i 0))) ∧ ∀ n ∈ zs, (Lit.int k n).wf = true
open Words Oct Par Chk Fl
theorem nat_u8a {x : Int} (h : (Lit.int .u8 x).wf = true) : ∃ n : Nat, x = n ∧ n ≤ 255 := by
  have := bounds_u8 h
  exact ⟨x.toNat, by omega, by omega⟩
theorem nat_u16a {x : Int} (h : (Lit.int .u16 x).wf = true) : ∃ n : Nat, x = n ∧ n ≤ 65535 := by
  have := bounds_u16 h
  exact ⟨x.toNat, by omega, by omega⟩
theorem fld_acked (w : World) (a : Int) (b c : Bool) (d : Int) (e : Bool) : (Instr.field 44 (.agg #[.int .i64 a, .bool b, .bool c, .int .i64 d, .bool e]) 4).run Try.prog w = .ok (.bool e) w := by kernel_rfl
set_option maxHeartbeats 3200000 in
set_option maxRecDepth 100000 in
theorem walk {R : World → (Nat → Prop) → Nat → Fl.FS → Prop} (I : Fl.FlI R) (a0 : Int) (a1 : Option Addr) (len1 cap1 : Nat) (z1 : List Int) (a2 : Option Addr) (len2 cap2 : Nat) (z2 : List Int) (w : World) (w0 : (Lit.int .u32 a0).wf = true) (w1 : IsRow .u8 w a1 len1 cap1 z1) (w2 : IsRow .u16 w a2 len2 cap2 z2) :
    Calls Try.prog 3 #[.int .u32 a0, .slice a1 len1 cap1, .slice a2 len2 cap2] w fun e w' => e = .returned (.bool true) ∧ Below w.heap.size w w' := by
  have hw0 := bounds_u32 w0
  obtain ⟨st, rfl, hst⟩ : ∃ n : Nat, a0 = n ∧ n < 4294967296 := ⟨a0.toNat, by omega, by omega⟩
  have keep : ∀ {V : World}, Below w.heap.size w V → ∀ {p : Addr} {u : Value}, w.cell? p = some u → V.cell? p = some u := fun {V} hb {p u} h => (hb.cell (World.block_lt_of_cell? w _ h)).trans h
  obtain ⟨sz, HZ⟩ : ∃ sz : Nat → Nat, Hid (∀ i, i < len1 → ∃ (a : Addr) (d : Nat), a1 = some a ∧ d ≤ 255 ∧ sz i = 1 + d ∧ ∀ V : World, Below w.heap.size w V → V.cell? (a.add i) = some (.int .u8 (d : Int))) := by
    refine ⟨fun i => 1 + (z1.getD i 0).toNat, fun i hi => ?_⟩
    rcases w1 with ⟨_, h2, _⟩ | ⟨y, h1, h2, h3, h4, h5, h6⟩
    · omega
    · have hl : i < z1.length := by omega
      obtain ⟨d, hd, hd2⟩ := nat_u8a (h6 (z1.getD i 0) (by
        rw [List.getD_eq_getElem?_getD, List.getElem?_eq_getElem hl]
        exact List.getElem_mem hl))
      exact ⟨y, d, h1, hd2, by dsimp only; rw [hd]; rfl, fun V hb => by rw [← hd]; exact keep hb (h5 i hl)⟩
  have HA : Hid (∀ i, i < len2 → ∃ (a : Addr) (d : Nat), a2 = some a ∧ d ≤ 65535 ∧ ∀ V : World, Below w.heap.size w V → V.cell? (a.add i) = some (.int .u16 (d : Int))) := fun i hi => by
    rcases w2 with ⟨_, h2, _⟩ | ⟨y, h1, h2, h3, h4, h5, h6⟩
    · omega
    · have hl : i < z2.length := by omega
      obtain ⟨d, hd, hd2⟩ := nat_u16a (h6 (z2.getD i 0) (by
        rw [List.getD_eq_getElem?_getD, List.getElem?_eq_getElem hl]
        exact List.getElem_mem hl))
      exact ⟨y, d, h1, hd2, fun V hb => by rw [← hd]; exact keep hb (h5 i hl)⟩
  have hlen : len1 ≤ 9223372036854775807 := by
    rcases w1 with ⟨_, h2, _⟩ | ⟨y, h1, h2, h3, _⟩
    · omega
    · unfold maxLen at h3; omega
  have hlen2 : len2 ≤ 9223372036854775807 := by
    rcases w2 with ⟨_, h2, _⟩ | ⟨y, h1, h2, h3, _⟩
    · omega
    · unfold maxLen at h3; omega
  obtain ⟨N, hN⟩ : ∃ N, N = min len1 30 := ⟨_, rfl⟩
  have hN1 : N ≤ len1 ∧ N ≤ 30 := by omega
  obtain ⟨Q, hQ⟩ : ∃ Q, Q = min len2 40 := ⟨_, rfl⟩
  have hQ1 : Q ≤ len2 ∧ Q ≤ 40 := by omega
  clear w1 w2 keep w0 hw0
  obtain ⟨i0, hi0, hz0, hz1, hz2⟩ := info_parts3 u8_info
  go_enter Try.func3, Try.ntmps3
  go_wp2_with fail
  refine (first_f I w).mono ?_
  rintro e W2 ⟨rfl, hb2⟩
  have HB2 := Lib.hid hb2
  clear hb2
  go_wp2_with fail
  refine (FV.new I (S := fun _ => False) W2 W2 (Below.refl _ _) (fun i h => h.elim) st hst).mono ?_
  rintro e W3 ⟨p, rfl, HF3, _⟩
  have HL0 : Hid (FV R W2 p (fun _ => False) (fs0 st) W3 ∧ ArS st 0 0 (fun _ => false) sz (fun _ x => x = 0) (fs0 st) ∧ (fs0 st).fresh = true ∧ (fs0 st).ms.length = 0) := ⟨HF3.out, ArS.nil hst, rfl, rfl⟩
  clear HF3
  go_upto_region 4 with (fail)
  go_cut [8] from 28 to 30 (fun v8 wx => v8 = .int .i64 (N : Int) ∧ W3 = wx)
  case first =>
    by_cases h40 : len1 ≤ 30
    · have e : N = len1 := by omega
      go_wp2_with fail
      go_meet
      exact ⟨by rw [e] <;> rfl, rfl⟩
    · have e : N = 30 := by omega
      go_wp2_with fail
      go_meet
      exact ⟨by rw [e] <;> rfl, rfl⟩
  case rest =>
    obtain ⟨rfl, rfl⟩ := hcut
    have HNN := Lib.hid hN1
    clear hN
    go_upto_region 6 with (fail)
    obtain ⟨wo, rfl⟩ : ∃ wo : World, wo = W3 := ⟨_, rfl⟩
    go_loopw [9, 32] (fun _ v32 wr => ∃ (i : Nat) (s : FS), v32 = .int .i64 (i : Int) ∧ i ≤ N ∧ Hid (FV R W2 p (fun _ => False) s wr ∧ ArS st i 0 (fun _ => false) sz (fun _ x => x = 0) s ∧ s.fresh = true ∧ s.ms.length = i)) (fun _ v32 _ => N - (intOf v32).toNat)
    case atStart => exact ⟨0, _, rfl, by omega, HL0⟩
    case round =>
      clear HL0
      obtain ⟨i, s, rfl, hi, HL⟩ := hrel
      by_cases hlt : i < N
      · obtain ⟨a, d, rfl, hd, hsz, hcz⟩ := HZ.out i (by omega)
        have cz := hcz wr (HB2.out.trans (HL.out.1.bel.mono HB2.out.size))
        clear hcz
        obtain ⟨k, hk⟩ : ∃ k : Nat, k = 1 + d := ⟨_, rfl⟩
        have hkb : 1 ≤ k ∧ k ≤ 256 := by omega
        have hkd : (1 : Int) + (d : Int) = (k : Int) := by omega
        have hsk : sz i = k := by omega
        have HSK := Lib.hid hsk
        have hw32 : IntKind.u32.wrap (i : Int) = (i : Int) := by rw [IntKind.wrap_u32]; have := HNN.out; omega
        clear hk hsz hsk
        have hmk := fun W : World => run_make_rowN (P := Try.prog) 23 5 i0 (.int .u8 0) Try.underlying23 hi0 hz0 .i64 .i64 k k (Nat.le_refl _) (by rw [hz2]; omega) (by omega) W
        rw [hz1, Nat.mul_one] at hmk
        have hsend := HL.out.1.sendX I (below_one wr (.cells (madeCells #[.int .u8 0] k) 5)) (c := fM k i) (now := 0) (m := (i : Int)) (lk := 0) (ln := 0) HL.out.2.2.1 (by rw [HL.out.2.2.2]; have := HNN.out; omega) (by have := HNN.out; omega) (by omega) (by omega) (by omega) (fM_bare _ _) (fM_ok (by have := HNN.out; omega)) (by show (zlF k).length ≤ _; rw [zlF_len]; omega) (n := k) (zlF_len k).symm (Nat.le_refl _) (byt_zerosF wr k (by omega))
        go_wp2_with (refine wpList_build_as rfl 35 _ rfl (bareA (fM k i) (some ⟨wr.heap.size, 0, none⟩) k k) (built_fM _ _ _ _ _) ?_)
        refine hsend.mono ?_
        rintro e W5 ⟨A5, c5, rfl, HF5, _⟩
        obtain ⟨s5, hs5⟩ : ∃ s5, s5 = s.send (i : Int) 0 0 (fM k i) 0 := ⟨_, rfl⟩
        have HL5 : Hid (FV R W2 p (fun _ => False) s5 W5 ∧ ArS st (i + 1) 0 (fun _ => false) sz (fun _ x => x = 0) s5 ∧ s5.fresh = true ∧ s5.ms.length = i + 1) := by
          rw [hs5]
          exact ⟨HF5.out, HL.out.2.1.snoc (by rw [HSK.out]; exact zlF_len k) rfl (by have := HNN.out; omega), HL.out.2.2.1, by show (_ :: s.ms).length = _; rw [List.length_cons, HL.out.2.2.2]⟩
        clear hsend HF5 HL hs5
        go_wp2_with fail
        go_roundw
        case rel => exact ⟨i + 1, s5, by go_num, by omega, HL5⟩
        case measure => simp [intOf]; omega
      · have hiN : i = N := by omega
        subst hiN
        clear hlt hi
        go_upto_region 11 with (with_reducible refine wpList_alloc_run _ rfl 40 rfl (alloc_has _) ?_)
        simp only [Act.put, List.setIfInBounds_toArray, List.set_cons_zero, List.set_cons_succ]
        obtain ⟨W6, hW6⟩ : ∃ W6, W6 = wr.alloc (.cells (hasA fun _ => false) 40) := ⟨_, rfl⟩
        obtain ⟨gh, hgh⟩ : ∃ gh, gh = wr.heap.size := ⟨_, rfl⟩
        have hb6 : Below wr.heap.size wr W6 := by rw [hW6]; exact below_one _ _
        have HLA : Hid (FV R W2 p (fun x => x = gh) s W6 ∧ ArS st i 0 (fun _ => false) sz (fun _ x => x = 0) s ∧ Blk W6 gh 40 (hasA fun _ => false)) := by
          have hk : Blk W6 gh 40 (hasA fun _ => false) := by rw [hW6, hgh]; exact Blk.new _ _ _
          exact ⟨HL.out.1.more I hb6 (fun x e => .inr ⟨by rw [e]; exact Nat.le_of_eq hgh.symm, by rw [e]; exact hk.lt⟩), HL.out.2.1, hk⟩
        have HGH : Hid (W2.heap.size ≤ gh) := by rw [hgh]; exact HL.out.1.bel.size
        rw [← hW6, ← hgh]
        clear hW6 hgh hb6 HL
        go_cut [52, 53] from 50 to 53 (fun v52 v53 wx => v52 = .int .i64 (Q : Int) ∧ v53 = .int .i64 0 ∧ W6 = wx)
        case first =>
          by_cases h40 : len2 ≤ 40
          · have e : Q = len2 := by omega
            go_wp2_with fail
            go_meet
            exact ⟨by rw [e] <;> rfl, rfl, rfl⟩
          · have e : Q = 40 := by omega
            go_wp2_with fail
            go_meet
            exact ⟨by rw [e] <;> rfl, rfl, rfl⟩
        case rest =>
          obtain ⟨rfl, rfl, rfl⟩ := hcut
          clear hQ
          go_upto_region 12 with (fail)
          obtain ⟨wp, rfl⟩ : ∃ wp : World, wp = W6 := ⟨_, rfl⟩
          go_loopw [11, 12, 13, 14, 15, 16, 17, 18, 19, 20, 21, 53] (fun _ _ _ _ _ _ _ _ _ _ _ v53 wr => ∃ (r u : Nat) (H : Nat → Bool) (s : FS), v53 = .int .i64 (r : Int) ∧ r ≤ Q ∧ Hid (FV R W2 p (fun x => x = gh) s wr ∧ ArS st i u H sz (fun _ x => x = 0) s ∧ Blk wr gh 40 (hasA H))) (fun _ _ _ _ _ _ _ _ _ _ _ v53 _ => Q - (intOf v53).toNat)
          case atStart => exact ⟨0, 0, _, s, rfl, by omega, HLA⟩
          case round =>
            clear HLA
            obtain ⟨r, u, H, s, rfl, hr, HL⟩ := hrel
            by_cases hrt : r < Q
            · obtain ⟨a, d, rfl, hd, hcz⟩ := HA.out r (by omega)
              have cz := hcz wr (HB2.out.trans (HL.out.1.bel.mono HB2.out.size))
              clear hcz
              obtain ⟨e, he0⟩ : ∃ e, e = d % 31 := ⟨_, rfl⟩
              have he : (d : Int) % 31 = (e : Int) := by omega
              have heb : e < 31 := by omega
              have ce : wr.cell? ⟨gh, e, none⟩ = some (.bool (H e)) := (HL.out.2.2.cell e).trans (hasA_at _ heb)
              have fe := HL.out.2.2.frozen e
              clear he0
              go_upto_region 15 with (fail)
              obtain ⟨W7, hW7⟩ : ∃ W7, W7 = wr.setCell ⟨gh, e, none⟩ (.bool true) := ⟨_, rfl⟩
              obtain ⟨H', hH'⟩ : ∃ H', H' = oneF H e := ⟨_, rfl⟩
              have HL7 : Hid (FV R W2 p (fun x => x = gh) s W7 ∧ ArS st i u H sz (fun _ x => x = 0) s ∧ Blk W7 gh 40 (hasA H')) := by
                have hf : Fr (fun x => x = gh) wr W7 := by rw [hW7]; exact (Fr.refl (fun x => x = gh) wr).setCell (p := ⟨gh, e, none⟩) (.inl rfl) _
                refine ⟨HL.out.1.turns I hf (fun x hx => by rw [show x = gh from hx]; exact HGH.out), HL.out.2.1, ?_⟩
                rw [hW7, hH', ← hasA_set H heb]
                exact HL.out.2.2.set_ e _
              have HHH : Hid (∀ j, H j = true → H' j = true) := fun j hj => by
                rw [hH']
                unfold oneF
                split
                · rfl
                · exact hj
              rw [← hW7]
              clear hW7 hH' ce fe cz he heb HL
              go_cut [12] from 12 to 12 (fun v12 wx => v12 = .int .i64 0 ∧ W7 = wx)
              case first =>
                go_wp2_with fail
                go_meet
                exact ⟨rfl, rfl⟩
              case rest =>
                obtain ⟨rfl, rfl⟩ := hcut
                go_step
                go_step
                go_cut [12] from 63 to 72 (fun v12 wx => ∃ up : Nat, v12 = .int .i64 (up : Int) ∧ up ≤ i ∧ Hid ((∀ j, j < up → H' j = true) ∧ (up < i → H' up = false)) ∧ W7 = wx)
                case first =>
                  go_wp2_with fail
                  obtain ⟨wq, rfl⟩ : ∃ wq : World, wq = W7 := ⟨_, rfl⟩
                  have HNI := HNN.out.2
                  go_loopw [12] (fun v12 wz => ∃ k : Nat, v12 = .int .i64 (k : Int) ∧ k ≤ i ∧ Hid (∀ j, j < k → H' j = true) ∧ wz = wq) (fun v12 _ => i - (intOf v12).toNat)
                  case atStart => exact ⟨0, rfl, by omega, fun j h => by omega, rfl⟩
                  case round =>
                    obtain ⟨k, rfl, hk, HK, rfl⟩ := hrel
                    by_cases hki : k < i
                    · have ck := (HL7.out.2.2.cell k).trans (hasA_at H' (j := k) (by omega))
                      cases hHk : H' k with
                      | true =>
                        rw [hHk] at ck
                        have HK2 : Hid (∀ j, j < k + 1 → H' j = true) := fun j hj => by
                          rcases Nat.lt_or_ge j k with h1 | h1
                          · exact HK.out j h1
                          · rw [show j = k by omega]; exact hHk
                        go_wp2_with fail
                        go_roundw
                        case rel => exact ⟨k + 1, by go_num, by omega, HK2, trivial⟩
                        case measure => simp [intOf]; omega
                      | false =>
                        rw [hHk] at ck
                        have HU : Hid ((∀ j, j < k → H' j = true) ∧ (k < i → H' k = false)) := ⟨HK.out, fun _ => hHk⟩
                        go_wp2_with fail
                        go_meet
                        exact ⟨k, rfl, by omega, HU, rfl⟩
                    · have HU : Hid ((∀ j, j < k → H' j = true) ∧ (k < i → H' k = false)) := ⟨HK.out, fun h => absurd h hki⟩
                      go_wp2_with fail
                      go_meet
                      exact ⟨k, rfl, by omega, HU, rfl⟩
                case rest =>
                  obtain ⟨up, rfl, hup, HUP, rfl⟩ := hcut
                  have hi30 := HNN.out.2
                  have hui : u ≤ up := by
                    rcases Nat.lt_or_ge up u with h1 | h1
                    · have h2 := HHH.out _ (HL7.out.2.1.up up h1)
                      have h3 := HL7.out.2.1.un
                      rw [HUP.out.2 (by omega)] at h2
                      cases h2
                    · exact h1
                  obtain ⟨T, hT⟩ : ∃ T, T = (st + up + 4294967295) % 4294967296 := ⟨_, rfl⟩
                  obtain ⟨t1, ht1⟩ : ∃ t1, t1 = (st + up) % 4294967296 := ⟨_, rfl⟩
                  have hT0 : IntKind.u32.wrap (up : Int) = (up : Int) := by rw [IntKind.wrap_u32]; omega
                  have hT1 : IntKind.u32.wrap ((st : Int) + (up : Int)) = (t1 : Int) := by rw [IntKind.wrap_u32]; omega
                  have hT2 : IntKind.u32.wrap ((t1 : Int) - 1) = (T : Int) := by rw [IntKind.wrap_u32]; omega
                  have hT3 : T < 4294967296 := by omega
                  have HT := Lib.hid hT
                  clear hT ht1
                  go_upto_region 19 with (first
                    | (refine wpList_build_as rfl 35 _ rfl (ckArr (skK T []) nilV nilV nilV nilV nilV) (built_sk _) ?_)
                    | (with_reducible refine wpList_alloc_run _ rfl 35 rfl (alloc_zk _) ?_)
                    | (refine wpList_store_row rfl 35 _ _ rfl _ (ckArr (skK T []) nilV nilV nilV nilV nilV) rfl rfl 35 (ckArr (zeroC 0) nilV nilV nilV nilV nilV) (Blk.new _ _ _) rfl rfl (skK_one _ _ []) ?_))
                  try simp only [Act.put, List.setIfInBounds_toArray, List.set_cons_zero, List.set_cons_succ]
                  obtain ⟨W8, hW8⟩ : ∃ W8, W8 = (W7.alloc (.cells (ckArr (zeroC 0) nilV nilV nilV nilV nilV) 35)).setRow W7.heap.size (ckArr (skK T []) nilV nilV nilV nilV nilV) := ⟨_, rfl⟩
                  obtain ⟨g13, hg13⟩ : ∃ g13, g13 = W7.heap.size := ⟨_, rfl⟩
                  have hb8 : Below W7.heap.size W7 W8 := by rw [hW8]; exact below_setRow (below_one W7 _) (Nat.le_refl _) _
                  have HK13 : Hid (CkBlk W8 g13 (ckArr (skK T []) nilV nilV nilV nilV nilV)) := by rw [hW8, hg13]; exact setRow_heap _ _ _ _ _ _ (Blk.new W7 _ _)
                  have HG13 : Hid (W7.heap.size ≤ g13) := Nat.le_of_eq hg13.symm
                  have HL8 : Hid (Below W7.heap.size W7 W8 ∧ Blk W8 gh 40 (hasA H')) := ⟨hb8, blk_below HL7.out.2.2 hb8⟩
                  have HGP : Hid (GpI up (up + 1) H' []) := GpI.nil
                  rw [← hW8, ← hg13]
                  clear hW8 hg13 hb8 hT0 hT1 hT2
                  go_cut [14] from 79 to 80 (fun v14 wx => v14 = .int .i64 ((up + 1 : Nat) : Int) ∧ W8 = wx)
                  case first =>
                    go_wp2_with fail
                    go_meet
                    exact ⟨by go_num, rfl⟩
                  case rest =>
                    obtain ⟨rfl, rfl⟩ := hcut
                    go_step
                    go_cut [13] from 81 to 126 (fun v13 wx => v13 = .pointer (some ⟨g13, 0, none⟩) ∧ ∃ (gs : List Gp) (gv : Value), Hid (Below W7.heap.size W7 wx ∧ CkBlk wx g13 (ckArr (skK T gs) gv nilV nilV nilV nilV) ∧ CkAt wx wx.heap.size (ckArr (skK T gs) gv nilV nilV nilV nilV) (skK T gs) ∧ (∀ (ad : Addr) (n cp : Nat), gv = .slice (some ad) n cp → W7.heap.size ≤ ad.block) ∧ GpI up (if up < i then i else up + 1) H' gs))
                    case first =>
                      have HQ0 : Hid (GpS W7 W8 g13 T up (up + 1) H' [] nilV) := ⟨HL8.out.1, HK13.out, World.ownsRow_nil _ _ _ _, HGP.out, HG13.out⟩
                      clear HGP HK13 HG13
                      have HW7 : Hid (Blk W7 gh 40 (hasA H')) := HL7.out.2.2
                      obtain ⟨wb, rfl⟩ : ∃ wb : World, wb = W8 := ⟨_, rfl⟩
                      obtain ⟨gi0, hgi0, hgz0, hgz1, hgz2⟩ := info_parts3 gap_info
                      go_wp2_with fail
                      go_loopw [14, 15, 16] (fun v14 _ _ wr => ∃ (j : Nat) (gs : List Gp) (gv : Value), v14 = .int .i64 (j : Int) ∧ up + 1 ≤ j ∧ j ≤ max i (up + 1) ∧ Hid (GpS W7 wr g13 T up j H' gs gv)) (fun v14 _ _ _ => 40 - (intOf v14).toNat)
                      case atStart => exact ⟨up + 1, [], nilV, by go_num, Nat.le_refl _, by omega, HQ0⟩
                      case round =>
                        clear HQ0
                        obtain ⟨j, gs, gv, rfl, hj1, hj2, HQ⟩ := hrel
                        by_cases hji : j < i
                        · have HBJ := Lib.hid (blk_below HW7.out HQ.out.bel)
                          have cj := (HBJ.out.cell j).trans (hasA_at H' (j := j) (by omega))
                          cases hHj : H' j with
                          | false =>
                            rw [hHj] at cj
                            have HQ2 := Lib.hid (HQ.out.no (by omega) hHj)
                            go_wp2_with fail
                            go_roundw
                            case rel => exact ⟨j + 1, gs, gv, by go_num, by omega, by omega, HQ2⟩
                            case measure => simp [intOf]; omega
                          | true =>
                            rw [hHj] at cj
                            obtain ⟨dd, hdd⟩ : ∃ dd, dd = j - up + 1 := ⟨_, rfl⟩
                            have hdb : 2 ≤ dd ∧ dd ≤ 32 := by omega
                            have hd1 : IntKind.u16.wrap ((j : Int) - (up : Int) + 1) = (dd : Int) := by simp [IntKind.wrap, IntKind.bits, IntKind.signed]; omega
                            have hd2 : IntKind.u16.wrap ((dd : Int) - 1) = ((dd - 1 : Nat) : Int) := by simp [IntKind.wrap, IntKind.bits, IntKind.signed]; omega
                            have HDD := Lib.hid hdd
                            obtain ⟨n, hn⟩ : ∃ n, n = gs.length := ⟨_, rfl⟩
                            have HNL := Lib.hid hn
                            obtain ⟨A, cp, rfl, hncp, hcpm⟩ := HQ.out.shape hn
                            have hn31 : n ≤ 31 := by rw [hn]; exact HQ.out.few (by omega)
                            have c14 := HQ.out.cell14
                            have hup1 : up < j := by omega
                            clear hdd hn
                            go_upto_region 25 with (fail)
                            go_cut [111] from 98 to 111 (fun v111 wx => ∃ b : Bool, v111 = .bool b ∧ Hid (GpS W7 wx g13 T up j H' gs (.slice A n cp)) ∧ Hid (GpB b gs up j))
                            case first =>
                              rcases List.eq_nil_or_concat gs with hg | ⟨gs0, g, hg⟩
                              · have hn0 : n = 0 := by rw [HNL.out, hg]; rfl
                                subst hg
                                subst hn0
                                have HQ3 := HQ
                                have HB0 : Hid (GpB false ([] : List Gp) up j) := ⟨fun e => (by cases e), fun _ => .inr rfl⟩
                                clear HNL
                                go_wp2_with fail
                                go_meet
                                exact ⟨false, rfl, HQ3, HB0⟩
                              · obtain ⟨k0, hk0⟩ : ∃ k0, k0 = gs0.length := ⟨_, rfl⟩
                                rw [List.concat_eq_append] at hg
                                subst hg
                                obtain ⟨ga, cp', e5, h5a, h5b, hcl, hfl, _, _⟩ := HQ.out.last hk0
                                injection e5 with e5 e6 e7
                                subst e5
                                subst e7
                                have hnk : (n : Int) - 1 = (k0 : Int) := by omega
                                have hnpos : (0 : Int) < (n : Int) := by omega
                                have hk0n : (k0 : Int) < (n : Int) := by omega
                                obtain ⟨y, hy⟩ : ∃ y, y = g.2 := ⟨_, rfl⟩
                                obtain ⟨z, hz⟩ : ∃ z, z = dd - 1 := ⟨_, rfl⟩
                                rw [← hy] at hcl
                                rw [← hz] at hd2
                                have HY := Lib.hid hy
                                have HZ9 := Lib.hid hz
                                clear hy hz hk0 e6
                                by_cases hyz : y = z
                                · subst hyz
                                  have HR : Hid (GpB true (gs0 ++ [g]) up j) := ⟨fun _ => ⟨gs0, g, rfl, by rw [← HY.out, HZ9.out, HDD.out]; omega⟩, fun e => (by cases e)⟩
                                  go_wp2_with fail
                                  go_meet
                                  exact ⟨true, rfl, HQ, HR⟩
                                · have hyz' : ¬ (y : Int) = (z : Int) := by omega
                                  have HR : Hid (GpB false (gs0 ++ [g]) up j) := ⟨fun e => (by cases e), fun _ => .inl (by rw [nextL_snoc, ← HY.out]; have := HZ9.out; have := HDD.out; omega)⟩
                                  go_wp2_with fail
                                  go_meet
                                  exact ⟨false, congrArg Value.bool (beq_eq_false_iff_ne.2 hyz'), HQ, HR⟩
                            case rest =>
                              obtain ⟨b, rfl, HG1, HG2⟩ := hcut
                              clear HQ c14
                              cases b with
                              | true =>
                                obtain ⟨gs0, g, rfl, hg2⟩ := HG2.out.yes rfl
                                obtain ⟨k0, hk0⟩ : ∃ k0, k0 = gs0.length := ⟨_, rfl⟩
                                obtain ⟨ga, cp', e5, h5a, h5b, hcl, hfl, _, _⟩ := HG1.out.last hk0
                                injection e5 with e5 e6 e7
                                subst e5
                                subst e7
                                have hnk : (n : Int) - 1 = (k0 : Int) := by omega
                                have hk0n : (k0 : Int) < (n : Int) := by omega
                                have c14 := HG1.out.cell14
                                have HGR := Lib.hid (HG1.out)
                                rw [e6] at HGR
                                have HGW := Lib.hid (HGR.out.grow hk0 hup1 hHj hg2 HDD.out)
                                have E6 := Lib.hid e6
                                clear hk0 e6 HGR HG2
                                go_wp2_with fail
                                go_roundw
                                case rel => exact ⟨j + 1, _, _, by go_num, by omega, by omega, HGW⟩
                                case measure => simp [intOf]; omega
                              | false =>
                                have hg2 := HG2.out.no rfl
                                have c14 := HG1.out.cell14
                                have HG3 := Lib.hid hg2
                                clear hg2 HG2
                                obtain ⟨wc, rfl⟩ : ∃ wc0 : World, wc0 = wc := ⟨_, rfl⟩
                                obtain ⟨N1, hN1x⟩ : ∃ N1, N1 = n + 1 := ⟨_, rfl⟩
                                have HO9 := Lib.hid (HG1.out.app_own HNL.out (.cells #[.int .u16 (dd : Int), .int .u16 (dd : Int)] 42))
                                have HR9 := Lib.hid (blk_reads (Blk.new wc 42 #[.int .u16 (dd : Int), .int .u16 (dd : Int)]) (size := 2) (n := 1) rfl)
                                have HGS9 := Lib.hid (Nat.le_trans HG1.out.bel.size (below_one wc (.cells #[.int .u16 (dd : Int), .int .u16 (dd : Int)] 42)).size)
                                go_upto_region 27 with (fail)
                                go_wp2_with (first
                                  | (at_builtin; refine wpList_append_any _ rfl (.tmp 120) (.tmp 124) _ rfl W7.heap.size 42 gi0 _ 2 4 Try.underlying30 hgi0 hgz0 hgz1 hgz2 rfl (by omega) (.slice A n cp) n (gapC gs) rfl HO9.out _ (some ⟨wc.heap.size, 0, none⟩) 1 1 [.int .u16 (dd : Int), .int .u16 (dd : Int)] rfl HR9.out (gapC_one1 _) (by simp only [maxLen]; omega) (by omega) HGS9.out ?_; rw [← hN1x]; intro v10 W10 ho10 hg10 _; obtain ⟨A10, c10, rfl, _, _⟩ := own_slice ho10; obtain ⟨k14, f14, hgd⟩ := HG1.out.app_done hup1 hHj HG3.out HDD.out (by rw [hN1x, HNL.out]) ho10 hg10; have HGD := Lib.hid hgd; clear hgd ho10 hg10))
                                go_roundw
                                case rel =>
                                  subst hN1x
                                  exact ⟨j + 1, _, _, by go_num, by omega, by omega, HGD⟩
                                case measure => simp [intOf]; omega
                        · have HF := Lib.hid (HQ.out.fin hT3 (by omega))
                          have HJJ : Hid (j = if up < i then i else up + 1) := by
                            show j = _
                            split <;> omega
                          go_wp2_with fail
                          go_meet
                          refine ⟨rfl, gs, gv, ?_⟩
                          rw [← HJJ.out]
                          exact HF
                    case rest =>
                      obtain ⟨rfl, gs, gv, HG⟩ := hcut
                      have hskA : skA st up gs = skK T gs := by rw [HT.out]; rfl
                      have HAK := Lib.hid (HL7.out.2.1.ack (fun _ _ h => h) hui hup (by omega) HHH.out HUP.out.1 HUP.out.2 HG.out.2.2.2.2)
                      rw [hskA] at HAK
                      have HACK := Lib.hid (HL7.out.1.ack I HG.out.1 (now := 5) (by omega) HG.out.2.2.1 (fun ad n cp e => by
                        have e' : (some gv : Option Value) = some (.slice (some ad) n cp) := e
                        injection e' with e'
                        exact .inr (HG.out.2.2.2.1 ad n cp e')))
                      go_wp2_with (refine wpList_load_row rfl 35 _ rfl g13 rfl 35 (ckArr (skK T gs) gv nilV nilV nilV nilV) (0, 0) _ HG.out.2.1 Try.underlying35 rfl chunk_info ?_)
                      refine HACK.out.mono ?_
                      rintro e W20 ⟨rfl, HF20, HK20⟩
                      obtain ⟨s', hs'⟩ : ∃ s', s' = (ackF 5 s (skK T gs)).1 := ⟨_, rfl⟩
                      obtain ⟨ak, hak⟩ : ∃ ak, ak = (ackF 5 s (skK T gs)).2 := ⟨_, rfl⟩
                      rw [← hs'] at HF20
                      rw [← hs', ← hak] at HAK
                      rw [← hak]
                      clear hs' hak HACK
                      have HB20 : Hid (Blk W20 gh 40 (hasA H')) := HK20.out.blk (HG.out.1.block gh HL7.out.2.2.lt |>.trans HL7.out.2.2) (fun e => e rfl)
                      obtain ⟨kb, kon, kl, kr, kx⟩ := ak
                      obtain rfl : kx = false := HAK.out.2
                      have e6 : akV ⟨kb, kon, kl, kr, false⟩ = .agg #[.int .i64 (kb : Int), .bool kon, .bool kl, .int .i64 kr, .bool false] := rfl
                      rw [e6]
                      clear e6
                      have kf := fld_acked W20 kb kon kl kr false
                      have HS20 := Lib.hid HAK.out.1
                      clear HG HK20 HAK hskA HL7 HHH HL8 HGP HK13 HG13 HT
                      go_wp2_with fail
                      refine (HF20.out.late I).mono ?_
                      rintro e W21 ⟨nl, rfl, HF21, HK21⟩
                      have HL21 : Hid (FV R W2 p (fun x => x = gh) s'.late W21 ∧ ArS st i up H' sz (fun j x => x = if j < 0 then 0 else 1) s'.late ∧ Blk W21 gh 40 (hasA H')) := ⟨HF21.out, HS20.out.late.weak (fun j x _ h => by rw [if_neg (Nat.not_lt_zero _)]; exact h), HK21.out.blk HB20.out (fun e => e rfl)⟩
                      clear HF20 HF21 HK21 HB20 HS20
                      go_upto_region 32 with (fail)
                      obtain ⟨wq, rfl⟩ : ∃ wq : World, wq = W21 := ⟨_, rfl⟩
                      go_loopw [17, 18, 19, 134] (fun _ _ _ v134 wz => ∃ (k : Nat) (s : FS), v134 = .int .i64 (k : Int) ∧ k ≤ i ∧ Hid (FV R W2 p (fun x => x = gh) s wz ∧ ArS st i up H' sz (fun j x => x = if j < k then 0 else 1) s ∧ Blk wz gh 40 (hasA H'))) (fun _ _ _ v134 _ => i - (intOf v134).toNat)
                      case atStart => exact ⟨0, _, rfl, by omega, HL21⟩
                      case round =>
                        clear HL21
                        obtain ⟨k, s, rfl, hk, HL⟩ := hrel
                        by_cases hki : k < i
                        · have ck := (HL.out.2.2.cell k).trans (hasA_at H' (j := k) (by omega))
                          cases hHk : H' k with
                          | true =>
                            rw [hHk] at ck
                            have HL2 : Hid (FV R W2 p (fun x => x = gh) s wr ∧ ArS st i up H' sz (fun j x => x = if j < k + 1 then 0 else 1) s ∧ Blk wr gh 40 (hasA H')) := ⟨HL.out.1, HL.out.2.1.skip hHk, HL.out.2.2⟩
                            go_wp2_with fail
                            go_roundw
                            case rel => exact ⟨k + 1, s, by go_num, by omega, HL2⟩
                            case measure => simp [intOf]; omega
                          | false =>
                            rw [hHk] at ck
                            have hwr : IntKind.u32.wrap (r : Int) = (r : Int) := by rw [IntKind.wrap_u32]; omega
                            obtain ⟨ak, dk, hak, hdk, hszk, hczk⟩ := HZ.out k (by have := HNN.out; omega)
                            have HCZ := Lib.hid hczk
                            clear hczk
                            go_wp2_with fail
                            refine (HL.out.1.again I (now := r) (by omega)).mono ?_
                            rintro e WZ ⟨cz9, AZ, cpZ, okZ, sZ, rZ, rfl, HARZ, HDJZ, HFZ, HKZ⟩
                            obtain ⟨c9, hr9, ht9, hm9, hb9, hA9⟩ := HL.out.2.1.again hki hHk HARZ.out
                            obtain ⟨rfl, rfl⟩ : okZ = true ∧ cz9 = c9 := by
                              rcases HDJZ.out with ⟨e1, _⟩ | ⟨e1, e2⟩
                              · rw [hr9] at e1; cases e1
                              · rw [hr9] at e1; injection e1 with e1; exact ⟨e2, e1.symm⟩
                            have HBZ : Hid (Blk WZ gh 40 (hasA H')) := HKZ.out.blk HL.out.2.2 (fun e => e rfl)
                            obtain ⟨csz, hcsz⟩ : ∃ cs, cs = bareA cz9 AZ cz9.body.length cpZ := ⟨_, rfl⟩
                            have HSZ_csz : Hid (csz.size = 19) := by rw [hcsz]; rfl
                            have HON_csz : Hid (csz.all (·.oneCell') = true) := by rw [hcsz]; exact bareA_oneF _ _ _ _
                            have HS1_csz : Hid ((Try.prog.info? 35).map (·.size) = some csz.size) := by rw [HSZ_csz.out]; exact chunk_info
                            have HS2_csz : Hid ((ckArr (zeroC 0) nilV nilV nilV nilV nilV).size = csz.size) := by rw [HSZ_csz.out]; rfl
                            obtain ⟨T9, hT9⟩ : ∃ T9, T9 = (st + k) % 4294967296 := ⟨_, rfl⟩
                            obtain ⟨L9, hL9⟩ : ∃ L9, L9 = 1 + dk := ⟨_, rfl⟩
                            have HC5 : Hid (csz[5]? = some (.int .u32 (T9 : Int))) := by rw [hcsz, hT9, ← ht9]; rfl
                            have HC7 : Hid (csz[7]? = some (.int .u32 (k : Int))) := by
                              have e7 : csz[7]? = some (.int .u32 (cz9.mid : Int)) := by rw [hcsz]; rfl
                              rw [e7, hm9]
                              exact rfl
                            have HC18 : Hid (csz[18]? = some (.slice AZ L9 cpZ)) := by
                              have e18 : csz[18]? = some (.slice AZ cz9.body.length cpZ) := by rw [hcsz]; rfl
                              rw [e18, hb9, hszk, hL9]
                              exact rfl
                            rw [← hcsz]
                            have HA9 := Lib.hid hA9
                            clear hcsz HARZ HDJZ HKZ hr9 ht9 hm9 hb9 hA9 hszk HL
                            go_upto_region 36 with (first
                              | (with_reducible refine wpList_alloc_run _ rfl 35 rfl (alloc_zk _) ?_)
                              | (refine wpList_store_row rfl 35 _ _ rfl _ csz rfl rfl 35 (ckArr (zeroC 0) nilV nilV nilV nilV nilV) (Blk.new _ _ _) HS1_csz.out HS2_csz.out HON_csz.out ?_))
                            try simp only [Act.put, List.setIfInBounds_toArray, List.set_cons_zero, List.set_cons_succ]
                            obtain ⟨WY, hWY⟩ : ∃ WY, WY = (WZ.alloc (.cells (ckArr (zeroC 0) nilV nilV nilV nilV nilV) 35)).setRow WZ.heap.size csz := ⟨_, rfl⟩
                            obtain ⟨g18, hg18⟩ : ∃ g18, g18 = WZ.heap.size := ⟨_, rfl⟩
                            have hbY : Below WZ.heap.size WZ WY := by rw [hWY]; exact below_setRow (below_one WZ _) (Nat.le_refl _) _
                            have HKY : Hid (CkBlk WY g18 csz) := by rw [hWY, hg18]; exact setRow_heap _ _ _ _ _ _ (Blk.new WZ _ _)
                            have HLY : Hid (FV R W2 p (fun x => x = gh) sZ WY ∧ ArS st i up H' sz (fun j x => x = if j < k + 1 then 0 else 1) sZ ∧ Blk WY gh 40 (hasA H')) := ⟨HFZ.out.grows I hbY, HA9.out, blk_below HBZ.out hbY⟩
                            rw [← hWY, ← hg18]
                            clear hWY hg18 hbY HFZ HBZ HA9 HS1_csz HS2_csz HON_csz HSZ_csz
                            have k5 : WY.cell? ⟨g18, 5, none⟩ = some (.int .u32 (T9 : Int)) := (HKY.out.cell 5).trans HC5.out
                            have k7 : WY.cell? ⟨g18, 7, none⟩ = some (.int .u32 (k : Int)) := (HKY.out.cell 7).trans HC7.out
                            have k18 : WY.cell? ⟨g18, 18, none⟩ = some (.slice AZ L9 cpZ) := (HKY.out.cell 18).trans HC18.out
                            have czk := HCZ.out WY (HB2.out.trans (HLY.out.1.bel.mono HB2.out.size))
                            have hL9i : (1 : Int) + (dk : Int) = (L9 : Int) := by omega
                            have hkw : IntKind.u32.wrap (k : Int) = (k : Int) := by rw [IntKind.wrap_u32]; omega
                            have hT9i : IntKind.u32.wrap ((st : Int) + (k : Int)) = (T9 : Int) := by rw [IntKind.wrap_u32]; omega
                            clear hT9 hL9
                            subst hak
                            go_quiet (fail)
                            have HLQ : Hid (FV R W2 p (fun x => x = gh) sZ (WY.drewN nq) ∧ ArS st i up H' sz (fun j x => x = if j < k + 1 then 0 else 1) sZ ∧ Blk (WY.drewN nq) gh 40 (hasA H')) := ⟨HLY.out.1.grows I (below_drewN (Below.refl _ _) nq), HLY.out.2.1, HLY.out.2.2⟩
                            go_wp2_with fail
                            go_roundw
                            case rel => exact ⟨k + 1, sZ, by go_num, by omega, HLQ⟩
                            case measure => simp [intOf]; omega
                        · have hik : k = i := by omega
                          subst hik
                          have HAL := Lib.hid HL.out.2.1.all
                          go_wp2_with fail
                          refine (HL.out.1.again I (now := 9) (by omega)).mono ?_
                          rintro e WZ ⟨cz9, AZ, cpZ, okZ, sZ, rZ, rfl, HARZ, HDJZ, HFZ, HKZ⟩
                          obtain ⟨hrz, hsz⟩ := HAL.out.done HARZ.out
                          subst hsz
                          obtain rfl : okZ = false := by
                            rcases HDJZ.out with ⟨_, e2, _⟩ | ⟨e1, _⟩
                            · exact e2
                            · rw [hrz] at e1; cases e1
                          have HBZ : Hid (Blk WZ gh 40 (hasA H')) := HKZ.out.blk HL.out.2.2 (fun e => e rfl)
                          obtain ⟨csz, hcsz⟩ : ∃ cs, cs = bareA cz9 AZ cz9.body.length cpZ := ⟨_, rfl⟩
                          have HSZ_csz : Hid (csz.size = 19) := by rw [hcsz]; rfl
                          have HON_csz : Hid (csz.all (·.oneCell') = true) := by rw [hcsz]; exact bareA_oneF _ _ _ _
                          have HS1_csz : Hid ((Try.prog.info? 35).map (·.size) = some csz.size) := by rw [HSZ_csz.out]; exact chunk_info
                          have HS2_csz : Hid ((ckArr (zeroC 0) nilV nilV nilV nilV nilV).size = csz.size) := by rw [HSZ_csz.out]; rfl
                          rw [← hcsz]
                          clear hcsz HARZ HDJZ HKZ HL hrz
                          go_upto_region 40 with (first
                            | (with_reducible refine wpList_alloc_run _ rfl 35 rfl (alloc_zk _) ?_)
                            | (refine wpList_store_row rfl 35 _ _ rfl _ csz rfl rfl 35 (ckArr (zeroC 0) nilV nilV nilV nilV nilV) (Blk.new _ _ _) HS1_csz.out HS2_csz.out HON_csz.out ?_))
                          try simp only [Act.put, List.setIfInBounds_toArray, List.set_cons_zero, List.set_cons_succ]
                          obtain ⟨WY, hWY⟩ : ∃ WY, WY = (WZ.alloc (.cells (ckArr (zeroC 0) nilV nilV nilV nilV nilV) 35)).setRow WZ.heap.size csz := ⟨_, rfl⟩
                          have hbY : Below WZ.heap.size WZ WY := by rw [hWY]; exact below_setRow (below_one WZ _) (Nat.le_refl _) _
                          have HLY : Hid (FV R W2 p (fun x => x = gh) sZ WY ∧ ArS st k up H' sz (fun _ x => x = 0) sZ ∧ Blk WY gh 40 (hasA H')) := ⟨HFZ.out.grows I hbY, HAL.out, blk_below HBZ.out hbY⟩
                          rw [← hWY]
                          clear hWY hbY HFZ HBZ HAL HS1_csz HS2_csz HON_csz HSZ_csz
                          go_wp2_with fail
                          go_roundw
                          case rel => exact ⟨r + 1, up, H', sZ, by go_num, by omega, HLY⟩
                          case measure => simp [intOf]; omega
            · go_wp2_with fail
              refine (HL.out.1.pointS I (inter := true)).mono ?_
              rintro e W9 ⟨cs, ck, ok, rfl, HCA, HD, HF9, HK9⟩
              have hro := HL.out.2.1.row
              obtain ⟨rfl, rfl⟩ : ok = false ∧ ck = zeroC 0 := by
                rcases HD.out with ⟨_, h1, h2⟩ | ⟨h1, _⟩
                · exact ⟨h1, h2⟩
                · exact absurd hro h1
              have HS := Lib.hid HL.out.2.1
              have HSZ : Hid (cs.size = 19) := HCA.out.size
              have HON : Hid (cs.all (·.oneCell') = true) := HCA.out.one
              have HS1 : Hid ((Try.prog.info? 35).map (·.size) = some cs.size) := by rw [HSZ.out]; exact chunk_info
              have HS2 : Hid ((ckArr (zeroC 0) nilV nilV nilV nilV nilV).size = cs.size) := by rw [HSZ.out]; rfl
              have HF9b := Lib.hid (HF9.out.more I (Below.refl W9.heap.size W9) (S' := fun _ => False) (fun i h => h.elim))
              clear HD HK9 HF9 HL hro
              go_upto_region 44 with (first
                | (with_reducible refine wpList_alloc_run _ rfl 35 rfl (alloc_zk _) ?_)
                | (refine wpList_store_row rfl 35 _ _ rfl _ cs rfl rfl 35 (ckArr (zeroC 0) nilV nilV nilV nilV nilV) (Blk.new _ _ _) HS1.out HS2.out HON.out ?_))
              try simp only [Act.put, List.setIfInBounds_toArray, List.set_cons_zero, List.set_cons_succ]
              obtain ⟨WA, hWA⟩ : ∃ WA, WA = (W9.alloc (.cells (ckArr (zeroC 0) nilV nilV nilV nilV nilV) 35)).setRow W9.heap.size cs := ⟨_, rfl⟩
              have hbA : Below W9.heap.size W9 WA := by rw [hWA]; exact below_setRow (below_one W9 _) (Nat.le_refl _) _
              have HFA := Lib.hid (HF9b.out.grows I hbA)
              rw [← hWA]
              clear hWA hbA HF9b HCA HS1 HS2 HON HSZ
              go_wp2_with fail
              refine (HFA.out.expire I (now := 1073741824) (by omega)).mono ?_
              rintro e WB ⟨A5, c5, n5, l5, rfl, h5a, h5b, H5N, HRD, H5S, H5M, HF5, HKP5⟩
              have hl5 : l5 = [] := List.eq_nil_iff_forall_not_mem.2 (fun x hx => by
                have h9 := (H5M.out x).1 hx
                rw [HS.out.noexp] at h9
                cases h9)
              obtain rfl : n5 = 0 := by rw [H5N.out, hl5]; rfl
              have HBE : Hid (Below w.heap.size w WB) := HB2.out.trans (HF5.out.bel.mono HB2.out.size)
              clear H5N H5S H5M HRD HF5 HKP5 hl5
              go_wp2_with fail
              go_ret
              exact ⟨rfl, HBE.out⟩
end Go.Proofs.Ytfgfiiknbkakaaa.flightArrives
