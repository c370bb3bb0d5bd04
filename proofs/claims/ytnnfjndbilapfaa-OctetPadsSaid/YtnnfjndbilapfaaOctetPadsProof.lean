/-
  PROVED: OctetPads of flumelaw04 answers true for every input, and its arguments read afterwards as before. CONDITIONS: none beside the form's own.
-/
import Derived.Test.YtnnfjndbilapfaaRows
import Derived.Test.YtnnfjndbilapfaaOctLaw
import Derived.WalkKit
import Derived.ProofKit
import Derived.OpenShut
import Derived.ShutString
import Derived.ChangeOld
import Derived.Below
namespace Go.Proofs.Ytnnfjndbilapfaa.octetPads
open Go.ChangeShapes Go.WideShapes Go.ChangeAt Go.RowKit
open Go.ChangeMaps (open_string shut_string)
set_option linter.unusedVariables false

theorem own : ownKnob Try.prog.godebug = none := by kernel_rfl
theorem laidOut : laidOutB Try.prog = true := by kernel_rfl

/-- What the walk is told of a slice of integers that came in. -/
def IsRow (k : IntKind) (w : World) (a : Option Addr) (len cap : Nat) (zs : List Int) : Prop :=
  (a = none ∧ len = 0 ∧ cap = 0 ∧ zs = []) ∨
  ∃ x, a = some x ∧ len ≤ cap ∧ cap ≤ maxLen ∧ zs.length = cap ∧ (∀ i, i < zs.length → w.cell? (x.add i) = some (.int k (zs.getD i 0))) ∧ ∀ n ∈ zs, (Lit.int k n).wf = true

/-! ### The walk -/
open Words Oct
set_option maxHeartbeats 4000000 in
set_option maxRecDepth 100000 in
theorem walk (a0 : Option Addr) (len0 cap0 : Nat) (z0 : List Int) (a1 : Int) (w : World) (w0 : IsRow .u8 w a0 len0 cap0 z0) (w1 : (Lit.int .i64 a1).wf = true) :
    Calls Try.prog 7 #[.slice a0 len0 cap0, .int .i64 a1] w fun e w' => e = .returned (.bool true) ∧ Below w.heap.size w w' := by
  obtain ⟨l, hlen, hcap, hc63, hby⟩ := bytes_of w0
  subst hlen
  have ha1 := bounds_i64 w1
  obtain ⟨x, hx⟩ : ∃ x, x = l.take 1000 := ⟨_, rfl⟩
  have hx1 : l.length ≤ 1000 → x = l := fun h => by rw [hx, List.take_of_length_le h]
  have hx2 : ¬ l.length ≤ 1000 → x.length = 1000 := fun h => by rw [hx, List.length_take]; omega
  have hx3 : x.length ≤ 1000 ∧ x.length ≤ l.length := by rw [hx, List.length_take]; omega
  have hbx : Byt w w.heap.size a0 x := by rw [hx]; exact hby.take_ 1000
  have HX1 := Lib.hid hx1
  have HX2 := Lib.hid hx2
  have HBX := Lib.hid hbx
  obtain ⟨hx3, hx4⟩ := hx3
  clear hx hx1 hx2 hby hbx w0 w1
  go_enter Try.func7, Try.ntmps7
  go_wp2_with fail
  refine (first_any w).mono ?_
  rintro e W1 ⟨rfl, hb1⟩
  have HB1 := Lib.hid hb1
  clear hb1
  go_upto_region 4 with (fail)
  obtain ⟨W2, hW2⟩ : ∃ W2, W2 = W1.alloc (.cells #[.slice none 0 0] 47) := ⟨_, rfl⟩
  have HWR : Hid (Wr W2 W1.heap.size W1.heap.size (.slice none 0 0) []) := by rw [hW2]; exact wr_zero W1
  have HB2 : Hid (Below w.heap.size w W2) := by rw [hW2]; exact HB1.out.alloc HB1.out.size _
  have HS2 : Hid (W1.heap.size ≤ W2.heap.size) := Nat.le_of_lt HWR.out.blk.lt
  have HP : Hid (w.heap.size ≤ W1.heap.size) := HB1.out.size
  rw [← hW2]
  clear hW2
  obtain ⟨p, hp⟩ : ∃ p, p = W1.heap.size := ⟨_, rfl⟩
  rw [← hp] at HWR HS2 HP ⊢
  clear hp
  have HBY : Hid (Byt W2 w.heap.size a0 x) := HBX.out.below HB2.out
  go_cut [] from 16 to 22 (fun wx => ∃ v, Hid (Wr wx p p v x) ∧ Hid (Below w.heap.size w wx) ∧ Hid (p ≤ wx.heap.size))
  case first =>
    by_cases h3 : (l.length : Int) ≤ 1000
    · have hxl := HX1.out (by omega)
      subst hxl
      go_wp2_with fail
      refine (wr_put HWR.out HS2.out (by simp) rfl (by omega) HBY.out).mono ?_
      rintro e W3 ⟨v3, rfl, hwr, hf, _⟩
      go_wp2_with fail
      go_meet
      exact ⟨v3, hwr, wr_below HB2.out (Nat.le_refl _) HP.out ⟨HWR.out.blk, own_mono HWR.out.own HP.out⟩ hf, Nat.le_trans HS2.out hf.size⟩
    · go_wp2_with fail
      refine (wr_put HWR.out HS2.out (by simp) (HX2.out (by omega)).symm (by omega) HBY.out).mono ?_
      rintro e W3 ⟨v3, rfl, hwr, hf, _⟩
      go_wp2_with fail
      go_meet
      exact ⟨v3, hwr, wr_below HB2.out (Nat.le_refl _) HP.out ⟨HWR.out.blk, own_mono HWR.out.own HP.out⟩ hf, Nat.le_trans HS2.out hf.size⟩
  case rest =>
    obtain ⟨v3, HW3, HB3, HS3⟩ := hcut
    go_wp2_with fail
    refine (wr_len HW3.out).mono ?_
    rintro e W ⟨rfl, rfl⟩
    obtain ⟨q, hq, hqb⟩ := u64rem a1 300 (by omega) (by omega)
    obtain ⟨r, hr⟩ : ∃ r, r = x.length := ⟨_, rfl⟩
    rw [← hr] at hx3 hx4 ⊢
    have HR := Lib.hid hr
    clear hr
    go_upto_region 7 with (fail)
    rw [hq, show (1 : Int) + (q : Int) = ((1 + q : Nat) : Int) by omega]
    obtain ⟨K, hK⟩ : ∃ K : Nat, K = 1 + q := ⟨_, rfl⟩
    rw [← hK]
    have hK1 : 1 ≤ K := by omega
    have hK2 : K ≤ 300 := by omega
    clear hq hqb hK
    obtain ⟨d, hd⟩ : ∃ d, d = padN r (K : Int) := ⟨_, rfl⟩
    obtain ⟨y, hy⟩ : ∃ y, y = x ++ List.replicate d 0 := ⟨_, rfl⟩
    have HY := Lib.hid hy
    have hyl : y.length = r + d := by rw [hy, List.length_append, List.length_replicate, ← HR.out]
    have hdk : d < K := by rw [hd]; exact padN_lt r K hK1
    have hmod : (r + d) % K = 0 := by rw [hd]; exact padN_mod r K hK1
    have HD : Hid (padN x.length (K : Int) = d) := by rw [← HR.out]; exact hd.symm
    have HYL := Lib.hid hyl
    have HMOD := Lib.hid hmod
    clear hd hy hyl hmod
    go_wp2_with fail
    refine (wr_pad (K : Int) HW3.out HS3.out (by rw [← HR.out]; omega) (by omega)).mono ?_
    rintro e W4 ⟨v4, rfl, hwr, hf, _⟩
    rw [HD.out, ← HY.out] at hwr
    have HW4 := Lib.hid hwr
    have HS4 := Lib.hid (Nat.le_trans HS3.out hf.size)
    have HB4 := Lib.hid (wr_below HB3.out (Nat.le_refl _) HP.out ⟨HW3.out.blk, own_mono HW3.out.own HP.out⟩ hf)
    clear hwr hf
    go_wp2_with fail
    refine (wr_len HW4.out).mono ?_
    rintro e W ⟨rfl, rfl⟩
    rw [HYL.out]
    obtain ⟨N, hN⟩ : ∃ N, N = r + d := ⟨_, rfl⟩
    rw [← hN] at HYL HMOD ⊢
    have hrN : r ≤ N := by omega
    have hNm : N ≤ 1300 := by omega
    have hNk : N < K + r := by omega
    have HND : Hid (N = r + d) := hN
    clear hN
    go_wp2_with fail
    refine (wr_out HW4.out (by rw [HYL.out]; omega)).mono ?_
    rintro e W5 ⟨⟨u, rfl, ho⟩, hb5⟩
    obtain ⟨A, c, rfl, hnc, hc63', HYB⟩ := own_as (n := N) ho HYL.out.symm
    have HA : Hid (∀ a, A = some a → W4.heap.size ≤ a.block ∧ a.block < W5.heap.size) := fun a ha => ho.lt a.block (by subst ha; rfl)
    have HV4 : Hid (∀ g, v4.ownBlock = some g → g < W4.heap.size) := fun g hg => (HW4.out.own.lt g hg).2
    have HP4 : Hid (p < W4.heap.size) := HW4.out.blk.lt
    have HW5 := Lib.hid (HW4.out.grows hb5)
    have HS5 := Lib.hid (Nat.le_trans HS4.out hb5.size)
    have HB5 := Lib.hid (HB4.out.trans (hb5.mono HB4.out.size))
    clear ho hb5
    have HZ : Hid (∀ k (hk : k < (y.drop r).length), (y.drop r)[k] = 0) := fun k hk => by
      have hk' : k < N - r := by rw [List.length_drop, HYL.out] at hk; exact hk
      have := HND.out
      apply Option.some.inj
      rw [← List.getElem?_eq_getElem hk, HY.out, List.getElem?_drop, List.getElem?_append_right (by rw [← HR.out]; omega), List.getElem?_replicate, if_pos (by rw [← HR.out]; omega)]
    have HDL : Hid ((y.drop r).length = N - r) := by rw [List.length_drop, HYL.out]; rfl
    have e1 : (r : Int) ≤ (N : Int) := by omega
    have e2 : (0 : Int) ≤ (r : Int) := by omega
    have e3 : (r : Int) ≤ (c : Int) := by omega
    go_upto_region 10 with (fail)
    go_cut [39, 40, 41] from 37 to 42 (fun s39 s40 s41 wx => ∃ A' c', s39 = .slice A' (N - r) c' ∧ s40 = .int .i64 ((N - r : Nat) : Int) ∧ s41 = .int .i64 0 ∧ Hid (Byt W5 W5.heap.size A' (y.drop r)) ∧ W5 = wx)
    case first =>
      by_cases hcr : c = r
      · subst hcr
        go_wp2_with fail
        go_meet
        have e0 : N - c = 0 := by omega
        exact ⟨_, _, by first | rfl | rw [e0], by first | rfl | (rw [e0]; rfl), rfl, HYB.out.cut_end (by rw [HYL.out]; omega), rfl⟩
      · go_wp2_with fail
        go_meet
        exact ⟨_, _, rfl, rfl, rfl, HYB.out.cut_map (by rw [HYL.out]; exact hrN), rfl⟩
    case rest =>
      obtain ⟨A', c', rfl, rfl, rfl, HYD, rfl⟩ := hcut
      obtain ⟨D, hD⟩ : ∃ D, D = N - r := ⟨_, rfl⟩
      rw [← hD] at HDL ⊢
      have hD2 : D ≤ 1300 := by omega
      clear hD
      go_wp2_with fail
      go_loopw [11, 41] (fun _ i wr => ∃ k : Nat, k ≤ D ∧ i = .int .i64 k ∧ W5 = wr) (fun _ i _ => D - (intOf i).toNat)
      case atStart => exact ⟨0, by omega, rfl, rfl⟩
      case round =>
        obtain ⟨k, hk, rfl, rfl⟩ := hrel
        by_cases hlt : k < D
        · have hk2 : k < (y.drop r).length := by rw [HDL.out]; exact hlt
          obtain ⟨ad, rfl, _, hc⟩ := HYD.out.at_byte hk2
          rw [HZ.out k hk2, show (((0 : UInt8).toNat : Nat) : Int) = 0 by rfl] at hc
          go_wp2_with fail
          go_roundw
          case rel => exact ⟨k + 1, by omega, by go_num, by first | rfl | trivial⟩
          case measure => simp [intOf]; omega
        · obtain rfl : k = D := by omega
          go_wp2_with fail
          refine (wr_pad (K : Int) HW5.out HS5.out (by rw [HYL.out]; omega) (by omega)).mono ?_
          rintro e W6 ⟨v6, rfl, hwr, hf, hv6⟩
          have e0 : padN y.length (K : Int) = 0 := padN_zero _ _ (.inr (by rw [HYL.out, Int.toNat_natCast]; exact HMOD.out))
          rw [e0, List.replicate_zero, List.append_nil] at hwr
          have HW6 := Lib.hid hwr
          have HS6 := Lib.hid (Nat.le_trans HS5.out hf.size)
          have HB6 := Lib.hid (wr_below HB5.out (Nat.le_refl _) HP.out ⟨HW5.out.blk, own_mono HW5.out.own HP.out⟩ hf)
          clear hwr e0
          go_wp2_with fail
          refine (wr_pad (-(K : Int)) HW6.out HS6.out (by rw [HYL.out]; omega) (by omega)).mono ?_
          rintro e W7 ⟨v7, rfl, hwr, hf2, _⟩
          have e0 : padN y.length (-(K : Int)) = 0 := padN_zero _ _ (.inl (by omega))
          rw [e0, List.replicate_zero, List.append_nil] at hwr
          have HW7 := Lib.hid hwr
          have hbW : Below p W5 W7 := (wr_below (Below.refl p W5) HS5.out (Nat.le_refl _) HW5.out hf).trans (wr_below (Below.refl p W6) HS6.out (Nat.le_refl _) HW6.out hf2)
          have HB7 := Lib.hid (wr_below HB6.out (Nat.le_refl _) HP.out ⟨HW6.out.blk, own_mono HW6.out.own HP.out⟩ hf2)
          have hst1 : ∀ q, (convert 22 9 (.slice A r c)).run Try.prog (W7.drewN q) = .ok (.string ⟨x.toArray⟩) (W7.drewN q) := fun q => by
            have h6 : Byt W6 W5.heap.size A y := hf.byt HYB.out (Nat.le_refl _) (fun a ha hs => by
              have h1 := HA.out a ha
              have h2 := HP4.out
              rcases hs with h3 | h3
              · omega
              · have := HV4.out _ h3.symm; omega)
            have h7 : Byt W7 W5.heap.size A y := hf2.byt h6 hf.size (fun a ha hs => by
              have h1 := HA.out a ha
              have h2 := HP4.out
              rcases hs with h3 | h3
              · omega
              · rcases hv6 with h4 | ⟨g, h4, h5⟩
                · rw [h4] at h3
                  have := HV4.out _ h3.symm; omega
                · rw [h4] at h3
                  injection h3 with h3
                  omega)
            have hby : Byt (W7.drewN q) W5.heap.size A (y.take r) := (h7.take_ r).drewN q
            exact str_as hby (by rw [HY.out, HR.out, List.take_left]) _ _ _ Try.underlying22 Try.underlying5 Try.underlying9 r c (by rw [List.length_take, HYL.out]; omega)
          have hst2 : ∀ q, (convert 22 9 (.slice a0 r cap0)).run Try.prog (W7.drewN q) = .ok (.string ⟨x.toArray⟩) (W7.drewN q) := fun q => str_as (B := w.heap.size) ((HBX.out.below HB7.out).drewN q) rfl _ _ _ Try.underlying22 Try.underlying5 Try.underlying9 r cap0 HR.out
          have g1 : ((N : Int) % (K : Int) == 0) = true := by have := HMOD.out; simp; omega
          have g2 : (N : Int) - (r : Int) < (K : Int) := by omega
          have HLEN : Hid (∀ n, Calls Try.prog 27 #[rptr p] (W7.drewN n) fun e w' => e = .returned (.int .i64 (N : Int)) ∧ W7.drewN n = w') := fun n => by
            have := wr_len (HW7.out.fr ((Fr.refl (fun _ => False) W7).drewN n) id (fun _ _ h => h))
            rwa [HYL.out] at this
          have e4 : (r : Int) ≤ (cap0 : Int) := by omega
          clear hf hf2 hwr e0 hv6
          go_wp2_with fail
          go_quiet ((go_at_call 27; exact quiet_left (HLEN.out _)))
          go_wp2_with fail
          go_ret
          exact ⟨rfl, below_drewN HB7.out _⟩

/-! ### The row's step -/
set_option maxRecDepth 100000 in
theorem lifted (os : Os) (started : os.Started) (H : Type) (enc : TypeId × Value → H) :
    ReturnsInHanded {} Try.checked os 7 .any (Rows.octetPadsSpec.pre6 enc Try.prog Try.f7 Rows.octetPadsRow.domain false) (Rows.octetPadsSpec.post enc Try.prog Try.f7 false true false false) := by
  refine returnsInHanded_of_change (C := Try.checked) own started (by kernel_rfl) Try.func7
    (ChangeSpec.witness6 (enc := enc) (C := Try.checked) false ⟨#[], #[.slice none 0 0, .int .i64 0], []⟩ 8 (by kernel_rfl) (by kernel_rfl) (by kernel_rfl) (by kernel_rfl)) ?_
  intro W base args ds gs before hval0 hW hcnd _
  have hval : ∀ (j : Nat) t v, Try.f7.params[j]? = some t → args[j]? = some v → Value.okWide Try.prog W .any base t v := hval0
  have hW' := hW
  obtain ⟨p, q, hA0, hV, rfl, hfz, hnd⟩ := hW
  have hA : DataW.TrodAll enc Try.prog W 0 (fun _ => true) true Try.f7.params.toList args.toList ds p := hA0
  rw [Try.params7] at hA hval
  obtain ⟨v0, vs0, d0, ds0, p0, q0, hargs, rfl, rfl, h0, r0⟩ := trodAll_cons hA
  obtain ⟨v1, vs1, d1, ds1, p1, q1, rfl, rfl, rfl, h1, r1⟩ := trodAll_cons r0
  obtain ⟨rfl, rfl, rfl⟩ := trodAll_nil r1
  obtain rfl : args = #[v0, v1] := by cases args; simp_all
  obtain ⟨rfl, rfl⟩ := trodVars_none hV
  obtain ⟨a0, len0, cap0, rfl⟩ := okWide_slice Try.underlying22 (hval 0 22 v0 rfl rfl)
  have k0 := h0
  have lt0 : ∀ x ∈ p0, x.block < W.heap.size := by obtain ⟨m, hm⟩ := k0; exact DataW.trod_lt m _ _ _ hm
  obtain ⟨z0, w0⟩ : ∃ zs, IsRow .u8 W a0 len0 cap0 zs := by
    obtain ⟨fuel, hf⟩ := h0
    rcases open_ints Try.underlying22 Try.underlying5 (by kernel_rfl) hf with ⟨hcs, _⟩ | ⟨x, l, c, zs, hcs, _, hl, hm, hz, _, hcell, hwz⟩
    · simp [Value.cells] at hcs
      obtain ⟨rfl, rfl, rfl⟩ := hcs
      exact ⟨[], .inl ⟨rfl, rfl, rfl, rfl⟩⟩
    · simp [Value.cells] at hcs
      obtain ⟨rfl, rfl, rfl⟩ := hcs
      exact ⟨zs, .inr ⟨_, rfl, hl, hm, by simpa using hz, hcell, hwz⟩⟩
  obtain ⟨a1, rfl, rfl, rfl, w1⟩ := open_int Try.underlying3 (hval 1 3 v1 rfl rfl) h1
  clear hA0 hval0
  refine (walk a0 len0 cap0 z0 a1 W w0 w1).mono fun e W' ⟨he, bel⟩ => ?_
  subst he
  exact ⟨_, rfl, _, _, _, [], _, [], hW', trodAll_mk1 (shut_bool Try.underlying4 _), (trodAll_cons_mk (Below.trod laidOut (by kernel_rfl) (of_decide_eq_true (by kernel_rfl)) k0 bel lt0) (trodAll_cons_mk (shut_int Try.underlying3 w1) trodAll_mk0)), rfl, bel.frame _, fun h => by cases h⟩

theorem over : Rows.octetPadsRow.holds Try.pinned (OpenSpec.ofChange Rows.octetPadsSpec) :=
  OpenClaim.holds_of_wide 7 Try.f7 rfl rfl rfl rfl rfl rfl rfl ⟨rfl, rfl, rfl, rfl, rfl⟩ rfl rfl rfl rfl rfl (by kernel_rfl) Try.func7 (by kernel_rfl)
    (of_decide_eq_true (by kernel_rfl)) (by unfold Func.isWrapper; first | (rw [if_pos (by decide +kernel)]; kernel_rfl) | (rw [if_neg (by decide +kernel)]; exact ⟨rfl, rfl⟩))
    (fun os started H enc _ => lifted os started H enc)

theorem proved : Rows.OctetPadsSaid := over
#print axioms proved
end Go.Proofs.Ytnnfjndbilapfaa.octetPads
