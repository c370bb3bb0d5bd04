/-
  Of the texts IntakeForwardsWalk: what the laws reach.
-/
import Derived.Test.YtioddokjogbmnaaRows
import Derived.Test.YtioddokjogbmnaaP10
import Derived.WalkKit
import Derived.ProofKit
import Derived.OpenShut
import Derived.ShutString
import Derived.ChangeOld
import Derived.Below

namespace Go.Proofs.Ytioddokjogbmnaa.intakeForwards
open Go.ChangeShapes Go.WideShapes Go.ChangeAt Go.RowKit
open Go.ChangeMaps (open_string shut_string)
set_option linter.unusedVariables false
set_option linter.unusedSimpArgs false
theorem own : ownKnob Try.prog.godebug = none := by kernel_rfl
theorem laidOut : laidOutB Try.prog = true := by kernel_rfl
/-- What the walk is told of a slice of integers that came in. -/
def IsRow (k : IntKind) (w : World) (a : Option Addr) (len cap : Nat) (zs : List Int) : Prop :=
  (a = none ∧ len = 0 ∧ cap = 0 ∧ zs = []) ∨
  ∃ x, a = some x ∧ len ≤ cap ∧ cap ≤ maxLen ∧ zs.length = cap ∧ (∀ i, i < zs.length → w.cell? (x.add i) = some (.int k (zs.getD i 0))) ∧ ∀ n ∈ zs, (Lit.int k n).wf = true
open Words Oct Par Chk In
theorem nat_u8 {x : Int} (h : (Lit.int .u8 x).wf = true) : ∃ n : Nat, x = n ∧ n ≤ 255 := by
  have := bounds_u8 h
  exact ⟨x.toNat, by omega, by omega⟩
theorem sub_adr (M : Int) (x k : Nat) (hx : x ≤ 255) (hk : k ≤ 255) : (Span.adr M x - Span.adr M k) % 4294967296 = (if k ≤ x then ((x - k : Nat) : Int) else 4294967296 - ((k - x : Nat) : Int)) := by
  unfold Span.adr
  split <;> omega
set_option maxHeartbeats 1600000 in
set_option maxRecDepth 100000 in
theorem walk {R : World → (Nat → Prop) → Nat → Bool → In.IS → Prop} (I : In.InI R) (a0 : Int) (a1 : Option Addr) (len1 cap1 : Nat) (z1 : List Int) (a2 : Int) (w : World) (w0 : (Lit.int .u32 a0).wf = true) (w1 : IsRow .u8 w a1 len1 cap1 z1) (w2 : (Lit.int .u8 a2).wf = true) :
    Calls Try.prog 10 #[.int .u32 a0, .slice a1 len1 cap1, .int .u8 a2] w fun e w' => e = .returned (.bool true) ∧ Below w.heap.size w w' := by
  have hw0 := bounds_u32 w0
  obtain ⟨x, rfl, hx⟩ := nat_u8 w2
  have keep : ∀ {V : World}, Below w.heap.size w V → ∀ {p : Addr} {u : Value}, w.cell? p = some u → V.cell? p = some u := fun {V} hb {p u} h => (hb.cell (World.block_lt_of_cell? w _ h)).trans h
  have HZ : Hid (∀ {V : World}, Below w.heap.size w V → ∀ i, i < len1 → ∃ (a : Addr) (d : Nat), a1 = some a ∧ V.cell? (a.add i) = some (.int .u8 (d : Int)) ∧ d ≤ 255) := fun {V} hb i hi => by
    rcases w1 with ⟨_, h2, _⟩ | ⟨y, h1, h2, h3, h4, h5, h6⟩
    · omega
    · have hl : i < z1.length := by omega
      obtain ⟨d, hd, hd2⟩ := nat_u8 (h6 (z1.getD i 0) (by
        rw [List.getD_eq_getElem?_getD, List.getElem?_eq_getElem hl]
        exact List.getElem_mem hl))
      exact ⟨y, d, h1, by rw [← hd]; exact keep hb (h5 i hl), hd2⟩
  have hlen : len1 ≤ 9223372036854775807 := by
    rcases w1 with ⟨_, h2, _⟩ | ⟨y, h1, h2, h3, _⟩
    · omega
    · unfold maxLen at h3; omega
  have HM := Lib.hid hw0
  have kc := fun (w : World) (C : Array Value) (n c : Nat) => Lib.run_convert_bytes_const (P := Try.prog) w 39 5 C n c Try.underlying39 Try.underlying5
  clear w1 keep w0 w2
  go_enter Try.func10, Try.ntmps10
  go_wp2_with fail
  refine (first_i I w).mono ?_
  rintro e W2 ⟨rfl, hb2⟩
  have HB2 := Lib.hid hb2
  clear hb2
  go_wp2_with fail
  refine (I.new W2 a0 true HM.out).mono ?_
  rintro e W3 ⟨G0, p, rfl, hr, hg, hb3⟩
  have HF0 : Hid (FwS R W2 a0 p 0 W3) := FwS.new I HM.out ⟨hr, hg, hb3⟩
  clear hr hg hb3
  go_wp2_with fail
  obtain ⟨wo, rfl⟩ : ∃ wo : World, wo = W3 := ⟨_, rfl⟩
  go_loopw [19] (fun v19 wr => ∃ (i m : Nat), v19 = .int .i64 (i : Int) ∧ i ≤ len1 ∧ m ≤ i ∧ m ≤ 40 ∧ Hid (FwS R W2 a0 p m wr)) (fun v19 _ => len1 - (intOf v19).toNat)
  case atStart => exact ⟨0, 0, rfl, by omega, by omega, by omega, HF0⟩
  case round =>
    clear HF0
    obtain ⟨i, m, rfl, hi, hmi, hm, HF⟩ := hrel
    by_cases hlt : i < len1
    · obtain ⟨a, d, rfl, cz, hd⟩ := HZ.out (HB2.out.trans (HF.out.bel.mono HB2.out.size)) i hlt
      by_cases h40 : i < 40
      · obtain ⟨e1, e2⟩ := adr_nat a0 d
        have hadr : (a0 + (d : Int)) % 4294967296 = (((Span.adr a0 d).toNat : Nat) : Int) := by rw [e1]; rfl
        obtain ⟨tn, htn⟩ : ∃ tn, tn = (Span.adr a0 d).toNat := ⟨_, rfl⟩
        rw [← htn] at hadr
        have HPUT := Lib.hid (HF.out.put I HM.out (d := d) (b := UInt8.ofNat d) (cs := #[.int .u8 (d : Int)]) (tt := 5) (fr := (0, 0)) (by omega) hd (by simp [u8s]; omega))
        rw [← htn] at HPUT
        clear e1 e2 htn
        go_wp2_with (refine wpList_build_6 rfl 41 rfl (.int .u8 64) (.int .u32 ((a0 + (d : Int)) % 4294967296)) (.bool true) (.bool true) (.bool true) (.slice (some ⟨wr.heap.size, 0, none⟩) 1 1) rfl rfl rfl rfl rfl rfl _ (built_6 64 tn (UInt8.ofNat d) _ hadr) ?_)
        refine HPUT.out.mono ?_
        rintro e W4 ⟨n, rfl, H4⟩
        clear HPUT
        go_wp2_with fail
        go_roundw
        case rel => exact ⟨i + 1, m + 1, by go_num, by omega, by omega, by omega, H4⟩
        case measure => simp [intOf]; omega
      · go_wp2_with fail
        go_roundw
        case rel => exact ⟨i + 1, m, by go_num, by omega, by omega, by omega, HF⟩
        case measure => simp [intOf]; omega
    · obtain ⟨k, hk, HMK⟩ := HF.out.mark I
      have HMC := Lib.hid HMK
      obtain ⟨f1, f2⟩ := adr_nat a0 x
      have hadr : (a0 + (x : Int)) % 4294967296 = (((Span.adr a0 x).toNat : Nat) : Int) := by rw [f1]; rfl
      obtain ⟨tx, htx⟩ : ∃ tx, tx = (Span.adr a0 x).toNat := ⟨_, rfl⟩
      have htxe : (tx : Int) = Span.adr a0 x := by rw [htx]; exact f1
      rw [← htx] at hadr f2
      have HTX := Lib.hid htx
      have HTE := Lib.hid htxe
      clear HMK htx f1 htxe
      go_upto_region 11 with (fail)
      rw [hadr]
      clear hadr
      go_wp2_with fail
      refine HMC.out.mono ?_
      rintro e W4 ⟨rfl, H4⟩
      obtain ⟨wk, hwk⟩ : ∃ wk, wk = Span.adr a0 k := ⟨_, rfl⟩
      have hwkb := Span.adr_bd a0 k
      rw [← hwk] at hwkb ⊢
      have HWK := Lib.hid hwk
      have HFW := Lib.hid (Fw_forw (x := x) I HM.out (by omega) hx hk H4.out)
      rw [← HTX.out] at HFW
      clear hwk HMC
      go_wp2_with (refine wpList_build_2 rfl 41 rfl (.int .u8 194) (.int .u32 (tx : Int)) rfl rfl _ (built_fw 194 tx rfl) ?_)
      refine HFW.out.mono ?_
      rintro e W5 ⟨rfl, k', H5, HKK, hk', hxk⟩
      have HMK5 := Lib.hid (H5.out.mark I)
      obtain ⟨wm, hwm⟩ : ∃ wm, wm = Span.adr a0 k' := ⟨_, rfl⟩
      have hwmb := Span.adr_bd a0 k'
      rw [← hwm] at hwmb HMK5
      have HWM := Lib.hid hwm
      have hs1 : ((tx : Int) - wk) % 4294967296 = (if k ≤ x then ((x - k : Nat) : Int) else 4294967296 - ((k - x : Nat) : Int)) := by rw [HTE.out, HWK.out]; exact sub_adr a0 x k hx hk
      have hs2 : (wm - (tx : Int)) % 4294967296 = ((k' - x : Nat) : Int) := by rw [HTE.out, HWM.out, sub_adr a0 k' x hk' hx, if_pos hxk]
      have hne : ((tx : Int) = wk) ↔ x = k := by
        rw [HTE.out, HWK.out]
        exact ⟨fun e => adr_inj HM.out (by omega) (by omega) e, fun e => by rw [e]⟩
      clear hwm HFW
      go_upto_region 13 with (fail)
      go_cut [10, 12, 39, 43, 45, 76] from 46 to 76 (fun v10 _ _ _ _ v76 wx => v10 = .int .u32 (tx : Int) ∧ v76 = .bool false ∧ Hid (FwD R W2 a0 p x k' wx))
      case first =>
        by_cases hlx : k < x
        · have hdt : decide (k < x) = true := decide_eq_true hlx
          rw [if_pos (by omega)] at hs1
          have hn1 : ¬ (tx : Int) = wk := fun e => by have := hne.1 e; omega
          have hl1 : ((tx : Int) - wk) % 4294967296 < 2147483648 := by omega
          have hl2 : ¬ (2147483648 ≤ (wm - (tx : Int)) % 4294967296) := by omega
          rw [hdt]
          clear hne hs1 hs2 hdt
          go_wp2_with fail
          refine HMK5.out.mono ?_
          rintro e W6 ⟨rfl, H6⟩
          go_wp2_with fail
          go_meet
          refine ⟨rfl, congrArg Value.bool ?_, H6⟩
          rw [Bool.or_eq_false_iff]
          exact ⟨by simpa using hn1, decide_eq_false (by omega)⟩
        · have hdt : decide (k < x) = false := decide_eq_false hlx
          have hkk : k' = k := by
            rcases HKK.out with h | h
            · exact absurd h hlx
            · exact h
          have hwe : wm = wk := by rw [HWM.out, HWK.out, hkk]
          rw [hdt]
          rw [hwe] at HMK5
          by_cases hkx : x = k
          · have hn1 : (tx : Int) = wk := hne.2 hkx
            have hl1 : ((tx : Int) - wk) % 4294967296 < 2147483648 := by rw [hn1]; omega
            have hnb : ((tx : Int) == wk) = true := by simpa using hn1
            have HN1 := Lib.hid hn1
            clear hn1 hne hs1 hs2 hdt hwe hkk hlx hkx
            go_wp2_with fail
            refine HMK5.out.mono ?_
            rintro e W6 ⟨rfl, H6⟩
            go_wp2_with fail
            go_meet
            exact ⟨by rw [HN1.out], rfl, H6⟩
          · have hl1 : ¬ ((tx : Int) - wk) % 4294967296 < 2147483648 := by rw [hs1, if_neg (by omega)]; omega
            clear hne hs1 hs2 hdt hwe hkk hlx hkx
            go_wp2_with fail
            refine HMK5.out.mono ?_
            rintro e W6 ⟨rfl, H6⟩
            go_wp2_with fail
            go_meet
            exact ⟨rfl, rfl, H6⟩
      case rest =>
        obtain ⟨rfl, rfl, H6⟩ := hcut
        obtain ⟨W6, hW6⟩ : ∃ W6, W6 = wc := ⟨_, rfl⟩
        rw [← hW6] at H6 ⊢
        clear hW6 hs1 hs2 hne HMK5
        have HTW := Lib.hid (H6.out.twice I HM.out (b := 120) (cs := #[.int .u8 120]) (tt := 5) (fr := (1, 2)) (by simp [u8s]))
        rw [← HTX.out] at HTW
        go_wp2_with (refine wpList_build_4 rfl 41 rfl (.int .u8 64) (.int .u32 (tx : Int)) (.bool true) (.slice (some ⟨W6.heap.size, 0, none⟩) 1 1) rfl rfl rfl rfl _ (built_4 64 tx 120 _ rfl) ?_)
        refine HTW.out.mono ?_
        rintro e W7 ⟨rfl, H7⟩
        have HFW := Lib.hid (Fw_forw (x := x) I HM.out (Nat.le_refl _) hx hk' H7.out.ex)
        rw [← HTX.out] at HFW
        have hdf : decide (k' < x) = false := decide_eq_false (by omega)
        rw [hdf] at HFW
        clear HTW hdf
        go_wp2_with (refine wpList_build_2 rfl 41 rfl (.int .u8 194) (.int .u32 (tx : Int)) rfl rfl _ (built_fw 194 tx rfl) ?_)
        refine HFW.out.mono ?_
        rintro e W8 ⟨rfl, k8, H8, _, _, _⟩
        obtain ⟨ty, hty⟩ : ∃ ty : Nat, ((tx : Int) + 500) % 4294967296 = (ty : Int) := ⟨(((tx : Int) + 500) % 4294967296).toNat, by omega⟩
        have HOT := Lib.hid (H8.out.other I (tn := ty) (by omega))
        clear HFW
        go_wp2_with (refine wpList_build_2 rfl 41 rfl (.int .u8 192) (.int .u32 (((tx : Int) + 500) % 4294967296)) rfl rfl _ (built_fw 192 ty hty) ?_)
        refine HOT.out.mono ?_
        rintro e W9 ⟨rfl, hb9⟩
        go_wp2_with fail
        go_ret
        exact ⟨rfl, HB2.out.trans (hb9.out.mono HB2.out.size)⟩
end Go.Proofs.Ytioddokjogbmnaa.intakeForwards
