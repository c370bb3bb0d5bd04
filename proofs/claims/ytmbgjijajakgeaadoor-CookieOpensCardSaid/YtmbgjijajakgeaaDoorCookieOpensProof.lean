/-
  PROVED: CookieOpens of flumelaw09 answers true for every input, and its arguments read afterwards as before. CONDITIONS: none beside the form's own.
-/
import Derived.Test.YtmbgjijajakgeaaDoorRows
import Derived.Test.YtmbgjijajakgeaaDoorCkR
import Derived.Test.YtmbgjijajakgeaaDoorMacLaid
import Derived.Test.YtmbgjijajakgeaaDoorCards
import Derived.Test.YtmbgjijajakgeaaDoorTie
import Derived.SevenTiedAt
import Derived.WalkKit
import Derived.ProofKit
import Derived.OpenShut
import Derived.ShutString
import Derived.ChangeOld
import Derived.Below
namespace Go.Proofs.YtmbgjijajakgeaaDoor.cookieOpens
open Go.ChangeShapes Go.WideShapes Go.ChangeAt Go.RowKit
open Go.ChangeMaps (open_string shut_string)
set_option linter.unusedVariables false
set_option linter.unusedSimpArgs false

theorem own : ownKnob Tryd.prog.godebug = none := by kernel_rfl
theorem laidOut : laidOutB Tryd.prog = true := by kernel_rfl

/-- What the walk is told of a slice of integers that came in. -/
def IsRow (k : IntKind) (w : World) (a : Option Addr) (len cap : Nat) (zs : List Int) : Prop :=
  (a = none ∧ len = 0 ∧ cap = 0 ∧ zs = []) ∨
  ∃ x, a = some x ∧ len ≤ cap ∧ cap ≤ maxLen ∧ zs.length = cap ∧ (∀ i, i < zs.length → w.cell? (x.add i) = some (.int k (zs.getD i 0))) ∧ ∀ n ∈ zs, (Lit.int k n).wf = true

/-! ### The walk -/
open Words Oct Sha Cok
set_option maxHeartbeats 16000000 in
set_option maxRecDepth 100000 in
theorem walk (a0 : Option Addr) (len0 cap0 : Nat) (z0 : List Int) (a1 : Option Addr) (len1 cap1 : Nat) (z1 : List Int) (a2 : Int) (w : World) (hLaid : Sha.Laid w) (w0 : IsRow .u8 w a0 len0 cap0 z0) (w1 : IsRow .u8 w a1 len1 cap1 z1) (w2 : (Lit.int .u32 a2).wf = true) :
    Calls Tryd.prog 4 #[.slice a0 len0 cap0, .slice a1 len1 cap1, .int .u32 a2] w fun e w' => e = .returned (.bool true) ∧ Below w.heap.size w w' := by
  obtain ⟨kb, hk, hkc, hk63, hkb⟩ := bytes_of w0
  obtain ⟨b, hb, hbc, hb63, hbb⟩ := bytes_of w1
  have hw2 := bounds_u32 w2
  obtain ⟨nw, rfl⟩ : ∃ n : Nat, a2 = (n : Int) := ⟨a2.toNat, by omega⟩
  have hnw : nw < 4294967296 := by omega
  have HKP : Hid (PtV w w.heap.size (.slice a0 len0 cap0) kb) := .mk hk (by omega) hk63 hkb
  have HKB := Lib.hid hkb
  have HKL := Lib.hid hk
  have HBB := Lib.hid hbb
  have HBL := Lib.hid hb
  have HBC : Hid (len1 ≤ cap1 ∧ cap1 ≤ 9223372036854775807) := ⟨by omega, hb63⟩
  have HLD := Lib.hid hLaid
  have HW0 : Hid (2 ≤ w.heap.size) := hLaid.size
  clear hLaid w0 w1 w2 hk hkc hk63 hkb hb hbc hb63 hbb hw2
  go_enter Tryd.func4, Tryd.ntmps4
  go_wp2_with fail
  refine (first_any w HLD.out).mono ?_
  rintro e W1 ⟨rfl, hb1⟩
  have HB1 : Hid (Below w.heap.size w W1) := hb1
  clear hb1
  by_cases hbig : 500 < len0
  · go_wp2_with fail
    go_ret
    exact ⟨rfl, HB1.out⟩
  by_cases hbig2 : 500 < len1
  · go_wp2_with fail
    go_ret
    exact ⟨rfl, HB1.out⟩
  have HKS : Hid (kb.length ≤ 500) := by show _ ≤ _; rw [← HKL.out]; omega
  have hb1w : Byt (W1.alloc (.cells #[] 5)) w.heap.size a1 b := Reads.alloc (HBB.out.below HB1.out) HB1.out.size _
  obtain ⟨v1, W2, hrun, ho2, hb2, _⟩ := own_add (B := W1.heap.size) (l := []) (x := b) (v := .slice (some ⟨W1.heap.size, 0, none⟩) 0 0) (c := cap1) (own_empty W1 5) (by simp) HBL.out hb1w (by simp; rw [← HBL.out]; omega) 22
  rw [List.nil_append] at ho2
  have hb2 : Below W1.heap.size W1 W2 := (below_new W1 _).trans hb2
  have HB2 : Hid (Below w.heap.size w W2) := HB1.out.trans (hb2.mono HB1.out.size)
  obtain ⟨A1, c1, hv1, hc1, hc2⟩ := own_slice ho2
  rw [← HBL.out] at hv1
  subst hv1
  have HRUN := Lib.hid hrun
  have HO2 := Lib.hid ho2
  have HBY2 : Hid (Byt W2 W2.heap.size A1 b) := Words.Own.byt ho2
  obtain ⟨c0, e0, hA1⟩ : ∃ (c0 : CK) (e0 : Nat), openP kb b nw = (c0, e0) := ⟨_, _, rfl⟩
  have HA1 := Lib.hid hA1
  clear hrun ho2 hb1w hb2 hc1 hc2 hA1
  go_wp2_with (at_builtin; refine Lib.wpList_append_run _ rfl (.tmp 23) (.tmp 24) _ _ rfl _ _ rfl rfl _ W2 HRUN.out ?_)
  have HCW3 : Hid (Calls Tryd.prog 9 #[.slice a0 len0 cap0, .slice A1 len1 c1, .int .u32 (nw)] W2 fun e w' => e = .returned (.tuple #[.agg (ckA c0), .int .i64 (e0 : Int)]) ∧ Below W2.heap.size W2 w') := by
    have := open_any (w := W2) (kb := kb) (b := b) (A := A1) (n := len1) (c := c1) (now := nw) (HKP.out.grow HB2.out) (by have := HKS.out; omega) HBL.out (by omega) HBY2.out (HLD.out.below HB2.out HW0.out)
    unfold OpenDone at this
    rw [HA1.out] at this
    exact this
  (try go_wp2_with fail)
  refine HCW3.out.mono ?_
  rintro e W3 ⟨rfl, hbW3⟩
  obtain ⟨G1, hG1⟩ : ∃ G, G = W3.heap.size := ⟨_, rfl⟩
  obtain ⟨W4, hW4⟩ : ∃ W, W = putCk W3 c0 := ⟨_, rfl⟩
  have hbp : Below W3.heap.size W3 W4 := by rw [hW4]; exact putCk_below _ _
  have HKG1 : Hid (Blk W4 G1 26 (ckA c0)) := by show Blk _ _ _ _; rw [hW4, hG1]; exact putCk_blk _ _
  have HBW4 : Hid (Below W2.heap.size W2 W4) := hbW3.trans (hbp.mono hbW3.size)
  have HWW4 := Lib.hid hW4
  have HEG1 := Lib.hid hG1
  have HSZ3 : Hid (W2.heap.size ≤ W3.heap.size) := hbW3.size
  clear hbW3 hbp hW4 hG1 HCW3
  have HGE1 : Hid (w.heap.size ≤ G1) := by show _ ≤ _; have h1 := HB2.out.size; have h2 := HEG1.out; have h3 := HSZ3.out; omega
  go_wp2_with (first
    | (with_reducible refine wpList_allocCk rfl rfl ?_)
    | (refine wpList_storeCk rfl _ _ rfl (c := c0) rfl rfl ?_; rw [← HWW4.out, ← HEG1.out]))
  try rw [← HWW4.out, ← HEG1.out]
  try rw [← HEG1.out]
  clear HWW4 HEG1
  have HB4 : Hid (Below w.heap.size w W4) := HB2.out.trans (HBW4.out.mono HB2.out.size)
  (try go_wp2_with fail)
  have HRO : Hid (Calls Tryd.prog 12 #[.slice a0 len0 cap0, .slice a1 len1 cap1, .int .u32 (nw : Int)] W4 fun e w' => e = .returned (.tuple #[.agg (ckA c0), .int .i64 (e0 : Int)]) ∧ Below W4.heap.size W4 w') := by
    have := ropen_any (w := W4) (ck := cap0) (c := cap1) (now := nw) HKL.out (by have := HKS.out; have := HKL.out; omega) ((HKB.out.below HB4.out).more HB4.out.size) HBL.out HBC.out.1 HBC.out.2 ((HBB.out.below HB4.out).more HB4.out.size) hnw
    unfold OpenDone at this
    rw [HA1.out] at this
    exact this
  refine HRO.out.mono ?_
  rintro e W5 ⟨rfl, hb5⟩
  obtain ⟨G2, hG2⟩ : ∃ G, G = W5.heap.size := ⟨_, rfl⟩
  obtain ⟨W6, hW6⟩ : ∃ W, W = putCk W5 c0 := ⟨_, rfl⟩
  have hb6 : Below W5.heap.size W5 W6 := by rw [hW6]; exact putCk_below _ _
  have hb46 : Below W4.heap.size W4 W6 := hb5.trans (hb6.mono hb5.size)
  have HKG2 : Hid (Blk W6 G2 26 (ckA c0)) := by show Blk _ _ _ _; rw [hW6, hG2]; exact putCk_blk _ _
  have HK16 : Hid (Blk W6 G1 26 (ckA c0)) := HKG1.out.below hb46 HKG1.out.lt
  have HB6 : Hid (Below w.heap.size w W6) := HB4.out.trans (hb46.mono HB4.out.size)
  have HO6 : Hid (Words.Own W6 W1.heap.size (.slice A1 len1 c1) b) := own_below (own_below HO2.out HBW4.out) hb46
  have HGN : Hid (w.heap.size ≤ G1 ∧ w.heap.size ≤ G2 ∧ G1 ≠ G2) := by
    refine ⟨?_, by rw [hG2]; exact Nat.le_trans HB4.out.size hb5.size, ?_⟩
    · exact HGE1.out
    · have := HKG1.out.lt; have := hb5.size; omega
  have HW6 := Lib.hid hW6
  have HE2 := Lib.hid hG2
  clear hb5 hb6 hb46 hW6 hG2 HRO HO2 HRUN HBY2
  have hcv1 := run_str (P := Tryd.prog) (Words.Own.byt HO6.out) 22 9 5 Tryd.underlying22 Tryd.underlying5 Tryd.underlying9 len1 c1 HBL.out
  have hcv2 := run_str (P := Tryd.prog) (HBB.out.below HB6.out) 22 9 5 Tryd.underlying22 Tryd.underlying5 Tryd.underlying9 len1 cap1 HBL.out
  by_cases h38 : len1 < 38
  · go_wp2_with (first
      | (with_reducible refine wpList_allocCk rfl rfl ?_)
      | (refine wpList_storeCk rfl _ _ rfl (c := c0) rfl rfl ?_; rw [← HW6.out, ← HE2.out])
      | (refine wpList_loadCk rfl _ rfl G1 c0 rfl HK16.out ?_)
      | (refine wpList_loadCk rfl _ rfl G2 c0 rfl HKG2.out ?_)
      | (refine wpList_neqCk rfl _ _ _ rfl c0 rfl rfl ?_))
    go_ret
    exact ⟨rfl, HB6.out⟩
  have HRS : Hid (Calls Tryd.prog 10 #[.slice a0 len0 cap0, .slice a1 38 cap1] W6 fun e w' => ∃ v, e = .returned v ∧ Words.Own w' W6.heap.size v (sealed kb (b.take 38)) ∧ Below W6.heap.size W6 w') :=
    rseal9_any (ck := cap0) (c := cap1) HKL.out (by have := HKS.out; have := HKL.out; omega) ((HKB.out.below HB6.out).more HB6.out.size) (by rw [List.length_take, ← HBL.out]; omega) (by omega) ((Reads.take_ (HBB.out.below HB6.out) 38).more HB6.out.size)
  have h38c : (38 : Int) ≤ (cap1 : Int) := by have := HBC.out.1; omega
  go_wp2_with (first
    | (with_reducible refine wpList_allocCk rfl rfl ?_)
    | (refine wpList_storeCk rfl _ _ rfl (c := c0) rfl rfl ?_; rw [← HW6.out, ← HE2.out])
    | (refine wpList_loadCk rfl _ rfl G1 c0 rfl HK16.out ?_)
    | (refine wpList_loadCk rfl _ rfl G2 c0 rfl HKG2.out ?_)
    | (refine wpList_neqCk rfl _ _ _ rfl c0 rfl rfl ?_))
  clear hcv1 hcv2 HW6 HE2
  refine HRS.out.mono ?_
  rintro e W7 ⟨v7, rfl, ho7, hb7⟩
  obtain ⟨sb, hsb⟩ : ∃ x, x = sealed kb (b.take 38) := ⟨_, rfl⟩
  have hsl : sb.length = 70 := by rw [hsb]; exact sealed_length (by rw [List.length_take, ← HBL.out]; omega)
  rw [← hsb] at ho7
  obtain ⟨g, c7, rfl, hg1, hg2⟩ := ho7.form (by omega)
  obtain ⟨_, c7', hv7, hc71, hc72⟩ := own_slice ho7
  cases hv7
  have hb70 : (Value.slice (some ⟨g, 0, none⟩) sb.length c7) = .slice (some ⟨g, 0, none⟩) 70 c7 := by rw [hsl]
  rw [hb70]
  rw [hsl] at hc71
  have HSBL := Lib.hid hsl
  have HGG1 : Hid (g ≠ G1) := by show _ ≠ _; have := HK16.out.lt; have := hg1; omega
  have HBY7 : Hid (Byt W7 W7.heap.size (some ⟨g, 0, none⟩) sb) := Words.Own.byt ho7
  have HC7 : Hid (c7 ≤ 9223372036854775807) := hc72
  have HB7 : Hid (Below w.heap.size w W7) := HB6.out.trans (hb7.mono HB6.out.size)
  have HK17 : Hid (Blk W7 G1 26 (ckA c0)) := HK16.out.below hb7 HK16.out.lt
  have HK27 : Hid (Blk W7 G2 26 (ckA c0)) := HKG2.out.below hb7 HKG2.out.lt
  obtain ⟨c2, e2, hA2⟩ : ∃ (c2 : CK) (e2 : Nat), openP kb sb nw = (c2, e2) := ⟨_, _, rfl⟩
  have HA2 := Lib.hid hA2
  clear ho7 hb7 hsb hsl hb70 hg1 hg2 hA2 HRS HK16 HKG2 hc72
  go_wp2_with fail
  have HOP : Hid (Calls Tryd.prog 9 #[.slice a0 len0 cap0, .slice (some ⟨g, 0, none⟩) 70 c7, .int .u32 (nw : Int)] W7 fun e w' => e = .returned (.tuple #[.agg (ckA c2), .int .i64 (e2 : Int)]) ∧ Below W7.heap.size W7 w') := by
    have := open_any (w := W7) (c := c7) (now := nw) (HKP.out.grow HB7.out) (by have := HKS.out; omega) HSBL.out.symm (by omega) HBY7.out (HLD.out.below HB7.out HW0.out)
    unfold OpenDone at this
    rw [HA2.out] at this
    exact this
  refine HOP.out.mono ?_
  rintro e W8 ⟨rfl, hb8⟩
  obtain ⟨W9, hW9⟩ : ∃ W, W = W8.setRow G1 (ckA c2) := ⟨_, rfl⟩
  have HK18 : Hid (Blk W8 G1 26 (ckA c0)) := HK17.out.below hb8 HK17.out.lt
  have HK28 : Hid (Blk W8 G2 26 (ckA c0)) := HK27.out.below hb8 HK27.out.lt
  have HK19 : Hid (Blk W9 G1 26 (ckA c2)) := by show Blk _ _ _ _; rw [hW9]; exact setRow_heap _ _ _ _ _ _ HK18.out
  have HK29 : Hid (Blk W9 G2 26 (ckA c0)) := by show Blk _ _ _ _; rw [hW9]; exact (setRow_other W8 G1 G2 _ (fun e => HGN.out.2.2 e.symm)).trans HK28.out
  have HB8 : Hid (Below w.heap.size w W8) := HB7.out.trans (hb8.mono HB7.out.size)
  have HB9 : Hid (Below w.heap.size w W9) := by show Below _ _ _; rw [hW9]; exact below_setRow HB8.out HGN.out.1 _
  have HFR : Fr (fun k => k = G1) W8 W9 := by rw [hW9]; exact ⟨rfl, rfl, rfl, by simp [World.setRow], fun k hk hne => setRow_other W8 G1 k _ hne⟩
  have HBY9 : Hid (Byt W9 W9.heap.size (some ⟨g, 0, none⟩) sb) := by
    have h1 := (HBY7.out.below hb8).more hb8.size
    refine (HFR.byt h1 (Nat.le_refl _) (fun x hx => ?_)).more HFR.size
    cases hx
    intro e
    have e : g = G1 := e
    exact HGG1.out e
  have HW9 := Lib.hid hW9
  clear hb8 hW9 HOP HFR HK17 HK27 HBY7
  go_wp2_with (refine wpList_restoreCk rfl _ _ rfl rfl rfl HK18.out ?_; rw [← HW9.out])
  clear HW9
  have HRP : Hid (Calls Tryd.prog 12 #[.slice a0 len0 cap0, .slice (some ⟨g, 0, none⟩) 70 c7, .int .u32 (nw : Int)] W9 fun e w' => e = .returned (.tuple #[.agg (ckA c2), .int .i64 (e2 : Int)]) ∧ Below W9.heap.size W9 w') := by
    have := ropen_any (w := W9) (ck := cap0) (c := c7) (now := nw) HKL.out (by have := HKS.out; have := HKL.out; omega) ((HKB.out.below HB9.out).more HB9.out.size) HSBL.out.symm hc71 HC7.out HBY9.out hnw
    unfold OpenDone at this
    rw [HA2.out] at this
    exact this
  refine HRP.out.mono ?_
  rintro e W10 ⟨rfl, hb10⟩
  obtain ⟨W11, hW11⟩ : ∃ W, W = W10.setRow G2 (ckA c2) := ⟨_, rfl⟩
  have HK110 : Hid (Blk W10 G1 26 (ckA c2)) := HK19.out.below hb10 HK19.out.lt
  have HK210 : Hid (Blk W10 G2 26 (ckA c0)) := HK29.out.below hb10 HK29.out.lt
  have HK211 : Hid (Blk W11 G2 26 (ckA c2)) := by show Blk _ _ _ _; rw [hW11]; exact setRow_heap _ _ _ _ _ _ HK210.out
  have HK111 : Hid (Blk W11 G1 26 (ckA c2)) := by show Blk _ _ _ _; rw [hW11]; exact (setRow_other W10 G2 G1 _ (fun e => HGN.out.2.2 e)).trans HK110.out
  have HB10 : Hid (Below w.heap.size w W10) := HB9.out.trans (hb10.mono HB9.out.size)
  have HB11 : Hid (Below w.heap.size w W11) := by show Below _ _ _; rw [hW11]; exact below_setRow HB10.out HGN.out.2.1 _
  have HW11 := Lib.hid hW11
  clear hb10 hW11 HRP
  go_wp2_with (first
    | (refine wpList_restoreCk rfl _ _ rfl rfl rfl HK210.out ?_; rw [← HW11.out])
    | (refine wpList_loadCk rfl _ rfl G1 c2 rfl HK111.out ?_)
    | (refine wpList_loadCk rfl _ rfl G2 c2 rfl HK211.out ?_)
    | (refine wpList_eqCk rfl _ _ _ rfl c2 rfl rfl ?_))
  go_ret
  exact ⟨rfl, HB11.out⟩

/-! ### The row's step -/
/-- The door's own heap meets the condition. -/
theorem door_met (os : Os) (args : Array Value) : laidMetH Tryd.prog [("flume/mac.first", Rows.laid_flume_mac_first), ("flume/mac.rounds", Rows.laid_flume_mac_rounds)] ((World.doorLaid Tryd.prog 400 os).forCall (fun _ _ => 0) ⟨#[], args, []⟩).memory :=
  laidMetH_of_parts3 (fuel := 8) (laidMet_of_run' 8 (by kernel_rfl) (by kernel_rfl)) (by kernel_rfl) (by kernel_rfl)
set_option maxRecDepth 100000 in
theorem lifted (os : Os) (started : os.Started) (H : Type) (enc : TypeId × Value → H) :
    ReturnsInHanded {} Tryd.checked os 4 .any (fun w args => (Rows.cookieOpensSpec.pre enc Tryd.prog Tryd.f4 [] false w args ∧ laidMetH Tryd.prog [("flume/mac.first", Rows.laid_flume_mac_first), ("flume/mac.rounds", Rows.laid_flume_mac_rounds)] w) ∧ sizedMet enc Tryd.prog Tryd.f4 (OpenSpec.ofChange Rows.cookieOpensSpec) false w args)
      (Rows.cookieOpensSpec.post enc Tryd.prog Tryd.f4 false true false false) := by
  refine returnsInHanded_of_change_and (C := Tryd.checked) (X := fun w _ => laidMetH Tryd.prog [("flume/mac.first", Rows.laid_flume_mac_first), ("flume/mac.rounds", Rows.laid_flume_mac_rounds)] w) (fun _ _ _ hh h => h.of_heap hh) own started (by kernel_rfl) Tryd.func4
    (ChangeSpec.witness_shaped (enc := enc) (C := Tryd.checked) (os := os) (X := fun w _ => laidMetH Tryd.prog [("flume/mac.first", Rows.laid_flume_mac_first), ("flume/mac.rounds", Rows.laid_flume_mac_rounds)] w) false (World.doorLaid Tryd.prog 400 os) #[.slice none 0 0, .slice none 0 0, .int .u32 0] 8 rfl (World.shaped_of_RefB (by kernel_rfl) (by kernel_rfl)) (by kernel_rfl) (by kernel_rfl) (by kernel_rfl) (door_met os _)) ?_
  intro W base args ds gs before hval0 hW _ _ hL _
  have hval : ∀ (j : Nat) t v, Tryd.f4.params[j]? = some t → args[j]? = some v → Value.okWide Tryd.prog W .any base t v := hval0
  have hW' := hW
  obtain ⟨p, q, hA0, hV, rfl, hfz, hnd⟩ := hW
  have hA : DataW.TrodAll enc Tryd.prog W 0 (fun _ => true) true Tryd.f4.params.toList args.toList ds p := hA0
  rw [Tryd.params4] at hA hval
  obtain ⟨v0, vs0, d0, ds0, p0, q0, hargs, rfl, rfl, h0, r0⟩ := trodAll_cons hA
  obtain ⟨v1, vs1, d1, ds1, p1, q1, rfl, rfl, rfl, h1, r1⟩ := trodAll_cons r0
  obtain ⟨v2, vs2, d2, ds2, p2, q2, rfl, rfl, rfl, h2, r2⟩ := trodAll_cons r1
  obtain ⟨rfl, rfl, rfl⟩ := trodAll_nil r2
  obtain rfl : args = #[v0, v1, v2] := by cases args; simp_all
  obtain ⟨rfl, rfl⟩ := trodVars_none hV
  obtain ⟨a0, len0, cap0, rfl⟩ := okWide_slice Tryd.underlying22 (hval 0 22 v0 rfl rfl)
  have k0 := h0
  have lt0 : ∀ x ∈ p0, x.block < W.heap.size := by obtain ⟨m, hm⟩ := k0; exact DataW.trod_lt m _ _ _ hm
  obtain ⟨z0, w0⟩ : ∃ zs, IsRow .u8 W a0 len0 cap0 zs := by
    obtain ⟨fuel, hf⟩ := h0
    rcases open_ints Tryd.underlying22 Tryd.underlying5 (by kernel_rfl) hf with ⟨hcs, _⟩ | ⟨x, l, c, zs, hcs, _, hl, hm, hz, _, hcell, hwz⟩
    · simp [Value.cells] at hcs
      obtain ⟨rfl, rfl, rfl⟩ := hcs
      exact ⟨[], .inl ⟨rfl, rfl, rfl, rfl⟩⟩
    · simp [Value.cells] at hcs
      obtain ⟨rfl, rfl, rfl⟩ := hcs
      exact ⟨zs, .inr ⟨_, rfl, hl, hm, by simpa using hz, hcell, hwz⟩⟩
  obtain ⟨a1, len1, cap1, rfl⟩ := okWide_slice Tryd.underlying22 (hval 1 22 v1 rfl rfl)
  have k1 := h1
  have lt1 : ∀ x ∈ p1, x.block < W.heap.size := by obtain ⟨m, hm⟩ := k1; exact DataW.trod_lt m _ _ _ hm
  obtain ⟨z1, w1⟩ : ∃ zs, IsRow .u8 W a1 len1 cap1 zs := by
    obtain ⟨fuel, hf⟩ := h1
    rcases open_ints Tryd.underlying22 Tryd.underlying5 (by kernel_rfl) hf with ⟨hcs, _⟩ | ⟨x, l, c, zs, hcs, _, hl, hm, hz, _, hcell, hwz⟩
    · simp [Value.cells] at hcs
      obtain ⟨rfl, rfl, rfl⟩ := hcs
      exact ⟨[], .inl ⟨rfl, rfl, rfl, rfl⟩⟩
    · simp [Value.cells] at hcs
      obtain ⟨rfl, rfl, rfl⟩ := hcs
      exact ⟨zs, .inr ⟨_, rfl, hl, hm, by simpa using hz, hcell, hwz⟩⟩
  obtain ⟨a2, rfl, rfl, rfl, w2⟩ := open_int Tryd.underlying23 (hval 2 23 v2 rfl rfl) h2
  clear hA0 hval0
  refine (walk a0 len0 cap0 z0 a1 len1 cap1 z1 a2 W (Sha.laid_of hL) w0 w1 w2).mono fun e W' ⟨he, bel⟩ => ?_
  subst he
  exact ⟨_, rfl, _, _, _, [], _, [], hW', trodAll_mk1 (shut_bool Tryd.underlying4 _), (trodAll_cons_mk (Below.trod laidOut (by kernel_rfl) (of_decide_eq_true (by kernel_rfl)) k0 bel lt0) (trodAll_cons_mk (Below.trod laidOut (by kernel_rfl) (of_decide_eq_true (by kernel_rfl)) k1 bel lt1) (trodAll_cons_mk (shut_int Tryd.underlying23 w2) trodAll_mk0))), rfl, bel.frame _, fun h => by cases h⟩

theorem over : Rows.cookieOpensRow.holds Tryd.pinned (OpenSpec.ofChange Rows.cookieOpensSpec) :=
  OpenClaim.holds_of_wide 4 Tryd.f4 rfl rfl rfl rfl rfl rfl rfl ⟨rfl, rfl, rfl, rfl, rfl⟩ rfl rfl rfl rfl rfl (by kernel_rfl) Tryd.func4 (by kernel_rfl)
    (of_decide_eq_true (by kernel_rfl)) (by unfold Func.isWrapper; first | (rw [if_pos (by decide +kernel)]; kernel_rfl) | (rw [if_neg (by decide +kernel)]; exact ⟨rfl, rfl⟩))
    (fun os started H enc _ => lifted os started H enc)

theorem proved : Rows.CookieOpensCardSaid :=
  Claim7.holds_tied_plain_at .later [] [.data, .data] true (true, "d1f23317c1d23e5b14195f30f7cff69ffccaf82393da8e2de0426d354ceb044e") false
    over (fun _ h => by cases h) (by kernel_rfl) (fun _ h => by cases h) cookieOpens_row_tie rfl ⟨rfl, rfl⟩ (by kernel_rfl) rfl
    (fun f fn hf hfn => by
      obtain rfl : f = 4 := Option.some.inj ((show Tryd.prog.funcNamed "flume/flumelaw09.CookieOpens" = some 4 by kernel_rfl).symm.trans hf) |>.symm
      obtain rfl : fn = Tryd.f4 := (Option.some.inj (Tryd.func4.symm.trans hfn)).symm
      exact ⟨by kernel_rfl, fun j t ht => by
        rw [Tryd.params4] at ht
        have hm : t ∈ [22, 22, 23] := by simpa using Array.mem_of_getElem? ht
        have hall : ([22, 22, 23].all fun u => !Tryd.prog.wantsStandIn u) = true := by kernel_rfl
        exact (show Tryd.prog.wantsStandIn t = false by simpa using List.all_eq_true.1 hall t hm)⟩)
    (by kernel_rfl)
#print axioms proved
end Go.Proofs.YtmbgjijajakgeaaDoor.cookieOpens
