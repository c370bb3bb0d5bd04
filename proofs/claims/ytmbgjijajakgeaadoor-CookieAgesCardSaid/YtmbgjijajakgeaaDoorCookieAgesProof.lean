/-
  PROVED: CookieAges of flumelaw09 answers true for every input, and its arguments read afterwards as before. CONDITIONS: none beside the form's own.
-/
import Derived.Test.YtmbgjijajakgeaaDoorRows
import Derived.Test.YtmbgjijajakgeaaDoorCk8
import Derived.Test.YtmbgjijajakgeaaDoorMacLaid
import Derived.Test.YtmbgjijajakgeaaDoorCards
import Derived.Test.YtmbgjijajakgeaaDoorTie
import Derived.SevenTiedAt
import Derived.WalkKit
import Derived.ProofKit
import Derived.OpenShut
import Derived.ShutString
import Derived.ChangeOld
import Derived.Below
namespace Go.Proofs.YtmbgjijajakgeaaDoor.cookieAges
open Go.ChangeShapes Go.WideShapes Go.ChangeAt Go.RowKit
open Go.ChangeMaps (open_string shut_string)
set_option linter.unusedVariables false
set_option linter.unusedSimpArgs false

theorem own : ownKnob Tryd.prog.godebug = none := by kernel_rfl
theorem laidOut : laidOutB Tryd.prog = true := by kernel_rfl

/-- What the walk is told of a slice of integers that came in. -/
def IsRow (k : IntKind) (w : World) (a : Option Addr) (len cap : Nat) (zs : List Int) : Prop :=
  (a = none ∧ len = 0 ∧ cap = 0 ∧ zs = []) ∨
  ∃ x, a = some x ∧ len ≤ cap ∧ cap ≤ maxLen ∧ zs.length = cap ∧ (∀ i, i < zs.length → w.cell? (x.add i) = some (.int k (zs.getD i 0))) ∧ ∀ n ∈ zs, (Lit.int k n).wf = true

/-! ### The walk -/
open Words Oct Sha Cok
set_option maxHeartbeats 16000000 in
set_option maxRecDepth 100000 in
theorem walk {H : Type} {enc : TypeId × Value → H} {base : Nat} (v0 : Value) (d0 : DataW H) (p0 : List MemPlace) (a1 : Int) (w : World) (hLaid : Sha.Laid w) (o0 : Value.okWide Tryd.prog w .any base 26 v0) (k0 : DataW.Trod enc Tryd.prog w 0 (fun _ => true) true 26 v0 d0 p0) (w1 : (Lit.int .u32 a1).wf = true) :
    Calls Tryd.prog 6 #[v0, .int .u32 a1] w fun e w' => e = .returned (.bool true) ∧ Below w.heap.size w w' := by
  obtain ⟨cs, rfl, hsz⟩ := okWide_struct Tryd.underlying26 o0
  have hsee : Sees w CkSh cs.toList := sees_of (sh := CkSh) rfl ckSh_fits k0
  obtain ⟨c, hc, rfl⟩ := ck_of hsee
  have hw1 := bounds_u32 w1
  obtain ⟨nw, rfl⟩ : ∃ n : Nat, a1 = (n : Int) := ⟨a1.toNat, by omega⟩
  have kc := conv_key
  have HOK := Lib.hid hc
  have HLD := Lib.hid hLaid
  have HW0 : Hid (2 ≤ w.heap.size) := hLaid.size
  clear hsz hsee o0 k0 hc hLaid w1
  go_enter Tryd.func6, Tryd.ntmps6
  go_upto_region 1 with (fail)
  obtain ⟨W0, hW0⟩ : ∃ W0, W0 = w.alloc (.cells (ckA c) 26) := ⟨_, rfl⟩
  obtain ⟨g0, hg0⟩ : ∃ g0, g0 = w.heap.size := ⟨_, rfl⟩
  have HG0 : Hid (Blk W0 g0 26 (ckA c)) := by show Blk _ _ _ _; rw [hW0, hg0]; exact Blk.new w _ _
  have HB0 : Hid (Below w.heap.size w W0) := by show Below _ _ _; rw [hW0]; exact below_new w _
  rw [← hW0, ← hg0]
  clear hW0 hg0
  go_wp2_with fail
  refine (first_any W0 (HLD.out.below HB0.out HW0.out)).mono ?_
  rintro e W1 ⟨rfl, hb1⟩
  have HB1 : Hid (Below w.heap.size w W1) := HB0.out.trans (hb1.mono HB0.out.size)
  have HG1 : Hid (Blk W1 g0 26 (ckA c)) := HG0.out.below hb1 HG0.out.lt
  have HGK : Hid (Blk (keyW W1 [107, 101, 121]) g0 26 (ckA c)) := HG1.out.below (keyW_below W1 _) HG1.out.lt
  have HMK := Lib.hid (make_key (W := W1) (l := [107, 101, 121]) HOK.out (by decide) (HLD.out.below HB1.out HW0.out))
  clear hb1 HG0 HB0
  go_wp2_with (refine wpList_load_row rfl 26 _ rfl g0 rfl 26 (ckA c) (0, 0) _ HGK.out Tryd.underlying26 rfl (ck_size _) ?_)
  refine HMK.out.mono ?_
  rintro e W2 ⟨v1, rfl, ho1, hb2⟩
  obtain ⟨bb, hbb⟩ : ∃ bb, bb = sealed [107, 101, 121] (text c) := ⟨_, rfl⟩
  have hbl : bb.length = 70 := by rw [hbb]; exact sealed_length (text_length _)
  rw [← hbb] at ho1
  obtain ⟨g, c1, rfl, hg1, hg2⟩ := ho1.form (by omega)
  obtain ⟨_, c1', hv1, hc1, hc2⟩ := own_slice ho1
  cases hv1
  have hb70 : (Value.slice (some ⟨g, 0, none⟩) bb.length c1) = .slice (some ⟨g, 0, none⟩) 70 c1 := by rw [hbl]
  rw [hb70]
  rw [hbl] at hc1
  have HBY2 : Hid (Byt W2 W2.heap.size (some ⟨g, 0, none⟩) bb) := Words.Own.byt ho1
  have HB2 : Hid (Below w.heap.size w W2) := HB1.out.trans (hb2.mono HB1.out.size)
  have HG2 : Hid (Blk W2 g0 26 (ckA c)) := HG1.out.below hb2 HG1.out.lt
  have HBL := Lib.hid hbl
  obtain ⟨mm, hmm⟩ : ∃ m, m = c.made := ⟨_, rfl⟩
  have hml : mm < 4294967296 := by rw [hmm]; exact HOK.out.made
  have HA : Hid (∀ k : Nat, openP [107, 101, 121] bb k = if 600 < Ser.dist (mm : Int) (k : Int) then (zeroCK, 91) else (c, 0)) := by
    show ∀ k, _
    intro k
    rw [hbb, hmm]
    exact open_made HOK.out
  obtain ⟨m2, hm2⟩ : ∃ m, m = (mm + 600) % 4294967296 := ⟨_, rfl⟩
  obtain ⟨m3, hm3⟩ : ∃ m, m = (mm + 601) % 4294967296 := ⟨_, rfl⟩
  obtain ⟨m4, hm4⟩ : ∃ m, m = (mm + 4294967295) % 4294967296 := ⟨_, rfl⟩
  have i2 : ((mm : Int) + 600) % 4294967296 = (m2 : Int) := by omega
  have i3 : ((mm : Int) + 601) % 4294967296 = (m3 : Int) := by omega
  have i4 : ((mm : Int) - 1) % 4294967296 = (m4 : Int) := by omega
  have HA2 : Hid (openP [107, 101, 121] bb m2 = (c, 0)) := by show _ = _; rw [HA.out, if_neg (by unfold Ser.dist; omega)]
  have HA3 : Hid (openP [107, 101, 121] bb m3 = (zeroCK, 91)) := by show _ = _; rw [HA.out, if_pos (by unfold Ser.dist; omega)]
  have HA4 : Hid (openP [107, 101, 121] bb m4 = (zeroCK, 91)) := by show _ = _; rw [HA.out, if_pos (by unfold Ser.dist; omega)]
  obtain ⟨d, hd⟩ : ∃ d, d = Ser.dist (mm : Int) (nw : Int) := ⟨_, rfl⟩
  have hdd : ((nw : Int) - (mm : Int)) % 4294967296 = d := by rw [hd]; rfl
  obtain ⟨c0, e0, hA1, hE0⟩ : ∃ (c0 : CK) (e0 : Nat), openP [107, 101, 121] bb nw = (c0, e0) ∧ ((600 < d ∧ e0 = 91) ∨ (¬ 600 < d ∧ e0 = 0)) := by
    by_cases hst : 600 < d
    · exact ⟨zeroCK, 91, by rw [HA.out, if_pos (by rw [← hd]; exact hst)], .inl ⟨hst, rfl⟩⟩
    · exact ⟨c, 0, by rw [HA.out, if_neg (by rw [← hd]; exact hst)], .inr ⟨hst, rfl⟩⟩
  obtain ⟨ok, hok1, hok2⟩ : ∃ ok : Bool, ((e0 : Int) == 0) = ok ∧ decide (d ≤ 600) = ok := by
    rcases hE0 with ⟨h, rfl⟩ | ⟨h, rfl⟩
    · exact ⟨false, rfl, decide_eq_false (by omega)⟩
    · exact ⟨true, rfl, decide_eq_true (by omega)⟩
  have HA1 := Lib.hid hA1
  have HE0 := Lib.hid hE0
  have HMM := Lib.hid hmm
  have HGM : ∀ V, Below W2.heap.size W2 V → V.cell? ⟨g0, 8, none⟩ = some (.int .u32 (mm : Int)) := fun V hV => by rw [hmm]; exact (HG2.out.below hV HG2.out.lt).cell 8
  have HGM := Lib.hid HGM
  clear ho1 hb2 hbb hbl hb70 hg1 hg2 HMK HGK HG1 hmm hm2 hm3 hm4 hd hA1 hE0 HA
  go_wp2_with fail
  have HCW3 : Hid (Calls Tryd.prog 9 #[.slice (some ⟨W2.heap.size, 0, none⟩) 3 3, .slice (some ⟨g, 0, none⟩) 70 c1, .int .u32 (nw)] (keyW W2 [107, 101, 121]) fun e w' => e = .returned (.tuple #[.agg (ckA c0), .int .i64 (e0 : Int)]) ∧ Below W2.heap.size W2 w') := by
    have := open_key (W := W2) (l := [107, 101, 121]) (b := bb) (A := (some ⟨g, 0, none⟩)) (n := 70) (c := c1) (now := nw) (by decide) HBL.out.symm (by omega) HBY2.out (HLD.out.below HB2.out HW0.out)
    unfold OpenDone at this
    rw [HA1.out] at this
    exact this
  (try go_wp2_with fail)
  refine HCW3.out.mono ?_
  rintro e W3 ⟨rfl, hbW3⟩
  obtain ⟨G1, hG1⟩ : ∃ G, G = W3.heap.size := ⟨_, rfl⟩
  obtain ⟨W4, hW4⟩ : ∃ W, W = putCk W3 c0 := ⟨_, rfl⟩
  have hbp : Below W3.heap.size W3 W4 := by rw [hW4]; exact putCk_below _ _
  have HKG1 : Hid (Blk W4 G1 26 (ckA c0)) := by show Blk _ _ _ _; rw [hW4, hG1]; exact putCk_blk _ _
  have HBW4 : Hid (Below W2.heap.size W2 W4) := hbW3.trans (hbp.mono hbW3.size)
  have HWW4 := Lib.hid hW4
  have HEG1 := Lib.hid hG1
  clear hbW3 hbp hW4 hG1 HCW3
  have q4 : (W4.alloc (.cells #[.int .u8 107, .int .u8 101, .int .u8 121] 5 (3, 4))).cell? ⟨g0, 8, none⟩ = some (.int .u32 (mm : Int)) := HGM.out (keyW W4 [107, 101, 121]) (HBW4.out.trans ((keyW_below W4 _).mono HBW4.out.size))
  go_wp2_with (first
    | (with_reducible refine wpList_allocCk rfl rfl ?_)
    | (refine wpList_storeCk rfl _ _ rfl (c := c0) rfl rfl ?_; rw [← HWW4.out, ← HEG1.out]))
  try rw [← HWW4.out, ← HEG1.out]
  try rw [← HEG1.out]
  clear HWW4 HEG1
  have HB4 : Hid (Below w.heap.size w W4) := HB2.out.trans (HBW4.out.mono HB2.out.size)
  have HBY4 : Hid (Byt W4 W4.heap.size (some ⟨g, 0, none⟩) bb) := (HBY2.out.below HBW4.out).more HBW4.out.size
  clear q4
  have HCW5 : Hid (Calls Tryd.prog 9 #[.slice (some ⟨W4.heap.size, 0, none⟩) 3 3, .slice (some ⟨g, 0, none⟩) 70 c1, .int .u32 (m2)] (keyW W4 [107, 101, 121]) fun e w' => e = .returned (.tuple #[.agg (ckA c), .int .i64 0]) ∧ Below W4.heap.size W4 w') := by
    have := open_key (W := W4) (l := [107, 101, 121]) (b := bb) (A := (some ⟨g, 0, none⟩)) (n := 70) (c := c1) (now := m2) (by decide) HBL.out.symm (by omega) HBY4.out (HLD.out.below HB4.out HW0.out)
    unfold OpenDone at this
    rw [HA2.out] at this
    exact this
  (try go_wp2_with fail)
  refine HCW5.out.mono ?_
  rintro e W5 ⟨rfl, hbW5⟩
  obtain ⟨G2, hG2⟩ : ∃ G, G = W5.heap.size := ⟨_, rfl⟩
  obtain ⟨W6, hW6⟩ : ∃ W, W = putCk W5 c := ⟨_, rfl⟩
  have hbp : Below W5.heap.size W5 W6 := by rw [hW6]; exact putCk_below _ _
  have HKG2 : Hid (Blk W6 G2 26 (ckA c)) := by show Blk _ _ _ _; rw [hW6, hG2]; exact putCk_blk _ _
  have HBW6 : Hid (Below W4.heap.size W4 W6) := hbW5.trans (hbp.mono hbW5.size)
  have HWW6 := Lib.hid hW6
  have HEG2 := Lib.hid hG2
  clear hbW5 hbp hW6 hG2 HCW5
  have HC6 : Hid (Below W2.heap.size W2 W6) := HBW4.out.trans (HBW6.out.mono HBW4.out.size)
  have q6 : (W6.alloc (.cells #[.int .u8 107, .int .u8 101, .int .u8 121] 5 (3, 4))).cell? ⟨g0, 8, none⟩ = some (.int .u32 (mm : Int)) := HGM.out (keyW W6 [107, 101, 121]) (HC6.out.trans ((keyW_below W6 _).mono HC6.out.size))
  go_wp2_with (first
    | (with_reducible refine wpList_allocCk rfl rfl ?_)
    | (refine wpList_storeCk rfl _ _ rfl (c := c) rfl rfl ?_; rw [← HWW6.out, ← HEG2.out]))
  try rw [← HWW6.out, ← HEG2.out]
  try rw [← HEG2.out]
  clear HWW6 HEG2
  have HB6 : Hid (Below w.heap.size w W6) := HB4.out.trans (HBW6.out.mono HB4.out.size)
  have HBY6 : Hid (Byt W6 W6.heap.size (some ⟨g, 0, none⟩) bb) := (HBY4.out.below HBW6.out).more HBW6.out.size
  clear q6
  have HCW7 : Hid (Calls Tryd.prog 9 #[.slice (some ⟨W6.heap.size, 0, none⟩) 3 3, .slice (some ⟨g, 0, none⟩) 70 c1, .int .u32 (m3)] (keyW W6 [107, 101, 121]) fun e w' => e = .returned (.tuple #[.agg (ckA zeroCK), .int .i64 91]) ∧ Below W6.heap.size W6 w') := by
    have := open_key (W := W6) (l := [107, 101, 121]) (b := bb) (A := (some ⟨g, 0, none⟩)) (n := 70) (c := c1) (now := m3) (by decide) HBL.out.symm (by omega) HBY6.out (HLD.out.below HB6.out HW0.out)
    unfold OpenDone at this
    rw [HA3.out] at this
    exact this
  (try go_wp2_with fail)
  refine HCW7.out.mono ?_
  rintro e W7 ⟨rfl, hbW7⟩
  obtain ⟨G3, hG3⟩ : ∃ G, G = W7.heap.size := ⟨_, rfl⟩
  obtain ⟨W8, hW8⟩ : ∃ W, W = putCk W7 zeroCK := ⟨_, rfl⟩
  have hbp : Below W7.heap.size W7 W8 := by rw [hW8]; exact putCk_below _ _
  have HKG3 : Hid (Blk W8 G3 26 (ckA zeroCK)) := by show Blk _ _ _ _; rw [hW8, hG3]; exact putCk_blk _ _
  have HBW8 : Hid (Below W6.heap.size W6 W8) := hbW7.trans (hbp.mono hbW7.size)
  have HWW8 := Lib.hid hW8
  have HEG3 := Lib.hid hG3
  clear hbW7 hbp hW8 hG3 HCW7
  have HC8 : Hid (Below W2.heap.size W2 W8) := HC6.out.trans (HBW8.out.mono HC6.out.size)
  have q8 : (W8.alloc (.cells #[.int .u8 107, .int .u8 101, .int .u8 121] 5 (3, 4))).cell? ⟨g0, 8, none⟩ = some (.int .u32 (mm : Int)) := HGM.out (keyW W8 [107, 101, 121]) (HC8.out.trans ((keyW_below W8 _).mono HC8.out.size))
  go_wp2_with (first
    | (with_reducible refine wpList_allocCk rfl rfl ?_)
    | (refine wpList_storeCk rfl _ _ rfl (c := zeroCK) rfl rfl ?_; rw [← HWW8.out, ← HEG3.out]))
  try rw [← HWW8.out, ← HEG3.out]
  try rw [← HEG3.out]
  clear HWW8 HEG3
  have HB8 : Hid (Below w.heap.size w W8) := HB6.out.trans (HBW8.out.mono HB6.out.size)
  have HBY8 : Hid (Byt W8 W8.heap.size (some ⟨g, 0, none⟩) bb) := (HBY6.out.below HBW8.out).more HBW8.out.size
  clear q8
  have HCW9 : Hid (Calls Tryd.prog 9 #[.slice (some ⟨W8.heap.size, 0, none⟩) 3 3, .slice (some ⟨g, 0, none⟩) 70 c1, .int .u32 (m4)] (keyW W8 [107, 101, 121]) fun e w' => e = .returned (.tuple #[.agg (ckA zeroCK), .int .i64 91]) ∧ Below W8.heap.size W8 w') := by
    have := open_key (W := W8) (l := [107, 101, 121]) (b := bb) (A := (some ⟨g, 0, none⟩)) (n := 70) (c := c1) (now := m4) (by decide) HBL.out.symm (by omega) HBY8.out (HLD.out.below HB8.out HW0.out)
    unfold OpenDone at this
    rw [HA4.out] at this
    exact this
  (try go_wp2_with fail)
  refine HCW9.out.mono ?_
  rintro e W9 ⟨rfl, hbW9⟩
  obtain ⟨G4, hG4⟩ : ∃ G, G = W9.heap.size := ⟨_, rfl⟩
  obtain ⟨W10, hW10⟩ : ∃ W, W = putCk W9 zeroCK := ⟨_, rfl⟩
  have hbp : Below W9.heap.size W9 W10 := by rw [hW10]; exact putCk_below _ _
  have HKG4 : Hid (Blk W10 G4 26 (ckA zeroCK)) := by show Blk _ _ _ _; rw [hW10, hG4]; exact putCk_blk _ _
  have HBW10 : Hid (Below W8.heap.size W8 W10) := hbW9.trans (hbp.mono hbW9.size)
  have HWW10 := Lib.hid hW10
  have HEG4 := Lib.hid hG4
  clear hbW9 hbp hW10 hG4 HCW9
  have HC10 : Hid (Below W2.heap.size W2 W10) := HC8.out.trans (HBW10.out.mono HC8.out.size)
  have q10 := HGM.out W10 HC10.out
  have HB10 : Hid (Below w.heap.size w W10) := HB8.out.trans (HBW10.out.mono HB8.out.size)
  go_wp2_with (first
    | (with_reducible refine wpList_allocCk rfl rfl ?_)
    | (refine wpList_storeCk rfl _ _ rfl (c := zeroCK) rfl rfl ?_; rw [← HWW10.out, ← HEG4.out]))
  try rw [← HWW10.out, ← HEG4.out]
  try rw [← HEG4.out]
  clear HWW10 HEG4
  (try go_wp2_with fail)
  go_ret
  exact ⟨rfl, HB10.out⟩

/-! ### The row's step -/
/-- The door's own heap meets the condition. -/
theorem door_met (os : Os) (args : Array Value) : laidMetH Tryd.prog [("flume/mac.first", Rows.laid_flume_mac_first), ("flume/mac.rounds", Rows.laid_flume_mac_rounds)] ((World.doorLaid Tryd.prog 400 os).forCall (fun _ _ => 0) ⟨#[], args, []⟩).memory :=
  laidMetH_of_parts3 (fuel := 8) (laidMet_of_run' 8 (by kernel_rfl) (by kernel_rfl)) (by kernel_rfl) (by kernel_rfl)
set_option maxRecDepth 100000 in
theorem lifted (os : Os) (started : os.Started) (H : Type) (enc : TypeId × Value → H) :
    ReturnsInHanded {} Tryd.checked os 6 .any (fun w args => (Rows.cookieAgesSpec.pre enc Tryd.prog Tryd.f6 [] false w args ∧ laidMetH Tryd.prog [("flume/mac.first", Rows.laid_flume_mac_first), ("flume/mac.rounds", Rows.laid_flume_mac_rounds)] w) ∧ sizedMet enc Tryd.prog Tryd.f6 (OpenSpec.ofChange Rows.cookieAgesSpec) false w args)
      (Rows.cookieAgesSpec.post enc Tryd.prog Tryd.f6 false true false false) := by
  refine returnsInHanded_of_change_and (C := Tryd.checked) (X := fun w _ => laidMetH Tryd.prog [("flume/mac.first", Rows.laid_flume_mac_first), ("flume/mac.rounds", Rows.laid_flume_mac_rounds)] w) (fun _ _ _ hh h => h.of_heap hh) own started (by kernel_rfl) Tryd.func6
    (ChangeSpec.witness_shaped (enc := enc) (C := Tryd.checked) (os := os) (X := fun w _ => laidMetH Tryd.prog [("flume/mac.first", Rows.laid_flume_mac_first), ("flume/mac.rounds", Rows.laid_flume_mac_rounds)] w) false (World.doorLaid Tryd.prog 400 os) #[.agg #[.int .u32 0, .int .u32 0, .int .u32 0, .int .u32 0, .int .u32 0, .int .u16 0, .int .u16 0, .int .u8 0, .int .u32 0, .int .u32 0, .int .u32 0], .int .u32 0] 8 rfl (World.shaped_of_RefB (by kernel_rfl) (by kernel_rfl)) (by kernel_rfl) (by kernel_rfl) (by kernel_rfl) (door_met os _)) ?_
  intro W base args ds gs before hval0 hW _ _ hL _
  have hval : ∀ (j : Nat) t v, Tryd.f6.params[j]? = some t → args[j]? = some v → Value.okWide Tryd.prog W .any base t v := hval0
  have hW' := hW
  obtain ⟨p, q, hA0, hV, rfl, hfz, hnd⟩ := hW
  have hA : DataW.TrodAll enc Tryd.prog W 0 (fun _ => true) true Tryd.f6.params.toList args.toList ds p := hA0
  rw [Tryd.params6] at hA hval
  obtain ⟨v0, vs0, d0, ds0, p0, q0, hargs, rfl, rfl, h0, r0⟩ := trodAll_cons hA
  obtain ⟨v1, vs1, d1, ds1, p1, q1, rfl, rfl, rfl, h1, r1⟩ := trodAll_cons r0
  obtain ⟨rfl, rfl, rfl⟩ := trodAll_nil r1
  obtain rfl : args = #[v0, v1] := by cases args; simp_all
  obtain ⟨rfl, rfl⟩ := trodVars_none hV
  have lt0 : ∀ x ∈ p0, x.block < W.heap.size := by obtain ⟨m, hm⟩ := h0; exact DataW.trod_lt m _ _ _ hm
  obtain ⟨a1, rfl, rfl, rfl, w1⟩ := open_int Tryd.underlying23 (hval 1 23 v1 rfl rfl) h1
  clear hA0 hval0
  refine (walk v0 d0 p0 a1 W (Sha.laid_of hL) (hval 0 26 v0 rfl rfl) h0 w1).mono fun e W' ⟨he, bel⟩ => ?_
  subst he
  exact ⟨_, rfl, _, _, _, [], _, [], hW', trodAll_mk1 (shut_bool Tryd.underlying4 _), (trodAll_cons_mk (Below.trod laidOut (by kernel_rfl) (of_decide_eq_true (by kernel_rfl)) h0 bel lt0) (trodAll_cons_mk (shut_int Tryd.underlying23 w1) trodAll_mk0)), rfl, bel.frame _, fun h => by cases h⟩

theorem over : Rows.cookieAgesRow.holds Tryd.pinned (OpenSpec.ofChange Rows.cookieAgesSpec) :=
  OpenClaim.holds_of_wide 6 Tryd.f6 rfl rfl rfl rfl rfl rfl rfl ⟨rfl, rfl, rfl, rfl, rfl⟩ rfl rfl rfl rfl rfl (by kernel_rfl) Tryd.func6 (by kernel_rfl)
    (of_decide_eq_true (by kernel_rfl)) (by unfold Func.isWrapper; first | (rw [if_pos (by decide +kernel)]; kernel_rfl) | (rw [if_neg (by decide +kernel)]; exact ⟨rfl, rfl⟩))
    (fun os started H enc _ => lifted os started H enc)

theorem proved : Rows.CookieAgesCardSaid :=
  Claim7.holds_tied_plain_at .later [] [.data, .data] true (true, "d1f23317c1d23e5b14195f30f7cff69ffccaf82393da8e2de0426d354ceb044e") false
    over (fun _ h => by cases h) (by kernel_rfl) (fun _ h => by cases h) cookieAges_row_tie rfl ⟨rfl, rfl⟩ (by kernel_rfl) rfl
    (fun f fn hf hfn => by
      obtain rfl : f = 6 := Option.some.inj ((show Tryd.prog.funcNamed "flume/flumelaw09.CookieAges" = some 6 by kernel_rfl).symm.trans hf) |>.symm
      obtain rfl : fn = Tryd.f6 := (Option.some.inj (Tryd.func6.symm.trans hfn)).symm
      exact ⟨by kernel_rfl, fun j t ht => by
        rw [Tryd.params6] at ht
        have hm : t ∈ [26, 23] := by simpa using Array.mem_of_getElem? ht
        have hall : ([26, 23].all fun u => !Tryd.prog.wantsStandIn u) = true := by kernel_rfl
        exact (show Tryd.prog.wantsStandIn t = false by simpa using List.all_eq_true.1 hall t hm)⟩)
    (by kernel_rfl)
#print axioms proved
end Go.Proofs.YtmbgjijajakgeaaDoor.cookieAges
