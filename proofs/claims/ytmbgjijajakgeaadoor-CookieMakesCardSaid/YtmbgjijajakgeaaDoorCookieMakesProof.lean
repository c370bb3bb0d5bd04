/-
  PROVED: CookieMakes of flumelaw09 answers true for every input, and its arguments read afterwards as before. CONDITIONS: none beside the form's own.
-/
import Derived.Test.YtmbgjijajakgeaaDoorRows
import Derived.Test.YtmbgjijajakgeaaDoorCkR
import Derived.Test.YtmbgjijajakgeaaDoorMacLaid
import Derived.Test.YtmbgjijajakgeaaDoorCards
import Derived.Test.YtmbgjijajakgeaaDoorTie
import Derived.SevenTiedAt
import Derived.WalkKit
import Derived.ProofKit
import Derived.OpenShut
import Derived.ShutString
import Derived.ChangeOld
import Derived.Below
namespace Go.Proofs.YtmbgjijajakgeaaDoor.cookieMakes
open Go.ChangeShapes Go.WideShapes Go.ChangeAt Go.RowKit
open Go.ChangeMaps (open_string shut_string)
set_option linter.unusedVariables false
set_option linter.unusedSimpArgs false

theorem own : ownKnob Tryd.prog.godebug = none := by kernel_rfl
theorem laidOut : laidOutB Tryd.prog = true := by kernel_rfl

/-- What the walk is told of a slice of integers that came in. -/
def IsRow (k : IntKind) (w : World) (a : Option Addr) (len cap : Nat) (zs : List Int) : Prop :=
  (a = none ∧ len = 0 ∧ cap = 0 ∧ zs = []) ∨
  ∃ x, a = some x ∧ len ≤ cap ∧ cap ≤ maxLen ∧ zs.length = cap ∧ (∀ i, i < zs.length → w.cell? (x.add i) = some (.int k (zs.getD i 0))) ∧ ∀ n ∈ zs, (Lit.int k n).wf = true

/-! ### The walk -/
open Words Oct Sha Cok
set_option maxHeartbeats 16000000 in
set_option maxRecDepth 100000 in
theorem walk {H : Type} {enc : TypeId × Value → H} {base : Nat} (a0 : Option Addr) (len0 cap0 : Nat) (z0 : List Int) (v1 : Value) (d1 : DataW H) (p1 : List MemPlace) (a2 : Int) (w : World) (hLaid : Sha.Laid w) (w0 : IsRow .u8 w a0 len0 cap0 z0) (o1 : Value.okWide Tryd.prog w .any base 26 v1) (k1 : DataW.Trod enc Tryd.prog w 0 (fun _ => true) true 26 v1 d1 p1) (w2 : (Lit.int .u32 a2).wf = true) :
    Calls Tryd.prog 3 #[.slice a0 len0 cap0, v1, .int .u32 a2] w fun e w' => e = .returned (.bool true) ∧ Below w.heap.size w w' := by
  obtain ⟨kb, hk, hkc, hk63, hkb⟩ := bytes_of w0
  obtain ⟨cs, rfl, hsz⟩ := okWide_struct Tryd.underlying26 o1
  have hsee : Sees w CkSh cs.toList := sees_of (sh := CkSh) rfl ckSh_fits k1
  obtain ⟨c, hc, rfl⟩ := ck_of hsee
  have hw2 := bounds_u32 w2
  obtain ⟨lt, rfl⟩ : ∃ n : Nat, a2 = (n : Int) := ⟨a2.toNat, by omega⟩
  have HKP : Hid (PtV w w.heap.size (.slice a0 len0 cap0) kb) := .mk hk (by omega) hk63 hkb
  have HKB := Lib.hid hkb
  have HKL := Lib.hid hk
  have HOK := Lib.hid hc
  have HLD := Lib.hid hLaid
  have HW0 : Hid (2 ≤ w.heap.size) := hLaid.size
  clear hsz hsee o1 k1 hc hLaid w0 w2 hk hkc hk63 hkb
  go_enter Tryd.func3, Tryd.ntmps3
  go_upto_region 1 with (fail)
  obtain ⟨W0, hW0⟩ : ∃ W0, W0 = w.alloc (.cells (ckA c) 26) := ⟨_, rfl⟩
  obtain ⟨g0, hg0⟩ : ∃ g0, g0 = w.heap.size := ⟨_, rfl⟩
  have HG0 : Hid (Blk W0 g0 26 (ckA c)) := by show Blk _ _ _ _; rw [hW0, hg0]; exact Blk.new w _ _
  have HB0 : Hid (Below w.heap.size w W0) := by show Below _ _ _; rw [hW0]; exact below_new w _
  rw [← hW0, ← hg0]
  clear hW0 hg0
  go_wp2_with fail
  refine (first_any W0 (HLD.out.below HB0.out HW0.out)).mono ?_
  rintro e W1 ⟨rfl, hb1⟩
  have HB1 : Hid (Below w.heap.size w W1) := HB0.out.trans (hb1.mono HB0.out.size)
  have HG1 : Hid (Blk W1 g0 26 (ckA c)) := HG0.out.below hb1 HG0.out.lt
  clear hb1 HG0 HB0
  by_cases hbig : 500 < len0
  · go_wp2_with fail
    go_ret
    exact ⟨rfl, HB1.out⟩
  have HKS : Hid (kb.length ≤ 500) := by show _ ≤ _; rw [← HKL.out]; omega
  have HMK := Lib.hid (make_any (w := W1) HOK.out (HKP.out.grow HB1.out) (by have := HKS.out; omega) (HLD.out.below HB1.out HW0.out))
  go_wp2_with (refine wpList_load_row rfl 26 _ rfl g0 rfl 26 (ckA c) (0, 0) _ HG1.out Tryd.underlying26 rfl (ck_size _) ?_)
  refine HMK.out.mono ?_
  rintro e W2 ⟨v1, rfl, ho1, hb2⟩
  obtain ⟨bb, hbb⟩ : ∃ bb, bb = sealed kb (text c) := ⟨_, rfl⟩
  have hbl : bb.length = 70 := by rw [hbb]; exact sealed_length (text_length _)
  rw [← hbb] at ho1
  obtain ⟨g, c1, rfl, hg1, hg2⟩ := ho1.form (by omega)
  obtain ⟨_, c1', hv1, hc1, hc2⟩ := own_slice ho1
  cases hv1
  have hb70 : (Value.slice (some ⟨g, 0, none⟩) bb.length c1) = .slice (some ⟨g, 0, none⟩) 70 c1 := by rw [hbl]
  rw [hb70]
  rw [hbl] at hc1
  have HBY2 : Hid (Byt W2 W2.heap.size (some ⟨g, 0, none⟩) bb) := Words.Own.byt ho1
  have HB2 : Hid (Below w.heap.size w W2) := HB1.out.trans (hb2.mono HB1.out.size)
  have HG2 : Hid (Blk W2 g0 26 (ckA c)) := HG1.out.below hb2 HG1.out.lt
  have HBL := Lib.hid hbl
  obtain ⟨mm, hmm⟩ : ∃ m, m = c.made := ⟨_, rfl⟩
  have hml : mm < 4294967296 := by rw [hmm]; exact HOK.out.made
  have c8 : W2.cell? ⟨g0, 8, none⟩ = some (.int .u32 (mm : Int)) := by rw [hmm]; exact HG2.out.cell 8
  obtain ⟨m2, hm2⟩ : ∃ m, m = (mm + lt) % 4294967296 := ⟨_, rfl⟩
  have i2 : ((mm : Int) + (lt : Int)) % 4294967296 = (m2 : Int) := by omega
  have hd : Ser.dist (mm : Int) (m2 : Int) = (lt : Int) := by unfold Ser.dist; omega
  obtain ⟨c0, e0, hA1, hE0⟩ : ∃ (c0 : CK) (e0 : Nat), openP kb bb m2 = (c0, e0) ∧ ((600 < lt ∧ c0 = zeroCK ∧ e0 = 91) ∨ (¬ 600 < lt ∧ c0 = c ∧ e0 = 0)) := by
    by_cases hst : 600 < lt
    · exact ⟨zeroCK, 91, by rw [hbb, open_made HOK.out, if_pos (by rw [← hmm, hd]; omega)], .inl ⟨hst, rfl, rfl⟩⟩
    · exact ⟨c, 0, by rw [hbb, open_made HOK.out, if_neg (by rw [← hmm, hd]; omega)], .inr ⟨hst, rfl, rfl⟩⟩
  have HA1 := Lib.hid hA1
  have HE0 := Lib.hid hE0
  have HBB := Lib.hid hbb
  clear ho1 hb2 hbb hbl hb70 hg1 hg2 HMK HG1 hmm hm2 hd hA1 hE0
  go_wp2_with fail
  have HCW3 : Hid (Calls Tryd.prog 9 #[.slice a0 len0 cap0, .slice (some ⟨g, 0, none⟩) 70 c1, .int .u32 (m2)] W2 fun e w' => e = .returned (.tuple #[.agg (ckA c0), .int .i64 (e0 : Int)]) ∧ Below W2.heap.size W2 w') := by
    have := open_any (w := W2) (kb := kb) (b := bb) (A := (some ⟨g, 0, none⟩)) (n := 70) (c := c1) (now := m2) (HKP.out.grow HB2.out) (by have := HKS.out; omega) HBL.out.symm (by omega) HBY2.out (HLD.out.below HB2.out HW0.out)
    unfold OpenDone at this
    rw [HA1.out] at this
    exact this
  (try go_wp2_with fail)
  refine HCW3.out.mono ?_
  rintro e W3 ⟨rfl, hbW3⟩
  obtain ⟨G1, hG1⟩ : ∃ G, G = W3.heap.size := ⟨_, rfl⟩
  obtain ⟨W4, hW4⟩ : ∃ W, W = putCk W3 c0 := ⟨_, rfl⟩
  have hbp : Below W3.heap.size W3 W4 := by rw [hW4]; exact putCk_below _ _
  have HKG1 : Hid (Blk W4 G1 26 (ckA c0)) := by show Blk _ _ _ _; rw [hW4, hG1]; exact putCk_blk _ _
  have HBW4 : Hid (Below W2.heap.size W2 W4) := hbW3.trans (hbp.mono hbW3.size)
  have HWW4 := Lib.hid hW4
  have HEG1 := Lib.hid hG1
  clear hbW3 hbp hW4 hG1 HCW3
  go_wp2_with (first
    | (with_reducible refine wpList_allocCk rfl rfl ?_)
    | (refine wpList_storeCk rfl _ _ rfl (c := c0) rfl rfl ?_; rw [← HWW4.out, ← HEG1.out]))
  try rw [← HWW4.out, ← HEG1.out]
  try rw [← HEG1.out]
  clear HWW4 HEG1
  have HB4 : Hid (Below w.heap.size w W4) := HB2.out.trans (HBW4.out.mono HB2.out.size)
  have HBY4 : Hid (Byt W4 W4.heap.size (some ⟨g, 0, none⟩) bb) := (HBY2.out.below HBW4.out).more HBW4.out.size
  have HG4 : Hid (Blk W4 g0 26 (ckA c)) := HG2.out.below HBW4.out HG2.out.lt
  have HTL : Hid ((text c).length = 38) := text_length c
  clear c8 i2 HBY2 HG2
  (try go_wp2_with fail)
  have HST : Hid (Below W4.heap.size W4 W4.drew) := Below.drew (Below.refl _ _)
  go_cut [29, 35] from 28 to 35 (fun _ s35 wx => s35 = .bool false ∧ Hid (Below W4.heap.size W4 wx))
  case first =>
    refine wp_region_stage (fun V V' => Below V.heap.size V V') (fun m V => Hid (Below W4.heap.size W4 V)) [(false, .exact (.slice (some ⟨g, 0, none⟩) 70 c1)),
        (false, .exact (.string ⟨bb.toArray⟩)),
        (false, .exact (.slice a0 len0 cap0)),
        (false, .exact (.agg (ckA c))),
        (false, .grows (OwnV W4.heap.size (text c))),
        (false, .grows (OwnV W4.heap.size bb)),
        (false, .exact (.string ⟨bb.toArray⟩)),
        (false, .exact (.bool false))] (by kernel_rfl) (by kernel_rfl) (by kernel_rfl) rfl ?lasts ?start ?walk
    case lasts => exact ⟨fun _ _ _ h k => own_below h k, fun _ _ _ h k => own_below h k, trivial⟩
    case start => exact HST
    case walk =>
      refine stage_pure rfl (fun V => Below.refl _ V) (fun V m hS hl => by go_simp) ?_
      simp only [Act.put, List.setIfInBounds_toArray, List.set_cons_zero, List.set_cons_succ, List.cons_append, List.nil_append]
      refine stage_pure rfl (fun V => Below.refl _ V) (fun V m hS hl => by
          have hcv := run_str (P := Tryd.prog) (HBY4.out.below hS.out) 22 9 5 Tryd.underlying22 Tryd.underlying5 Tryd.underlying9 70 c1 HBL.out.symm
          go_simp) ?_
      simp only [Act.put, List.setIfInBounds_toArray, List.set_cons_zero, List.set_cons_succ, List.cons_append, List.nil_append]
      refine stage_pure rfl (fun V => Below.refl _ V) (fun V m hS hl => by go_simp) ?_
      simp only [Act.put, List.setIfInBounds_toArray, List.set_cons_zero, List.set_cons_succ, List.cons_append, List.nil_append]
      refine stage_pure rfl (fun V => Below.refl _ V) (fun V m hS hl => by exact exec_load rfl rfl (load_ck (HG4.out.below hS.out HG4.out.lt))) ?_
      simp only [Act.put, List.setIfInBounds_toArray, List.set_cons_zero, List.set_cons_succ, List.cons_append, List.nil_append]
      refine stage_grows rfl (fun V m hS hl => by
          go_simp
          refine (rwords_any HOK.out V).mono ?_
          rintro e V' ⟨v, rfl, h1, hb⟩
          exact ⟨_, rfl, hb, own_mono h1 hS.out.size, hS.out.trans (hb.mono hS.out.size)⟩) (fun v32 => ?_)
      simp only [Act.put, List.setIfInBounds_toArray, List.set_cons_zero, List.set_cons_succ, List.cons_append, List.nil_append]
      refine stage_grows rfl (fun V m hS hl => by
          have h0 : Words.Own V W4.heap.size v32 (text c) := (hl.1 (by kernel_rfl))
          obtain ⟨A3, c3, rfl, _, _⟩ := own_slice h0
          go_simp
          refine (rseal9_any (ck := cap0) (c := c3) (n := (text c).length) HKL.out (by have := HKS.out; have := HKL.out; omega) ((HKB.out.below (HB4.out.trans (hS.out.mono HB4.out.size))).more (HB4.out.trans (hS.out.mono HB4.out.size)).size) rfl (by rw [HTL.out]; omega) (Words.Own.byt h0)).mono ?_
          rintro e V' ⟨v, rfl, h1, hb⟩
          rw [← HBB.out] at h1
          exact ⟨_, rfl, hb, own_mono h1 hS.out.size, hS.out.trans (hb.mono hS.out.size)⟩) (fun v33 => ?_)
      simp only [Act.put, List.setIfInBounds_toArray, List.set_cons_zero, List.set_cons_succ, List.cons_append, List.nil_append]
      refine stage_pure rfl (fun V => Below.refl _ V) (fun V m hS hl => by
          have h0 : Words.Own V W4.heap.size v33 bb := (hl.2.1 (by kernel_rfl))
          obtain ⟨A3, c3, rfl, _, _⟩ := own_slice h0
          have hcv := run_str (P := Tryd.prog) (Words.Own.byt h0) 22 9 5 Tryd.underlying22 Tryd.underlying5 Tryd.underlying9 bb.length c3 rfl
          go_simp) ?_
      simp only [Act.put, List.setIfInBounds_toArray, List.set_cons_zero, List.set_cons_succ, List.cons_append, List.nil_append]
      refine stage_pure rfl (fun V => Below.refl _ V) (fun V m hS hl => by go_simp) ?_
      simp only [Act.put, List.setIfInBounds_toArray, List.set_cons_zero, List.set_cons_succ, List.cons_append, List.nil_append]
      refine stage_nil (fun V2 hS hF => ?_)
      have HS5 : Hid (Below W4.heap.size W4 V2) := hS
      clear hS hF HST
      go_wp2_with fail
      go_meet
      exact ⟨rfl, HS5⟩
  case rest =>
    obtain ⟨rfl, hb5⟩ := hcut
    have HB5 : Hid (Below w.heap.size w wc) := HB4.out.trans (hb5.out.mono HB4.out.size)
    have HG5 : Hid (Blk wc g0 26 (ckA c)) := HG4.out.below hb5.out HG4.out.lt
    have HK5 : Hid (Blk wc G1 26 (ckA c0)) := HKG1.out.below hb5.out HKG1.out.lt
    clear hb5 HST HG4 HB4 HBY4 HKG1
    by_cases hst : 600 < lt
    · obtain ⟨rfl, rfl⟩ : c0 = zeroCK ∧ e0 = 91 := by
        rcases HE0.out with h | h
        · exact h.2
        · exact absurd hst h.1
      go_wp2_with (first
        | (refine wpList_loadCk rfl _ rfl G1 zeroCK rfl HK5.out ?_)
        | (refine wpList_build0w rfl rfl ?_)
        | (refine wpList_eqCk rfl _ _ _ rfl zeroCK rfl rfl ?_))
      go_ret
      exact ⟨rfl, HB5.out⟩
    · obtain ⟨rfl, rfl⟩ : c0 = c ∧ e0 = 0 := by
        rcases HE0.out with h | h
        · exact absurd h.1 hst
        · exact h.2
      go_wp2_with (first
        | (refine wpList_loadCk rfl _ rfl G1 c0 rfl HK5.out ?_)
        | (refine wpList_loadCk rfl _ rfl g0 c0 rfl HG5.out ?_)
        | (refine wpList_eqCk rfl _ _ _ rfl c0 rfl rfl ?_))
      go_ret
      exact ⟨rfl, HB5.out⟩

/-! ### The row's step -/
/-- The door's own heap meets the condition. -/
theorem door_met (os : Os) (args : Array Value) : laidMetH Tryd.prog [("flume/mac.first", Rows.laid_flume_mac_first), ("flume/mac.rounds", Rows.laid_flume_mac_rounds)] ((World.doorLaid Tryd.prog 400 os).forCall (fun _ _ => 0) ⟨#[], args, []⟩).memory :=
  laidMetH_of_parts3 (fuel := 8) (laidMet_of_run' 8 (by kernel_rfl) (by kernel_rfl)) (by kernel_rfl) (by kernel_rfl)
set_option maxRecDepth 100000 in
theorem lifted (os : Os) (started : os.Started) (H : Type) (enc : TypeId × Value → H) :
    ReturnsInHanded {} Tryd.checked os 3 .any (fun w args => (Rows.cookieMakesSpec.pre enc Tryd.prog Tryd.f3 [] false w args ∧ laidMetH Tryd.prog [("flume/mac.first", Rows.laid_flume_mac_first), ("flume/mac.rounds", Rows.laid_flume_mac_rounds)] w) ∧ sizedMet enc Tryd.prog Tryd.f3 (OpenSpec.ofChange Rows.cookieMakesSpec) false w args)
      (Rows.cookieMakesSpec.post enc Tryd.prog Tryd.f3 false true false false) := by
  refine returnsInHanded_of_change_and (C := Tryd.checked) (X := fun w _ => laidMetH Tryd.prog [("flume/mac.first", Rows.laid_flume_mac_first), ("flume/mac.rounds", Rows.laid_flume_mac_rounds)] w) (fun _ _ _ hh h => h.of_heap hh) own started (by kernel_rfl) Tryd.func3
    (ChangeSpec.witness_shaped (enc := enc) (C := Tryd.checked) (os := os) (X := fun w _ => laidMetH Tryd.prog [("flume/mac.first", Rows.laid_flume_mac_first), ("flume/mac.rounds", Rows.laid_flume_mac_rounds)] w) false (World.doorLaid Tryd.prog 400 os) #[.slice none 0 0, .agg #[.int .u32 0, .int .u32 0, .int .u32 0, .int .u32 0, .int .u32 0, .int .u16 0, .int .u16 0, .int .u8 0, .int .u32 0, .int .u32 0, .int .u32 0], .int .u32 0] 8 rfl (World.shaped_of_RefB (by kernel_rfl) (by kernel_rfl)) (by kernel_rfl) (by kernel_rfl) (by kernel_rfl) (door_met os _)) ?_
  intro W base args ds gs before hval0 hW _ _ hL _
  have hval : ∀ (j : Nat) t v, Tryd.f3.params[j]? = some t → args[j]? = some v → Value.okWide Tryd.prog W .any base t v := hval0
  have hW' := hW
  obtain ⟨p, q, hA0, hV, rfl, hfz, hnd⟩ := hW
  have hA : DataW.TrodAll enc Tryd.prog W 0 (fun _ => true) true Tryd.f3.params.toList args.toList ds p := hA0
  rw [Tryd.params3] at hA hval
  obtain ⟨v0, vs0, d0, ds0, p0, q0, hargs, rfl, rfl, h0, r0⟩ := trodAll_cons hA
  obtain ⟨v1, vs1, d1, ds1, p1, q1, rfl, rfl, rfl, h1, r1⟩ := trodAll_cons r0
  obtain ⟨v2, vs2, d2, ds2, p2, q2, rfl, rfl, rfl, h2, r2⟩ := trodAll_cons r1
  obtain ⟨rfl, rfl, rfl⟩ := trodAll_nil r2
  obtain rfl : args = #[v0, v1, v2] := by cases args; simp_all
  obtain ⟨rfl, rfl⟩ := trodVars_none hV
  obtain ⟨a0, len0, cap0, rfl⟩ := okWide_slice Tryd.underlying22 (hval 0 22 v0 rfl rfl)
  have k0 := h0
  have lt0 : ∀ x ∈ p0, x.block < W.heap.size := by obtain ⟨m, hm⟩ := k0; exact DataW.trod_lt m _ _ _ hm
  obtain ⟨z0, w0⟩ : ∃ zs, IsRow .u8 W a0 len0 cap0 zs := by
    obtain ⟨fuel, hf⟩ := h0
    rcases open_ints Tryd.underlying22 Tryd.underlying5 (by kernel_rfl) hf with ⟨hcs, _⟩ | ⟨x, l, c, zs, hcs, _, hl, hm, hz, _, hcell, hwz⟩
    · simp [Value.cells] at hcs
      obtain ⟨rfl, rfl, rfl⟩ := hcs
      exact ⟨[], .inl ⟨rfl, rfl, rfl, rfl⟩⟩
    · simp [Value.cells] at hcs
      obtain ⟨rfl, rfl, rfl⟩ := hcs
      exact ⟨zs, .inr ⟨_, rfl, hl, hm, by simpa using hz, hcell, hwz⟩⟩
  have lt1 : ∀ x ∈ p1, x.block < W.heap.size := by obtain ⟨m, hm⟩ := h1; exact DataW.trod_lt m _ _ _ hm
  obtain ⟨a2, rfl, rfl, rfl, w2⟩ := open_int Tryd.underlying23 (hval 2 23 v2 rfl rfl) h2
  clear hA0 hval0
  refine (walk a0 len0 cap0 z0 v1 d1 p1 a2 W (Sha.laid_of hL) w0 (hval 1 26 v1 rfl rfl) h1 w2).mono fun e W' ⟨he, bel⟩ => ?_
  subst he
  exact ⟨_, rfl, _, _, _, [], _, [], hW', trodAll_mk1 (shut_bool Tryd.underlying4 _), (trodAll_cons_mk (Below.trod laidOut (by kernel_rfl) (of_decide_eq_true (by kernel_rfl)) k0 bel lt0) (trodAll_cons_mk (Below.trod laidOut (by kernel_rfl) (of_decide_eq_true (by kernel_rfl)) h1 bel lt1) (trodAll_cons_mk (shut_int Tryd.underlying23 w2) trodAll_mk0))), rfl, bel.frame _, fun h => by cases h⟩

theorem over : Rows.cookieMakesRow.holds Tryd.pinned (OpenSpec.ofChange Rows.cookieMakesSpec) :=
  OpenClaim.holds_of_wide 3 Tryd.f3 rfl rfl rfl rfl rfl rfl rfl ⟨rfl, rfl, rfl, rfl, rfl⟩ rfl rfl rfl rfl rfl (by kernel_rfl) Tryd.func3 (by kernel_rfl)
    (of_decide_eq_true (by kernel_rfl)) (by unfold Func.isWrapper; first | (rw [if_pos (by decide +kernel)]; kernel_rfl) | (rw [if_neg (by decide +kernel)]; exact ⟨rfl, rfl⟩))
    (fun os started H enc _ => lifted os started H enc)

theorem proved : Rows.CookieMakesCardSaid :=
  Claim7.holds_tied_plain_at .later [] [.data, .data] true (true, "d1f23317c1d23e5b14195f30f7cff69ffccaf82393da8e2de0426d354ceb044e") false
    over (fun _ h => by cases h) (by kernel_rfl) (fun _ h => by cases h) cookieMakes_row_tie rfl ⟨rfl, rfl⟩ (by kernel_rfl) rfl
    (fun f fn hf hfn => by
      obtain rfl : f = 3 := Option.some.inj ((show Tryd.prog.funcNamed "flume/flumelaw09.CookieMakes" = some 3 by kernel_rfl).symm.trans hf) |>.symm
      obtain rfl : fn = Tryd.f3 := (Option.some.inj (Tryd.func3.symm.trans hfn)).symm
      exact ⟨by kernel_rfl, fun j t ht => by
        rw [Tryd.params3] at ht
        have hm : t ∈ [22, 26, 23] := by simpa using Array.mem_of_getElem? ht
        have hall : ([22, 26, 23].all fun u => !Tryd.prog.wantsStandIn u) = true := by kernel_rfl
        exact (show Tryd.prog.wantsStandIn t = false by simpa using List.all_eq_true.1 hall t hm)⟩)
    (by kernel_rfl)
#print axioms proved
end Go.Proofs.YtmbgjijajakgeaaDoor.cookieMakes
