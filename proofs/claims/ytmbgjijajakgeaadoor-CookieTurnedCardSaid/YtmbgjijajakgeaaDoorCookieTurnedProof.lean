/-
  PROVED: CookieTurned of flumelaw09 answers true for every input, and its arguments read afterwards as before. CONDITIONS: none beside the form's own.
-/
import Derived.Test.YtmbgjijajakgeaaDoorRows
import Derived.Test.YtmbgjijajakgeaaDoorCk9
import Derived.Test.YtmbgjijajakgeaaDoorMacLaid
import Derived.Test.YtmbgjijajakgeaaDoorCards
import Derived.Test.YtmbgjijajakgeaaDoorTie
import Derived.SevenTiedAt
import Derived.WalkKit
import Derived.ProofKit
import Derived.OpenShut
import Derived.ShutString
import Derived.ChangeOld
import Derived.Below
namespace Go.Proofs.YtmbgjijajakgeaaDoor.cookieTurned
open Go.ChangeShapes Go.WideShapes Go.ChangeAt Go.RowKit
open Go.ChangeMaps (open_string shut_string)
set_option linter.unusedVariables false
set_option linter.unusedSimpArgs false

theorem own : ownKnob Tryd.prog.godebug = none := by kernel_rfl
theorem laidOut : laidOutB Tryd.prog = true := by kernel_rfl

/-- What the walk is told of a slice of integers that came in. -/
def IsRow (k : IntKind) (w : World) (a : Option Addr) (len cap : Nat) (zs : List Int) : Prop :=
  (a = none ∧ len = 0 ∧ cap = 0 ∧ zs = []) ∨
  ∃ x, a = some x ∧ len ≤ cap ∧ cap ≤ maxLen ∧ zs.length = cap ∧ (∀ i, i < zs.length → w.cell? (x.add i) = some (.int k (zs.getD i 0))) ∧ ∀ n ∈ zs, (Lit.int k n).wf = true

/-! ### The walk -/
open Words Oct Sha Cok
set_option maxHeartbeats 16000000 in
set_option maxRecDepth 100000 in
theorem walk {H : Type} {enc : TypeId × Value → H} {base : Nat} (v0 : Value) (d0 : DataW H) (p0 : List MemPlace) (a1 : Int) (a2 : Int) (w : World) (hLaid : Sha.Laid w) (o0 : Value.okWide Tryd.prog w .any base 26 v0) (k0 : DataW.Trod enc Tryd.prog w 0 (fun _ => true) true 26 v0 d0 p0) (w1 : (Lit.int .i64 a1).wf = true) (w2 : (Lit.int .u8 a2).wf = true) :
    Calls Tryd.prog 5 #[v0, .int .i64 a1, .int .u8 a2] w fun e w' => e = .returned (.bool true) ∧ Below w.heap.size w w' := by
  obtain ⟨cs, rfl, hsz⟩ := okWide_struct Tryd.underlying26 o0
  have hsee : Sees w CkSh cs.toList := sees_of (sh := CkSh) rfl ckSh_fits k0
  obtain ⟨c, hc, rfl⟩ := ck_of hsee
  have hw2 := bounds_u8 w2
  obtain ⟨t, rfl⟩ : ∃ t : UInt8, a2 = (t.toNat : Int) := ⟨UInt8.ofNat a2.toNat, by rw [UInt8.toNat_ofNat']; omega⟩
  obtain ⟨q, hq, hqb⟩ := u64rem a1 32 (by omega) (by omega)
  have HQ := Lib.hid hq
  have kc := conv_key
  have HOK := Lib.hid hc
  have HLD := Lib.hid hLaid
  have HW0 : Hid (2 ≤ w.heap.size) := hLaid.size
  clear hsz hsee o0 k0 hc hLaid w1 w2 hq hw2
  go_enter Tryd.func5, Tryd.ntmps5
  go_upto_region 1 with (fail)
  obtain ⟨W0, hW0⟩ : ∃ W0, W0 = w.alloc (.cells (ckA c) 26) := ⟨_, rfl⟩
  obtain ⟨g0, hg0⟩ : ∃ g0, g0 = w.heap.size := ⟨_, rfl⟩
  have HG0 : Hid (Blk W0 g0 26 (ckA c)) := by show Blk _ _ _ _; rw [hW0, hg0]; exact Blk.new w _ _
  have HB0 : Hid (Below w.heap.size w W0) := by show Below _ _ _; rw [hW0]; exact below_new w _
  rw [← hW0, ← hg0]
  clear hW0 hg0
  go_wp2_with fail
  refine (first_any W0 (HLD.out.below HB0.out HW0.out)).mono ?_
  rintro e W1 ⟨rfl, hb1⟩
  have HB1 : Hid (Below w.heap.size w W1) := HB0.out.trans (hb1.mono HB0.out.size)
  have HG1 : Hid (Blk W1 g0 26 (ckA c)) := HG0.out.below hb1 HG0.out.lt
  have HGK : Hid (Blk (keyW W1 [107, 101, 121]) g0 26 (ckA c)) := HG1.out.below (keyW_below W1 _) HG1.out.lt
  have HMK := Lib.hid (make_key (W := W1) (l := [107, 101, 121]) HOK.out (by decide) (HLD.out.below HB1.out HW0.out))
  clear hb1 HG0 HB0
  go_wp2_with (refine wpList_load_row rfl 26 _ rfl g0 rfl 26 (ckA c) (0, 0) _ HGK.out Tryd.underlying26 rfl (ck_size _) ?_)
  refine HMK.out.mono ?_
  rintro e W2 ⟨v1, rfl, ho1, hb2⟩
  obtain ⟨bb, hbb⟩ : ∃ bb, bb = sealed [107, 101, 121] (text c) := ⟨_, rfl⟩
  have hbl : bb.length = 70 := by rw [hbb]; exact sealed_length (text_length _)
  rw [← hbb] at ho1
  obtain ⟨g, c1, rfl, hg1, hg2⟩ := ho1.form (by omega)
  obtain ⟨_, c1', hv1, hc1, hc2⟩ := own_slice ho1
  cases hv1
  have hb70 : (Value.slice (some ⟨g, 0, none⟩) bb.length c1) = .slice (some ⟨g, 0, none⟩) 70 c1 := by rw [hbl]
  rw [hb70]
  rw [hbl] at hc1
  have HO2 : Hid (W2.ownsRow W1.heap.size 5 1 (.slice (some ⟨g, 0, none⟩) 70 c1) 70 (u8s bb)) := by
    have h1 := ho1
    unfold Words.Own at h1
    rw [hbl] at h1
    exact h1
  have HC2 : Hid (Below W1.heap.size W1 W2) := hb2
  have HBL := Lib.hid hbl
  have HGG : Hid (W1.heap.size ≤ g) := hg1
  obtain ⟨mm, hmm⟩ : ∃ m, m = c.made := ⟨_, rfl⟩
  have hml : mm < 4294967296 := by rw [hmm]; exact HOK.out.made
  have HA : Hid (openP [107, 101, 121] bb mm = (c, 0)) := by
    show _ = _
    rw [hbb, open_made HOK.out, if_neg (by rw [hmm]; unfold Ser.dist; omega)]
  have HGM : Hid (∀ V, Below W1.heap.size W1 V → V.cell? ⟨g0, 8, none⟩ = some (.int .u32 (mm : Int))) := fun V hV => by rw [hmm]; exact (HG1.out.below hV HG1.out.lt).cell 8
  have HGC : Hid (∀ V, Below W1.heap.size W1 V → Blk V g0 26 (ckA c)) := fun V hV => HG1.out.below hV HG1.out.lt
  have HLW : Hid (∀ V, Below W1.heap.size W1 V → Below w.heap.size w V ∧ Laid V) := fun V hV => ⟨HB1.out.trans (hV.mono HB1.out.size), HLD.out.below (HB1.out.trans (hV.mono HB1.out.size)) HW0.out⟩
  have hsd : sealed [107, 101, 121] (bb.take 38) = bb := by
    rw [hbb]
    unfold sealed
    rw [← text_length c, List.take_left]
  have HSD := Lib.hid hsd
  clear ho1 hb2 hbb hbl hb70 hg1 hg2 HMK HGK HG1 hmm hsd
  by_cases ht : t = 0
  · subst ht
    go_wp2_with fail
    go_ret
    exact ⟨rfl, (HLW.out W2 HC2.out).1⟩
  · have hti : ¬ ((t.toNat : Int) = 0) := fun e => ht (by
      apply UInt8.toNat_inj.1
      have : t.toNat = 0 := by omega
      rw [this]; rfl)
    have HT := Lib.hid ht
    clear ht
    go_upto_region 7 with (fail)
    rw [HQ.out]
    obtain ⟨kk, hkk⟩ : ∃ kk, kk = 38 + q := ⟨_, rfl⟩
    have ek : (38 : Int) + (q : Int) = (kk : Int) := by omega
    have hk1 : 38 ≤ kk := by omega
    have hk2 : kk < 70 := by omega
    obtain ⟨g', x, hA, hgB, hcx, hfx, hbx, hset⟩ := flip_by t HO2.out HBL.out.symm hk2
    cases hA
    have hx := xor_u8 x t
    obtain ⟨y, hy⟩ : ∃ y, y = x ^^^ t := ⟨_, rfl⟩
    rw [← hy] at hx hset
    have hset := hset (y.toNat : Int) hx.symm
    have hxb := u8_bd x
    have hyb := u8_bd y
    have htb := u8_bd t
    obtain ⟨b2, hb2⟩ : ∃ b2, b2 = bb.set kk y := ⟨_, rfl⟩
    rw [← hb2] at hset
    have hb2l : b2.length = 70 := by rw [hb2, List.length_set]; exact HBL.out
    have hne : y ≠ x := by
      rw [hy]
      intro e
      apply HT.out
      have : x ^^^ (x ^^^ t) = x ^^^ x := by rw [e]
      rw [← UInt8.xor_assoc, UInt8.xor_self, UInt8.zero_xor] at this
      exact this
    have hback : b2.set kk (y ^^^ t) = bb := by
      rw [hb2, List.set_set, hy, UInt8.xor_assoc, UInt8.xor_self, UInt8.xor_zero]
      obtain ⟨hlt, e⟩ := List.getElem?_eq_some_iff.1 hbx
      rw [← e, List.set_getElem_self]
    have hyx : y ^^^ t = x := by rw [hy, UInt8.xor_assoc, UInt8.xor_self, UInt8.xor_zero]
    have hat2 : b2[kk]? = some y := by rw [hb2, List.getElem?_set_self (by rw [HBL.out]; exact hk2)]
    have h38 : b2.take 38 = bb.take 38 := by rw [hb2, List.take_set_of_le (by omega)]
    have hdiff : sealed [107, 101, 121] (b2.take 38) ≠ b2 := by
      rw [h38, HSD.out]
      intro e
      rw [← e] at hat2
      rw [hbx] at hat2
      injection hat2 with h
      exact hne h.symm
    have HA2 : Hid (openP [107, 101, 121] b2 mm = (zeroCK, 90)) := open_mac hb2l hdiff
    have HA3 : Hid (openP [107, 101, 121] (b2.take 69) mm = (zeroCK, 40)) := open_short (by rw [List.length_take]; omega)
    have HB2L := Lib.hid hb2l
    have HBACK := Lib.hid hback
    have HYX := Lib.hid hyx
    have HAT := Lib.hid hat2
    obtain ⟨V3, hV3⟩ : ∃ V, V = W2.setCell ⟨g, kk, none⟩ (.int .u8 (y.toNat : Int)) := ⟨_, rfl⟩
    rw [← hV3] at hset
    have HO3 : Hid (V3.ownsRow W1.heap.size 5 1 (.slice (some ⟨g, 0, none⟩) 70 c1) 70 (u8s b2)) := hset.out
    have HC3 : Hid (Below W1.heap.size W1 V3) := by show Below _ _ _; rw [hV3]; exact HC2.out.setCell (p := ⟨g, kk, none⟩) HGG.out _
    have HBY3 : Hid (Byt V3 V3.heap.size (some ⟨g, 0, none⟩) b2) := by
      have h1 : V3.ownsRow W1.heap.size 5 1 (.slice (some ⟨g, 0, none⟩) 70 c1) b2.length (u8s b2) := by rw [HB2L.out]; exact HO3.out
      exact Words.Own.byt h1
    have HV3 := Lib.hid hV3
    have q3 : (V3.alloc (.cells #[.int .u8 107, .int .u8 101, .int .u8 121] 5 (3, 4))).cell? ⟨g0, 8, none⟩ = some (.int .u32 (mm : Int)) := HGM.out (keyW V3 [107, 101, 121]) (HC3.out.trans ((keyW_below V3 _).mono HC3.out.size))
    clear hkk hset hb2 hb2l hne hback hyx hat2 h38 hdiff hV3 hy hbx hgB
    go_upto_region 8 with (fail)
    rw [← HV3.out]
    clear hcx hfx hx HV3
    have HCW4 : Hid (Calls Tryd.prog 9 #[.slice (some ⟨V3.heap.size, 0, none⟩) 3 3, .slice (some ⟨g, 0, none⟩) 70 c1, .int .u32 (mm)] (keyW V3 [107, 101, 121]) fun e w' => e = .returned (.tuple #[.agg (ckA zeroCK), .int .i64 90]) ∧ Below V3.heap.size V3 w') := by
      have := open_key (W := V3) (l := [107, 101, 121]) (b := b2) (A := (some ⟨g, 0, none⟩)) (n := 70) (c := c1) (now := mm) (by decide) HB2L.out.symm (by omega) HBY3.out (HLW.out V3 HC3.out).2
      unfold OpenDone at this
      rw [HA2.out] at this
      exact this
    (try go_wp2_with fail)
    refine HCW4.out.mono ?_
    rintro e W4 ⟨rfl, hbW4⟩
    obtain ⟨G1, hG1⟩ : ∃ G, G = W4.heap.size := ⟨_, rfl⟩
    obtain ⟨W5, hW5⟩ : ∃ W, W = putCk W4 zeroCK := ⟨_, rfl⟩
    have hbp : Below W4.heap.size W4 W5 := by rw [hW5]; exact putCk_below _ _
    have HKG1 : Hid (Blk W5 G1 26 (ckA zeroCK)) := by show Blk _ _ _ _; rw [hW5, hG1]; exact putCk_blk _ _
    have HBW5 : Hid (Below V3.heap.size V3 W5) := hbW4.trans (hbp.mono hbW4.size)
    have HWW5 := Lib.hid hW5
    have HEG1 := Lib.hid hG1
    clear hbW4 hbp hW5 hG1 HCW4
    go_wp2_with (first
      | (with_reducible refine wpList_allocCk rfl rfl ?_)
      | (refine wpList_storeCk rfl _ _ rfl (c := zeroCK) rfl rfl ?_; rw [← HWW5.out, ← HEG1.out]))
    try rw [← HWW5.out, ← HEG1.out]
    try rw [← HEG1.out]
    clear HWW5 HEG1
    have HC5 : Hid (Below W1.heap.size W1 W5) := HC3.out.trans (HBW5.out.mono HC3.out.size)
    have HO5 : Hid (W5.ownsRow W1.heap.size 5 1 (.slice (some ⟨g, 0, none⟩) 70 c1) 70 (u8s b2)) := (Fr.of_below HBW5.out).own HO3.out (fun g1 hg1 hi => by have := (HO3.out.lt g1 hg1).2; omega)
    clear q3 HBY3 HO3 HC3
    have HST : Hid (Below W5.heap.size W5 W5.drew) := Below.drew (Below.refl _ _)
    have HBYG : Hid (∀ V, Below W5.heap.size W5 V → Byt V V.heap.size (some ⟨g, 0, none⟩) (b2.take 69)) := by
      show ∀ V, _
      intro V hV
      have h0 : W5.ownsRow W1.heap.size 5 1 (.slice (some ⟨g, 0, none⟩) 70 c1) b2.length (u8s b2) := by rw [HB2L.out]; exact HO5.out
      exact Reads.take_ (((Words.Own.byt h0).below hV).more hV.size) 69
    have HT69 : Hid (69 = (b2.take 69).length) := by show _ = _; rw [List.length_take, HB2L.out]; rfl
    go_wp2_with fail
    refine wp_region_stage (TRel W5.heap.size) (fun m V => Hid (Below W5.heap.size W5 V)) [(false, .grows (KeyF W5.heap.size [107, 101, 121])),
        (false, .grows (KeyF W5.heap.size [107, 101, 121])),
        (false, .exact (.slice (some ⟨g, 0, none⟩) 70 c1)),
        (false, .exact (.slice (some ⟨g, 0, none⟩) 69 c1)),
        (false, .exact (.pointer (some ⟨g0, 8, none⟩))),
        (false, .exact (.int .u32 (mm : Int))),
        (false, .exact (.tuple #[.agg (ckA zeroCK), .int .i64 40])),
        (false, .exact (.tuple #[.agg (ckA zeroCK), .int .i64 40])),
        (false, .exact (.agg (ckA zeroCK))),
        (false, .exact (.int .i64 40)),
        (false, .grows (CkF W5.heap.size)),
        (true, .exact (undef)),
        (false, .exact (.int .i64 40))] (by kernel_rfl) (by kernel_rfl) (by kernel_rfl) rfl ?lasts ?start ?walk
    case lasts => exact ⟨fun _ _ _ h k => h.lasts k, fun _ _ _ h k => h.lasts k, fun _ _ _ h k => h.lasts k, trivial⟩
    case start => exact HST
    case walk =>
      refine stage_grows rfl (fun V m hS hl => by
          go_simp
          exact ⟨TRel.of_below (below_new V _), KeyF.new [107, 101, 121] hS.out.size, hS.out.trans ((below_new V _).mono hS.out.size)⟩) (fun v53 => ?_)
      simp only [Act.put, List.setIfInBounds_toArray, List.set_cons_zero, List.set_cons_succ, List.cons_append, List.nil_append]
      refine stage_grows rfl (fun V m hS hl => by
          obtain ⟨V', h1, h2, h3, h4⟩ := KeyF.conv (hl.1 (by kernel_rfl)) hS.out
          go_simp
          exact ⟨h2, h3, h4⟩) (fun v54 => ?_)
      simp only [Act.put, List.setIfInBounds_toArray, List.set_cons_zero, List.set_cons_succ, List.cons_append, List.nil_append]
      refine stage_pure rfl (fun V => TRel.refl _ V) (fun V m hS hl => by go_simp) ?_
      simp only [Act.put, List.setIfInBounds_toArray, List.set_cons_zero, List.set_cons_succ, List.cons_append, List.nil_append]
      refine stage_pure rfl (fun V => TRel.refl _ V) (fun V m hS hl => by exact exec_upto (k := 69) rfl rfl rfl (by omega)) ?_
      simp only [Act.put, List.setIfInBounds_toArray, List.set_cons_zero, List.set_cons_succ, List.cons_append, List.nil_append]
      refine stage_pure rfl (fun V => TRel.refl _ V) (fun V m hS hl => by go_simp) ?_
      simp only [Act.put, List.setIfInBounds_toArray, List.set_cons_zero, List.set_cons_succ, List.cons_append, List.nil_append]
      refine stage_pure rfl (fun V => TRel.refl _ V) (fun V m hS hl => by
          have hq := HGM.out V (HC5.out.trans (hS.out.mono HC5.out.size))
          go_simp) ?_
      simp only [Act.put, List.setIfInBounds_toArray, List.set_cons_zero, List.set_cons_succ, List.cons_append, List.nil_append]
      refine stage_exact rfl (fun V m hS hl => by
          go_simp
          refine Calls.mono (open_any (b := b2.take 69) (now := mm) (KeyF.ptv (hl.2.1 (by kernel_rfl)) (by decide)) (by decide) HT69.out (by omega) (HBYG.out V hS.out) (HLW.out V (HC5.out.trans (hS.out.mono HC5.out.size))).2) ?_
          rintro e V' ⟨rfl, hb⟩
          exact ⟨_, rfl, TRel.of_below hb, by rw [HA3.out]; rfl, hS.out.trans (hb.mono hS.out.size)⟩) ?_
      simp only [Act.put, List.setIfInBounds_toArray, List.set_cons_zero, List.set_cons_succ, List.cons_append, List.nil_append]
      refine stage_pure rfl (fun V => TRel.refl _ V) (fun V m hS hl => by go_simp) ?_
      simp only [Act.put, List.setIfInBounds_toArray, List.set_cons_zero, List.set_cons_succ, List.cons_append, List.nil_append]
      refine stage_pure rfl (fun V => TRel.refl _ V) (fun V m hS hl => by go_simp) ?_
      simp only [Act.put, List.setIfInBounds_toArray, List.set_cons_zero, List.set_cons_succ, List.cons_append, List.nil_append]
      refine stage_pure rfl (fun V => TRel.refl _ V) (fun V m hS hl => by go_simp) ?_
      simp only [Act.put, List.setIfInBounds_toArray, List.set_cons_zero, List.set_cons_succ, List.cons_append, List.nil_append]
      refine stage_grows rfl (fun V m hS hl => by
          show Words.Leaves _ _ _
          rw [exec_allocCk rfl]
          exact ⟨TRel.of_below (below_new V _), ⟨_, zeroCK, rfl, hS.out.size, Blk.new V _ _⟩, hS.out.trans ((below_new V _).mono hS.out.size)⟩) (fun v11 => ?_)
      simp only [Act.put, List.setIfInBounds_toArray, List.set_cons_zero, List.set_cons_succ, List.cons_append, List.nil_append]
      refine stage_move rfl (fun V hS hl => by
          obtain ⟨g', e, a, hb, h1, h2⟩ := CkF.store (b := zeroCK) (hl.2.2.1 (by kernel_rfl)) hS.out
          show Words.Leaves _ _ _
          rw [exec_storeCk rfl e rfl hb]
          exact ⟨h1, rfl, h2⟩) ?_
      simp only [Act.put, List.setIfInBounds_toArray, List.set_cons_zero, List.set_cons_succ, List.cons_append, List.nil_append]
      refine stage_pure rfl (fun V => TRel.refl _ V) (fun V m hS hl => by go_simp) ?_
      simp only [Act.put, List.setIfInBounds_toArray, List.set_cons_zero, List.set_cons_succ, List.cons_append, List.nil_append]
      refine stage_nil (fun V6 hS hF => ?_)
      have HB6 : Hid (Below W5.heap.size W5 V6) := hS
      clear hS hF HST
      have HC6 : Hid (Below W1.heap.size W1 V6) := HC5.out.trans (HB6.out.mono HC5.out.size)
      have HO6 : Hid (V6.ownsRow W1.heap.size 5 1 (.slice (some ⟨g, 0, none⟩) 70 c1) 70 (u8s b2)) := (Fr.of_below HB6.out).own HO5.out (fun g1 hg1 hi => by have := (HO5.out.lt g1 hg1).2; omega)
      obtain ⟨g', y', hA, hgB, hcx, hfx, hbx, hset⟩ := flip_by t HO6.out HB2L.out.symm hk2
      cases hA
      rw [HAT.out] at hbx
      cases hbx
      have hx := xor_u8 y t
      rw [HYX.out] at hx
      have hset := hset (x.toNat : Int) hx.symm
      rw [HBACK.out] at hset
      obtain ⟨V7, hV7⟩ : ∃ V, V = V6.setCell ⟨g, kk, none⟩ (.int .u8 (x.toNat : Int)) := ⟨_, rfl⟩
      rw [← hV7] at hset
      have HO7 : Hid (V7.ownsRow W1.heap.size 5 1 (.slice (some ⟨g, 0, none⟩) 70 c1) 70 (u8s bb)) := hset.out
      have HC7 : Hid (Below W1.heap.size W1 V7) := by show Below _ _ _; rw [hV7]; exact HC6.out.setCell (p := ⟨g, kk, none⟩) HGG.out _
      have HBY7 : Hid (Byt V7 V7.heap.size (some ⟨g, 0, none⟩) bb) := by
        have h1 : V7.ownsRow W1.heap.size 5 1 (.slice (some ⟨g, 0, none⟩) 70 c1) bb.length (u8s bb) := by rw [HBL.out]; exact HO7.out
        exact Words.Own.byt h1
      have HV7 := Lib.hid hV7
      have q7 : (V7.alloc (.cells #[.int .u8 107, .int .u8 101, .int .u8 121] 5 (3, 4))).cell? ⟨g0, 8, none⟩ = some (.int .u32 (mm : Int)) := HGM.out (keyW V7 [107, 101, 121]) (HC7.out.trans ((keyW_below V7 _).mono HC7.out.size))
      clear hset hV7 hgB HO5 HO6 HB6 HBYG
      go_upto_region 11 with (fail)
      rw [← HV7.out]
      clear hcx hfx hx HV7
      have HCW8 : Hid (Calls Tryd.prog 9 #[.slice (some ⟨V7.heap.size, 0, none⟩) 3 3, .slice (some ⟨g, 0, none⟩) 70 c1, .int .u32 (mm)] (keyW V7 [107, 101, 121]) fun e w' => e = .returned (.tuple #[.agg (ckA c), .int .i64 0]) ∧ Below V7.heap.size V7 w') := by
        have := open_key (W := V7) (l := [107, 101, 121]) (b := bb) (A := (some ⟨g, 0, none⟩)) (n := 70) (c := c1) (now := mm) (by decide) HBL.out.symm (by omega) HBY7.out (HLW.out V7 HC7.out).2
        unfold OpenDone at this
        rw [HA.out] at this
        exact this
      (try go_wp2_with fail)
      refine HCW8.out.mono ?_
      rintro e W8 ⟨rfl, hbW8⟩
      obtain ⟨G3, hG3⟩ : ∃ G, G = W8.heap.size := ⟨_, rfl⟩
      obtain ⟨W9, hW9⟩ : ∃ W, W = putCk W8 c := ⟨_, rfl⟩
      have hbp : Below W8.heap.size W8 W9 := by rw [hW9]; exact putCk_below _ _
      have HKG3 : Hid (Blk W9 G3 26 (ckA c)) := by show Blk _ _ _ _; rw [hW9, hG3]; exact putCk_blk _ _
      have HBW9 : Hid (Below V7.heap.size V7 W9) := hbW8.trans (hbp.mono hbW8.size)
      have HWW9 := Lib.hid hW9
      have HEG3 := Lib.hid hG3
      clear hbW8 hbp hW9 hG3 HCW8
      have HC9 : Hid (Below W1.heap.size W1 W9) := HC7.out.trans (HBW9.out.mono HC7.out.size)
      have HGC9 := Lib.hid (HGC.out W9 HC9.out)
      go_wp2_with (first
        | (with_reducible refine wpList_allocCk rfl rfl ?_)
        | (refine wpList_storeCk rfl _ _ rfl (c := c) rfl rfl ?_; rw [← HWW9.out, ← HEG3.out])
        | (refine wpList_loadCk rfl _ rfl G3 c rfl HKG3.out ?_)
        | (refine wpList_loadCk rfl _ rfl g0 c rfl HGC9.out ?_)
        | (refine wpList_eqCk rfl _ _ _ rfl c rfl rfl ?_))
      try rw [← HWW9.out, ← HEG3.out]
      try rw [← HEG3.out]
      clear HWW9 HEG3
      (try go_wp2_with fail)
      go_ret
      exact ⟨rfl, (HLW.out W9 HC9.out).1⟩

/-! ### The row's step -/
/-- The door's own heap meets the condition. -/
theorem door_met (os : Os) (args : Array Value) : laidMetH Tryd.prog [("flume/mac.first", Rows.laid_flume_mac_first), ("flume/mac.rounds", Rows.laid_flume_mac_rounds)] ((World.doorLaid Tryd.prog 400 os).forCall (fun _ _ => 0) ⟨#[], args, []⟩).memory :=
  laidMetH_of_parts3 (fuel := 8) (laidMet_of_run' 8 (by kernel_rfl) (by kernel_rfl)) (by kernel_rfl) (by kernel_rfl)
set_option maxRecDepth 100000 in
theorem lifted (os : Os) (started : os.Started) (H : Type) (enc : TypeId × Value → H) :
    ReturnsInHanded {} Tryd.checked os 5 .any (fun w args => (Rows.cookieTurnedSpec.pre enc Tryd.prog Tryd.f5 [] false w args ∧ laidMetH Tryd.prog [("flume/mac.first", Rows.laid_flume_mac_first), ("flume/mac.rounds", Rows.laid_flume_mac_rounds)] w) ∧ sizedMet enc Tryd.prog Tryd.f5 (OpenSpec.ofChange Rows.cookieTurnedSpec) false w args)
      (Rows.cookieTurnedSpec.post enc Tryd.prog Tryd.f5 false true false false) := by
  refine returnsInHanded_of_change_and (C := Tryd.checked) (X := fun w _ => laidMetH Tryd.prog [("flume/mac.first", Rows.laid_flume_mac_first), ("flume/mac.rounds", Rows.laid_flume_mac_rounds)] w) (fun _ _ _ hh h => h.of_heap hh) own started (by kernel_rfl) Tryd.func5
    (ChangeSpec.witness_shaped (enc := enc) (C := Tryd.checked) (os := os) (X := fun w _ => laidMetH Tryd.prog [("flume/mac.first", Rows.laid_flume_mac_first), ("flume/mac.rounds", Rows.laid_flume_mac_rounds)] w) false (World.doorLaid Tryd.prog 400 os) #[.agg #[.int .u32 0, .int .u32 0, .int .u32 0, .int .u32 0, .int .u32 0, .int .u16 0, .int .u16 0, .int .u8 0, .int .u32 0, .int .u32 0, .int .u32 0], .int .i64 0, .int .u8 0] 8 rfl (World.shaped_of_RefB (by kernel_rfl) (by kernel_rfl)) (by kernel_rfl) (by kernel_rfl) (by kernel_rfl) (door_met os _)) ?_
  intro W base args ds gs before hval0 hW _ _ hL _
  have hval : ∀ (j : Nat) t v, Tryd.f5.params[j]? = some t → args[j]? = some v → Value.okWide Tryd.prog W .any base t v := hval0
  have hW' := hW
  obtain ⟨p, q, hA0, hV, rfl, hfz, hnd⟩ := hW
  have hA : DataW.TrodAll enc Tryd.prog W 0 (fun _ => true) true Tryd.f5.params.toList args.toList ds p := hA0
  rw [Tryd.params5] at hA hval
  obtain ⟨v0, vs0, d0, ds0, p0, q0, hargs, rfl, rfl, h0, r0⟩ := trodAll_cons hA
  obtain ⟨v1, vs1, d1, ds1, p1, q1, rfl, rfl, rfl, h1, r1⟩ := trodAll_cons r0
  obtain ⟨v2, vs2, d2, ds2, p2, q2, rfl, rfl, rfl, h2, r2⟩ := trodAll_cons r1
  obtain ⟨rfl, rfl, rfl⟩ := trodAll_nil r2
  obtain rfl : args = #[v0, v1, v2] := by cases args; simp_all
  obtain ⟨rfl, rfl⟩ := trodVars_none hV
  have lt0 : ∀ x ∈ p0, x.block < W.heap.size := by obtain ⟨m, hm⟩ := h0; exact DataW.trod_lt m _ _ _ hm
  obtain ⟨a1, rfl, rfl, rfl, w1⟩ := open_int Tryd.underlying3 (hval 1 3 v1 rfl rfl) h1
  obtain ⟨a2, rfl, rfl, rfl, w2⟩ := open_int Tryd.underlying5 (hval 2 5 v2 rfl rfl) h2
  clear hA0 hval0
  refine (walk v0 d0 p0 a1 a2 W (Sha.laid_of hL) (hval 0 26 v0 rfl rfl) h0 w1 w2).mono fun e W' ⟨he, bel⟩ => ?_
  subst he
  exact ⟨_, rfl, _, _, _, [], _, [], hW', trodAll_mk1 (shut_bool Tryd.underlying4 _), (trodAll_cons_mk (Below.trod laidOut (by kernel_rfl) (of_decide_eq_true (by kernel_rfl)) h0 bel lt0) (trodAll_cons_mk (shut_int Tryd.underlying3 w1) (trodAll_cons_mk (shut_int Tryd.underlying5 w2) trodAll_mk0))), rfl, bel.frame _, fun h => by cases h⟩

theorem over : Rows.cookieTurnedRow.holds Tryd.pinned (OpenSpec.ofChange Rows.cookieTurnedSpec) :=
  OpenClaim.holds_of_wide 5 Tryd.f5 rfl rfl rfl rfl rfl rfl rfl ⟨rfl, rfl, rfl, rfl, rfl⟩ rfl rfl rfl rfl rfl (by kernel_rfl) Tryd.func5 (by kernel_rfl)
    (of_decide_eq_true (by kernel_rfl)) (by unfold Func.isWrapper; first | (rw [if_pos (by decide +kernel)]; kernel_rfl) | (rw [if_neg (by decide +kernel)]; exact ⟨rfl, rfl⟩))
    (fun os started H enc _ => lifted os started H enc)

theorem proved : Rows.CookieTurnedCardSaid :=
  Claim7.holds_tied_plain_at .later [] [.data, .data] true (true, "d1f23317c1d23e5b14195f30f7cff69ffccaf82393da8e2de0426d354ceb044e") false
    over (fun _ h => by cases h) (by kernel_rfl) (fun _ h => by cases h) cookieTurned_row_tie rfl ⟨rfl, rfl⟩ (by kernel_rfl) rfl
    (fun f fn hf hfn => by
      obtain rfl : f = 5 := Option.some.inj ((show Tryd.prog.funcNamed "flume/flumelaw09.CookieTurned" = some 5 by kernel_rfl).symm.trans hf) |>.symm
      obtain rfl : fn = Tryd.f5 := (Option.some.inj (Tryd.func5.symm.trans hfn)).symm
      exact ⟨by kernel_rfl, fun j t ht => by
        rw [Tryd.params5] at ht
        have hm : t ∈ [26, 3, 5] := by simpa using Array.mem_of_getElem? ht
        have hall : ([26, 3, 5].all fun u => !Tryd.prog.wantsStandIn u) = true := by kernel_rfl
        exact (show Tryd.prog.wantsStandIn t = false by simpa using List.all_eq_true.1 hall t hm)⟩)
    (by kernel_rfl)
#print axioms proved
end Go.Proofs.YtmbgjijajakgeaaDoor.cookieTurned
