/-
  PROVED: PacketAlone of flumelaw07 answers true for every input, and its arguments read afterwards as before. CONDITIONS: none beside the form's own.
-/
import Derived.Test.YtpgklhecmafnbaaRows
import Derived.Test.YtpgklhecmafnbaaPkAl
import Derived.Test.YtpgklhecmafnbaaSees
import Derived.WalkKit
import Derived.ProofKit
import Derived.OpenShut
import Derived.ShutString
import Derived.ChangeOld
import Derived.Below
namespace Go.Proofs.Ytpgklhecmafnbaa.packetAlone
open Go.ChangeShapes Go.WideShapes Go.ChangeAt Go.RowKit
open Go.ChangeMaps (open_string shut_string)
set_option linter.unusedVariables false
set_option linter.unusedSimpArgs false

theorem own : ownKnob Try.prog.godebug = none := by kernel_rfl
theorem laidOut : laidOutB Try.prog = true := by kernel_rfl

/-- What the walk is told of a slice of integers that came in. -/
def IsRow (k : IntKind) (w : World) (a : Option Addr) (len cap : Nat) (zs : List Int) : Prop :=
  (a = none ∧ len = 0 ∧ cap = 0 ∧ zs = []) ∨
  ∃ x, a = some x ∧ len ≤ cap ∧ cap ≤ maxLen ∧ zs.length = cap ∧ (∀ i, i < zs.length → w.cell? (x.add i) = some (.int k (zs.getD i 0))) ∧ ∀ n ∈ zs, (Lit.int k n).wf = true

/-! ### The walk -/
open Words Oct Par Chk
open Crc (sealL)
set_option maxHeartbeats 8000000 in
set_option maxRecDepth 100000 in
theorem walk {H : Type} {enc : TypeId × Value → H} {base : Nat} (v0 : Value) (d0 : DataW H) (p0 : List MemPlace) (v1 : Value) (d1 : DataW H) (p1 : List MemPlace) (w : World) (o0 : Value.okWide Try.prog w .any base 32 v0) (k0 : DataW.Trod enc Try.prog w 0 (fun _ => true) true 32 v0 d0 p0) (o1 : Value.okWide Try.prog w .any base 32 v1) (k1 : DataW.Trod enc Try.prog w 0 (fun _ => true) true 32 v1 d1 p1) :
    Calls Try.prog 9 #[v0, v1] w fun e w' => e = .returned (.bool true) ∧ Below w.heap.size w w' := by
  obtain ⟨cs, rfl, hsz⟩ := okWide_struct Try.underlying32 o0
  obtain ⟨os, rfl, hosz⟩ := okWide_struct Try.underlying32 o1
  have hsee : Sees w CkSh cs.toList := sees_of (sh := CkSh) rfl ckSh_fits k0
  have hsee1 : Sees w CkSh os.toList := sees_of (sh := CkSh) rfl ckSh_fits k1
  obtain ⟨c, hat⟩ := ck_of hsee
  obtain ⟨o, hato⟩ := ck_of hsee1
  have HAT := Lib.hid hat
  have HATO := Lib.hid hato
  have HSZ := Lib.hid hat.size
  have HSZO := Lib.hid hato.size
  clear hsz hosz hsee hsee1 o0 k0 o1 k1 hat hato
  go_enter Try.func9, Try.ntmps9
  go_upto_region 1 with (fail)
  have HBL : Hid (CkBlk ((w.alloc (.cells cs 32)).alloc (.cells os 32)) w.heap.size cs ∧ CkBlk ((w.alloc (.cells cs 32)).alloc (.cells os 32)) (w.heap.size + 1) os) :=
    ⟨(Blk.new w 32 cs).below ((Below.refl (w.alloc (.cells cs 32)).heap.size _).alloc (Nat.le_refl _) _) (Blk.new w 32 cs).lt, by simpa using Blk.new (w.alloc (.cells cs 32)) 32 os⟩
  have HB : Hid (Below w.heap.size w ((w.alloc (.cells cs 32)).alloc (.cells os 32))) := ((Below.refl w.heap.size w).alloc (Nat.le_refl _) (.cells cs 32)).alloc (((Below.refl w.heap.size w).alloc (Nat.le_refl _) (.cells cs 32)).size) _
  obtain ⟨W0, hW0⟩ : ∃ W0, W0 = (w.alloc (.cells cs 32)).alloc (.cells os 32) := ⟨_, rfl⟩
  rw [← hW0] at HBL HB ⊢
  obtain ⟨g0, hg0⟩ : ∃ g0, g0 = w.heap.size := ⟨_, rfl⟩
  obtain ⟨g1, hg1⟩ : ∃ g1, g1 = w.heap.size + 1 := ⟨_, rfl⟩
  rw [← hg1] at HBL ⊢
  rw [← hg0] at HBL
  have HG0 := Lib.hid HBL.out.1
  have HG0' := Lib.hid HBL.out.2
  rw [← hg0]
  clear hW0 HBL hg0 hg1
  have HAR := Lib.hid HAT.out.arr
  have HARO := Lib.hid HATO.out.arr
  go_wp2_with fail
  refine (first_p W0).mono ?_
  rintro e W1 ⟨rfl, hb1⟩
  have HB1 := Lib.hid (HB.out.trans (hb1.mono HB.out.size))
  have HG1 : Hid (CkBlk W1 g0 cs) := HG0.out.below hb1 HG0.out.lt
  have HG1' : Hid (CkBlk W1 g1 os) := HG0'.out.below hb1 HG0'.out.lt
  clear hb1 HG0 HG0' HB
  have HN1 : Hid (CkBlk (W1.alloc (.cells (cs ++ os) 32)) W1.heap.size (cs ++ os)) := Blk.new _ _ _
  have HE1 : Hid (Below W1.heap.size W1 (W1.alloc (.cells (cs ++ os) 32))) := (Below.refl W1.heap.size W1).alloc (Nat.le_refl _) _
  have HK1 : Hid (Cks (W1.alloc (.cells (cs ++ os) 32)) (W1.alloc (.cells (cs ++ os) 32)).heap.size (some ⟨W1.heap.size, 0, none⟩) [c, o]) := cks_two HN1.out ((HAT.out.below (HB1.out.trans (HE1.out.mono HB1.out.size))).more (Nat.le_trans HB1.out.size HE1.out.size)) ((HATO.out.below (HB1.out.trans (HE1.out.mono HB1.out.size))).more (Nat.le_trans HB1.out.size HE1.out.size)) HN1.out.lt
  go_wp2_with (first
    | refine wpList_load_row rfl 32 _ rfl g0 rfl 32 cs (0, 0) _ HG1.out Try.underlying32 rfl (by rw [HSZ.out]; exact chunk_info) ?_
    | refine wpList_load_row rfl 32 _ rfl g1 rfl 32 os (0, 0) _ HG1'.out Try.underlying32 rfl (by rw [HSZO.out]; exact chunk_info) ?_
    | refine wpList_slice_two rfl _ _ rfl cs os rfl rfl HAR.out HARO.out ?_)
  refine (rsizeL_k (n := 2) (c := 2) HK1.out (Nat.le_refl _) rfl (by decide)).mono ?_
  rintro e W2 ⟨⟨s, rfl, hs4, hs⟩, hb2'⟩
  have hb2 := HE1.out.trans (hb2'.mono HE1.out.size)
  have HSS := Lib.hid hs
  have HB2 := Lib.hid (HB1.out.trans (hb2.mono HB1.out.size))
  have HG2 : Hid (CkBlk W2 g0 cs) := HG1.out.below hb2 HG1.out.lt
  have HG2' : Hid (CkBlk W2 g1 os) := HG1'.out.below hb2 HG1'.out.lt
  clear hb2 hb2' hs HG1 HG1' HB1 HN1 HE1 HK1
  by_cases hbig : (1000 : Int) < (s : Int)
  · go_wp2_with fail
    go_ret
    exact ⟨rfl, HB2.out⟩
  have HSC : Hid (sumC [c, o] ≤ 1000) := by have := HSS.out (by omega); show _ ≤ _; omega
  clear HSS
  have HSC1 : Hid (sumC [c] ≤ 1000 ∧ sumC [o] ≤ 1000) := by have := HSC.out; simp only [sumC_cons, sumC_nil] at this ⊢; exact ⟨by omega, by omega⟩
  go_upto_region 5 with fail
  clear hbig
  have HN2 : Hid (CkBlk (W2.alloc (.cells (cs) 32)) W2.heap.size (cs)) := Blk.new _ _ _
  have HE2 : Hid (Below W2.heap.size W2 (W2.alloc (.cells (cs) 32))) := (Below.refl W2.heap.size W2).alloc (Nat.le_refl _) _
  have HK2 : Hid (Cks (W2.alloc (.cells (cs) 32)) (W2.alloc (.cells (cs) 32)).heap.size (some ⟨W2.heap.size, 0, none⟩) [c]) := cks_one HN2.out ((HAT.out.below (HB2.out.trans (HE2.out.mono HB2.out.size))).more (Nat.le_trans HB2.out.size HE2.out.size)) HN2.out.lt
  go_wp2_with (first
    | refine wpList_load_row rfl 32 _ rfl g0 rfl 32 cs (0, 0) _ HG2.out Try.underlying32 rfl (by rw [HSZ.out]; exact chunk_info) ?_
    | refine wpList_slice_ck rfl _ rfl cs rfl HAR.out ?_
    | refine wpList_build_as rfl 44 _ rfl (pkV 0 0 0 (.slice (some ⟨W2.heap.size, 0, none⟩) 1 1)) (pk_built_ck _ ⟨_, _, _, rfl⟩) ?_)
  refine (put_p (f := 0) (t := 0) (g := 0) (n := 1) (c := 1) HK2.out rfl (by have := HSC1.out.1; omega) (by decide) (by decide) (by decide)).mono ?_
  rintro e W3 ⟨⟨k1, v3, l3, rfl, hk1, ho3, hp3⟩, hb3'⟩
  have hb3 := HE2.out.trans (hb3'.mono HE2.out.size)
  obtain ⟨A3, c3, rfl, _, _⟩ := own_as ho3 rfl
  have HP3 := Lib.hid hp3
  have HB3 := Lib.hid (HB2.out.trans (hb3.mono HB2.out.size))
  have HG3 : Hid (CkBlk W3 g0 cs) := HG2.out.below hb3 HG2.out.lt
  have HG3' : Hid (CkBlk W3 g1 os) := HG2'.out.below hb3 HG2'.out.lt
  clear hb3 hb3' ho3 hp3 HG2 HG2' HB2 HN2 HE2 HK2
  have HN3 : Hid (CkBlk (W3.alloc (.cells (os) 32)) W3.heap.size (os)) := Blk.new _ _ _
  have HE3 : Hid (Below W3.heap.size W3 (W3.alloc (.cells (os) 32))) := (Below.refl W3.heap.size W3).alloc (Nat.le_refl _) _
  have HK3 : Hid (Cks (W3.alloc (.cells (os) 32)) (W3.alloc (.cells (os) 32)).heap.size (some ⟨W3.heap.size, 0, none⟩) [o]) := cks_one HN3.out ((HATO.out.below (HB3.out.trans (HE3.out.mono HB3.out.size))).more (Nat.le_trans HB3.out.size HE3.out.size)) HN3.out.lt
  go_wp2_with (first
    | refine wpList_load_row rfl 32 _ rfl g1 rfl 32 os (0, 0) _ HG3'.out Try.underlying32 rfl (by rw [HSZO.out]; exact chunk_info) ?_
    | refine wpList_slice_ck rfl _ rfl os rfl HARO.out ?_
    | refine wpList_build_as rfl 44 _ rfl (pkV 0 0 0 (.slice (some ⟨W3.heap.size, 0, none⟩) 1 1)) (pk_built_ck _ ⟨_, _, _, rfl⟩) ?_)
  refine (put_p (f := 0) (t := 0) (g := 0) (n := 1) (c := 1) HK3.out rfl (by have := HSC1.out.2; omega) (by decide) (by decide) (by decide)).mono ?_
  rintro e W4 ⟨⟨k2, v4, l4, rfl, hk2, ho4, hp4⟩, hb4'⟩
  have hb4 := HE3.out.trans (hb4'.mono HE3.out.size)
  obtain ⟨A4, c4, rfl, _, _⟩ := own_as ho4 rfl
  have HP4 := Lib.hid hp4
  have HB4 := Lib.hid (HB3.out.trans (hb4.mono HB3.out.size))
  have HG4 : Hid (CkBlk W4 g0 cs) := HG3.out.below hb4 HG3.out.lt
  have HG4' : Hid (CkBlk W4 g1 os) := HG3'.out.below hb4 HG3'.out.lt
  clear hb4 hb4' ho4 hp4 HG3 HG3' HB3 HN3 HE3 HK3
  go_upto_region 7 with fail
  by_cases hk10 : k1 = 0
  rotate_left
  · have hkn : ((k1 : Int) != 0) = true := by simp; omega
    clear hk10
    go_wp2_with fail
    go_ret
    exact ⟨ret_bool (by simp), HB4.out⟩
  subst hk10
  by_cases hk20 : k2 = 0
  rotate_left
  · have hkn : ((k2 : Int) != 0) = true := by simp; omega
    clear hk20
    go_wp2_with fail
    go_ret
    exact ⟨ret_bool (by simp), HB4.out⟩
  subst hk20
  have HF1 := Lib.hid (fit_one HP3.out)
  have HF2 := Lib.hid (fit_one HP4.out)
  clear HP3 HP4
  go_upto_region 9 with fail
  have HN4 : Hid (CkBlk (W4.alloc (.cells (cs ++ os) 32)) W4.heap.size (cs ++ os)) := Blk.new _ _ _
  have HE4 : Hid (Below W4.heap.size W4 (W4.alloc (.cells (cs ++ os) 32))) := (Below.refl W4.heap.size W4).alloc (Nat.le_refl _) _
  have HK4 : Hid (Cks (W4.alloc (.cells (cs ++ os) 32)) (W4.alloc (.cells (cs ++ os) 32)).heap.size (some ⟨W4.heap.size, 0, none⟩) [c, o]) := cks_two HN4.out ((HAT.out.below (HB4.out.trans (HE4.out.mono HB4.out.size))).more (Nat.le_trans HB4.out.size HE4.out.size)) ((HATO.out.below (HB4.out.trans (HE4.out.mono HB4.out.size))).more (Nat.le_trans HB4.out.size HE4.out.size)) HN4.out.lt
  go_wp2_with (first
    | refine wpList_load_row rfl 32 _ rfl g0 rfl 32 cs (0, 0) _ HG4.out Try.underlying32 rfl (by rw [HSZ.out]; exact chunk_info) ?_
    | refine wpList_load_row rfl 32 _ rfl g1 rfl 32 os (0, 0) _ HG4'.out Try.underlying32 rfl (by rw [HSZO.out]; exact chunk_info) ?_
    | refine wpList_slice_two rfl _ _ rfl cs os rfl rfl HAR.out HARO.out ?_
    | refine wpList_build_as rfl 44 _ rfl (pkV 0 0 0 (.slice (some ⟨W4.heap.size, 0, none⟩) 2 2)) (pk_built_ck _ ⟨_, _, _, rfl⟩) ?_)
  refine (put_p (f := 0) (t := 0) (g := 0) (n := 2) (c := 2) HK4.out rfl (by have := HSC.out; omega) (by decide) (by decide) (by decide)).mono ?_
  rintro e W5 ⟨⟨k3, v5, l5, rfl, hk3, ho5, hp5⟩, hb5'⟩
  have hb5 := HE4.out.trans (hb5'.mono HE4.out.size)
  obtain ⟨A5, c5, rfl, _, _⟩ := own_as ho5 rfl
  have HTW := Lib.hid (two_told HF1.out HF2.out hp5)
  have HB5 := Lib.hid (HB4.out.trans (hb5.mono HB4.out.size))
  have HG5 : Hid (CkBlk W5 g0 cs) := HG4.out.below hb5 HG4.out.lt
  have HG5' : Hid (CkBlk W5 g1 os) := HG4'.out.below hb5 HG4'.out.lt
  clear hb5 hb5' ho5 hp5 HG4 HG4' HB4 HN4 HE4 HK4
  go_upto_region 10 with fail
  have HN5 : Hid (CkBlk (W5.alloc (.cells (cs ++ os) 32)) W5.heap.size (cs ++ os)) := Blk.new _ _ _
  have HE5 : Hid (Below W5.heap.size W5 (W5.alloc (.cells (cs ++ os) 32))) := (Below.refl W5.heap.size W5).alloc (Nat.le_refl _) _
  have HK5 : Hid (Cks (W5.alloc (.cells (cs ++ os) 32)) (W5.alloc (.cells (cs ++ os) 32)).heap.size (some ⟨W5.heap.size, 0, none⟩) [c, o]) := cks_two HN5.out ((HAT.out.below (HB5.out.trans (HE5.out.mono HB5.out.size))).more (Nat.le_trans HB5.out.size HE5.out.size)) ((HATO.out.below (HB5.out.trans (HE5.out.mono HB5.out.size))).more (Nat.le_trans HB5.out.size HE5.out.size)) HN5.out.lt
  go_wp2_with (first
    | refine wpList_load_row rfl 32 _ rfl g0 rfl 32 cs (0, 0) _ HG5.out Try.underlying32 rfl (by rw [HSZ.out]; exact chunk_info) ?_
    | refine wpList_load_row rfl 32 _ rfl g1 rfl 32 os (0, 0) _ HG5'.out Try.underlying32 rfl (by rw [HSZO.out]; exact chunk_info) ?_
    | refine wpList_slice_two rfl _ _ rfl cs os rfl rfl HAR.out HARO.out ?_)
  refine (bundle_k (n := 2) (c := 2) HK5.out rfl (Nat.le_refl _) (by decide) (by have := HSC.out; omega)).mono ?_
  rintro e W6 ⟨hd, hb6'⟩
  have hb6 := HE5.out.trans (hb6'.mono HE5.out.size)
  have hall : AllFit [c, o] := fun x hx => by
    simp only [List.mem_cons, List.not_mem_nil, or_false] at hx
    rcases hx with rfl | rfl
    · exact HF1.out
    · exact HF2.out
  rcases hd with ⟨v6, rfl, ho6, _⟩ | ⟨k, _, hbad⟩
  rotate_left
  · exact (badB_all hbad hall).elim
  obtain ⟨xs6, hx6, _⟩ := ho6
  obtain ⟨A6, c6, rfl, _, _⟩ := own_slice hx6
  obtain ⟨m, hm⟩ : ∃ m, m = (bundleB [c, o]).length := ⟨_, rfl⟩
  rw [← hm] at HTW ⊢
  have HB6 := Lib.hid (HB5.out.trans (hb6.mono HB5.out.size))
  have HG6 : Hid (CkBlk W6 g0 cs) := HG5.out.below hb6 HG5.out.lt
  have HG6' : Hid (CkBlk W6 g1 os) := HG5'.out.below hb6 HG5'.out.lt
  have hkc := HAT.out.ok.kind
  have hko := HATO.out.ok.kind
  have x0 := CkBlk.at HG6.out (kind_at HAT.out)
  have y0 := CkBlk.at HG6'.out (kind_at HATO.out)
  obtain ⟨ka, hka⟩ : ∃ k, k = c.kind := ⟨_, rfl⟩
  obtain ⟨kb, hkb⟩ : ∃ k, k = o.kind := ⟨_, rfl⟩
  rw [← hka] at hkc x0 HTW
  rw [← hkb] at hko y0 HTW
  clear hb6 hb6' hx6 hm hka hkb hall HG5 HG5' HB5 HN5 HE5 HK5
  go_wp2_with fail
  refine (alone_any ka hkc W6).mono ?_
  rintro e W7 ⟨rfl, rfl⟩
  cases ha : aloneK ka
  rotate_left
  · rw [ha] at HTW
    obtain ⟨rfl, rfl⟩ := HTW.out.1 rfl
    clear ha HTW
    go_wp2_with fail
    go_ret
    exact ⟨ret_bool (by simp), HB6.out⟩
  rw [ha] at HTW
  go_wp2_with fail
  refine (alone_any kb hko W6).mono ?_
  rintro e W7 ⟨rfl, rfl⟩
  cases hb : aloneK kb
  rotate_left
  · rw [hb] at HTW
    obtain ⟨rfl, rfl⟩ := HTW.out.1 rfl
    clear ha hb HTW
    go_wp2_with fail
    go_ret
    exact ⟨ret_bool (by simp), HB6.out⟩
  rw [hb] at HTW
  rcases HTW.out.2 rfl with ⟨rfl, rfl⟩ | ⟨rfl, rfl⟩
  · clear ha hb HTW
    go_wp2_with fail
    go_ret
    exact ⟨ret_bool (by simp), HB6.out⟩
  · clear ha hb HTW
    go_wp2_with fail
    go_ret
    exact ⟨ret_bool (by simp), HB6.out⟩

/-! ### The row's step -/
set_option maxRecDepth 100000 in
theorem lifted (os : Os) (started : os.Started) (H : Type) (enc : TypeId × Value → H) :
    ReturnsInHanded {} Try.checked os 9 .any (Rows.packetAloneSpec.pre6 enc Try.prog Try.f9 Rows.packetAloneRow.domain false) (Rows.packetAloneSpec.post enc Try.prog Try.f9 false true false false) := by
  refine returnsInHanded_of_change (C := Try.checked) own started (by kernel_rfl) Try.func9
    (ChangeSpec.witness6 (enc := enc) (C := Try.checked) false ⟨#[], #[.agg #[.int .u8 0, .bool false, .bool false, .bool false, .bool false, .int .u32 0, .int .u16 0, .int .u32 0, .int .u32 0, .int .u32 0, .int .u32 0, .int .u32 0, .int .u16 0, .int .u16 0, .slice none 0 0, .slice none 0 0, .slice none 0 0, .slice none 0 0, .slice none 0 0], .agg #[.int .u8 0, .bool false, .bool false, .bool false, .bool false, .int .u32 0, .int .u16 0, .int .u32 0, .int .u32 0, .int .u32 0, .int .u32 0, .int .u32 0, .int .u16 0, .int .u16 0, .slice none 0 0, .slice none 0 0, .slice none 0 0, .slice none 0 0, .slice none 0 0]], []⟩ 8 (by kernel_rfl) (by kernel_rfl) (by kernel_rfl) (by kernel_rfl)) ?_
  intro W base args ds gs before hval0 hW hcnd _
  have hval : ∀ (j : Nat) t v, Try.f9.params[j]? = some t → args[j]? = some v → Value.okWide Try.prog W .any base t v := hval0
  have hW' := hW
  obtain ⟨p, q, hA0, hV, rfl, hfz, hnd⟩ := hW
  have hA : DataW.TrodAll enc Try.prog W 0 (fun _ => true) true Try.f9.params.toList args.toList ds p := hA0
  rw [Try.params9] at hA hval
  obtain ⟨v0, vs0, d0, ds0, p0, q0, hargs, rfl, rfl, h0, r0⟩ := trodAll_cons hA
  obtain ⟨v1, vs1, d1, ds1, p1, q1, rfl, rfl, rfl, h1, r1⟩ := trodAll_cons r0
  obtain ⟨rfl, rfl, rfl⟩ := trodAll_nil r1
  obtain rfl : args = #[v0, v1] := by cases args; simp_all
  obtain ⟨rfl, rfl⟩ := trodVars_none hV
  have lt0 : ∀ x ∈ p0, x.block < W.heap.size := by obtain ⟨m, hm⟩ := h0; exact DataW.trod_lt m _ _ _ hm
  have lt1 : ∀ x ∈ p1, x.block < W.heap.size := by obtain ⟨m, hm⟩ := h1; exact DataW.trod_lt m _ _ _ hm
  clear hA0 hval0
  refine (walk v0 d0 p0 v1 d1 p1 W (hval 0 32 v0 rfl rfl) h0 (hval 1 32 v1 rfl rfl) h1).mono fun e W' ⟨he, bel⟩ => ?_
  subst he
  exact ⟨_, rfl, _, _, _, [], _, [], hW', trodAll_mk1 (shut_bool Try.underlying4 _), (trodAll_cons_mk (Below.trod laidOut (by kernel_rfl) (of_decide_eq_true (by kernel_rfl)) h0 bel lt0) (trodAll_cons_mk (Below.trod laidOut (by kernel_rfl) (of_decide_eq_true (by kernel_rfl)) h1 bel lt1) trodAll_mk0)), rfl, bel.frame _, fun h => by cases h⟩

theorem over : Rows.packetAloneRow.holds Try.pinned (OpenSpec.ofChange Rows.packetAloneSpec) :=
  OpenClaim.holds_of_wide 9 Try.f9 rfl rfl rfl rfl rfl rfl rfl ⟨rfl, rfl, rfl, rfl, rfl⟩ rfl rfl rfl rfl rfl (by kernel_rfl) Try.func9 (by kernel_rfl)
    (of_decide_eq_true (by kernel_rfl)) (by unfold Func.isWrapper; first | (rw [if_pos (by decide +kernel)]; kernel_rfl) | (rw [if_neg (by decide +kernel)]; exact ⟨rfl, rfl⟩))
    (fun os started H enc _ => lifted os started H enc)

theorem proved : Rows.PacketAloneSaid := over
#print axioms proved
end Go.Proofs.Ytpgklhecmafnbaa.packetAlone
