/-
  PROVED: FragCounts of flumelaw12 answers true for every input, and its arguments read afterwards as before. CONDITIONS: none beside the form's own.
-/
import Derived.Test.YtabkjgklmibagaaRows
import Derived.Test.YtabkjgklmibagaaFrA
import Derived.WalkKit
import Derived.ProofKit
import Derived.OpenShut
import Derived.ShutString
import Derived.ChangeOld
import Derived.Below
namespace Go.Proofs.Ytabkjgklmibagaa.fragCounts
open Go.ChangeShapes Go.WideShapes Go.ChangeAt Go.RowKit
open Go.ChangeMaps (open_string shut_string)
set_option linter.unusedVariables false
set_option linter.unusedSimpArgs false

theorem own : ownKnob Try.prog.godebug = none := by kernel_rfl
theorem laidOut : laidOutB Try.prog = true := by kernel_rfl

/-- What the walk is told of a slice of integers that came in. -/
def IsRow (k : IntKind) (w : World) (a : Option Addr) (len cap : Nat) (zs : List Int) : Prop :=
  (a = none ∧ len = 0 ∧ cap = 0 ∧ zs = []) ∨
  ∃ x, a = some x ∧ len ≤ cap ∧ cap ≤ maxLen ∧ zs.length = cap ∧ (∀ i, i < zs.length → w.cell? (x.add i) = some (.int k (zs.getD i 0))) ∧ ∀ n ∈ zs, (Lit.int k n).wf = true

/-! ### The walk -/
open Words Oct Par Chk
set_option maxHeartbeats 8000000 in
set_option maxRecDepth 100000 in
theorem walk {H : Type} {enc : TypeId × Value → H} {base : Nat} (v0 : Value) (d0 : DataW H) (p0 : List MemPlace) (a1 : Int) (w : World) (o0 : Value.okWide Try.prog w .any base 26 v0) (k0 : DataW.Trod enc Try.prog w 0 (fun _ => true) true 26 v0 d0 p0) (w1 : (Lit.int .i64 a1).wf = true) :
    Calls Try.prog 5 #[v0, .int .i64 a1] w fun e w' => e = .returned (.bool true) ∧ Below w.heap.size w w' := by
  have hA := bounds_i64 w1
  obtain ⟨cs, rfl, hsz⟩ := okWide_struct Try.underlying26 o0
  have hsee : Sees w MsgSh cs.toList := sees_of (sh := MsgSh) rfl msgSh_fits k0
  obtain ⟨⟨mst, mlo, mmid, mpp, l⟩, A, cp, rfl, ok, hnc, hcm, hby⟩ := msg_of hsee
  simp only at hnc hby
  obtain ⟨m, hm⟩ : ∃ m, m = Msg.mk mst mlo mmid mpp l := ⟨_, rfl⟩
  obtain ⟨n, hn⟩ : ∃ n, n = l.length := ⟨_, rfl⟩
  rw [← hn] at hnc
  have st1 : mst < 65536 := ok.st
  have mid1 : mmid < 4294967296 := ok.mid
  have pp1 : mpp < 4294967296 := ok.pp
  have HN : Hid (n = m.body.length) := by rw [hm]; exact hn
  have HOK : Hid m.ok := by rw [hm]; exact ok
  have HBY : Hid (Byt w w.heap.size A m.body) := by rw [hm]; exact hby
  have HST : Hid (m.st = mst ∧ m.lo = mlo ∧ m.mid = mmid ∧ m.pp = mpp) := by rw [hm]; exact ⟨rfl, rfl, rfl, rfl⟩
  have HC : Hid (∀ {W : World}, Below w.heap.size w W → ∀ {most : Int} {inter : Bool}, (-9223372036854775808 ≤ most ∧ most ≤ 9223372036854775807) → Calls Try.prog 8 #[.agg #[.int .u16 (mst : Int), .bool mlo, .int .u32 (mmid : Int), .int .u32 (mpp : Int), .slice A n cp], .int .i64 most, .bool inter] W (CutDone W m most inter)) := fun {W} hb {most inter} hmost => by
    have := cut_c (w := W) (c := cp) HOK.out HN.out hnc hcm ((HBY.out.below hb).more hb.size) hmost (inter := inter)
    rw [hm] at this ⊢
    exact this
  simp only [mCells, ← hn]
  clear hsz hsee o0 k0 ok hby hn hm w1
  obtain ⟨k0, hk0, hkb⟩ := u64rem a1 1168 (by omega) (by omega)
  go_enter Try.func5, Try.ntmps5
  go_upto_region 1 with (fail)
  obtain ⟨W1, hW1⟩ : ∃ W1, W1 = w.alloc (.cells #[.int .u16 (mst : Int), .bool mlo, .int .u32 (mmid : Int), .int .u32 (mpp : Int), .slice A n cp] 26) := ⟨_, rfl⟩
  obtain ⟨gm, hgm⟩ : ∃ gm, gm = w.heap.size := ⟨_, rfl⟩
  have HB1 : Hid (Below w.heap.size w W1) := by rw [hW1]; exact (Below.refl _ _).alloc (Nat.le_refl _) _
  have HM1 : Hid (Blk W1 gm 26 #[.int .u16 (mst : Int), .bool mlo, .int .u32 (mmid : Int), .int .u32 (mpp : Int), .slice A n cp]) := by rw [hW1, hgm]; exact Blk.new _ _ _
  rw [← hW1, ← hgm]
  clear hW1
  have HGM := Lib.hid hgm
  clear hgm
  go_wp2_with fail
  refine (first_f cut_c room_c W1).mono ?_
  rintro e W2 ⟨rfl, hb2⟩
  have HB2 := Lib.hid (HB1.out.trans (hb2.mono HB1.out.size))
  have HM2 := Lib.hid (blk_below HM1.out hb2 HM1.out.lt)
  have b4 : W2.cell? ⟨gm, 4, none⟩ = some (.slice A n cp) := HM2.out.cell 4
  clear hb2 HM1 HB1
  go_upto_region 4 with (fail)
  obtain ⟨K, hK⟩ : ∃ K : Nat, K = k0 + 1 := ⟨_, rfl⟩
  rw [show (1 : Int) + (k0 : Int) = (K : Int) by omega]
  have hK1 : 1 ≤ K := by omega
  have hK2 : K ≤ 1168 := by omega
  clear hK hkb hk0
  have hcutE : Hid (cutE m (K : Int) true = if n = 0 then 42 else if 65536 < n then 43 else 0) := by
    show cutE m (K : Int) true = _
    unfold cutE
    rw [if_neg (by show ¬ ((K : Int) < 1 ∨ (1168 : Int) < (K : Int)); omega), ← HN.out]
  by_cases h7 : (70000 : Int) < (n : Int)
  · go_wp2_with fail
    go_ret
    exact ⟨rfl, HB2.out⟩
  have hn7 : n ≤ 70000 := by omega
  obtain ⟨q, hq⟩ : ∃ q, q = n / K := ⟨_, rfl⟩
  have hq1 : q ≤ n := by rw [hq]; exact Nat.div_le_self _ _
  have hw : wrap64 ((n : Int) / (K : Int)) = (q : Int) := by
    rw [← Int.natCast_ediv, ← hq]
    exact IntWalk.wrap64_in _ ⟨by omega, by omega⟩
  have HQ := Lib.hid hq
  clear hq hq1
  by_cases h3 : (3000 : Int) < (q : Int)
  · go_wp2_with fail
    go_ret
    exact ⟨rfl, HB2.out⟩
  go_upto_region 6 with (fail)
  have b0 : W2.cell? ⟨gm, 0, none⟩ = some (.int .u16 (mst : Int)) := HM2.out.cell 0
  have b1 : W2.cell? ⟨gm, 1, none⟩ = some (.bool mlo) := HM2.out.cell 1
  have b2 : W2.cell? ⟨gm, 2, none⟩ = some (.int .u32 (mmid : Int)) := HM2.out.cell 2
  have b3 : W2.cell? ⟨gm, 3, none⟩ = some (.int .u32 (mpp : Int)) := HM2.out.cell 3
  go_wp2_with fail
  refine (HC.out HB2.out (most := (K : Int)) (inter := true) (by omega)).mono ?_
  rintro e W3 ⟨A3, n3, c3, rfl, h3a, h3b, HN3, HO3, hb3⟩
  rw [hcutE.out] at HN3 HO3 ⊢
  have HM3 : Hid (Blk W3 gm 26 #[.int .u16 (mst : Int), .bool mlo, .int .u32 (mmid : Int), .int .u32 (mpp : Int), .slice A n cp]) := blk_below HM2.out hb3.out HM2.out.lt
  have HB3 := Lib.hid (HB2.out.trans (hb3.out.mono HB2.out.size))
  have b4' : W3.cell? ⟨gm, 4, none⟩ = some (.slice A n cp) := HM3.out.cell 4
  have HS3 : Hid (W2.heap.size ≤ W3.heap.size) := hb3.out.size
  have HG2 : Hid (gm < W2.heap.size) := HM2.out.lt
  clear b0 b1 b2 b3 b4 HM2 HC hb3
  by_cases h0 : n = 0
  · rw [if_pos h0] at HN3 ⊢
    have hn3 : n3 = 0 := by rw [HN3.out, if_neg (by decide)]
    subst hn3
    have h0' : ((n : Int) == 0) = true := by simp; omega
    go_wp2_with fail
    go_ret
    exact ⟨rfl, HB3.out⟩
  rw [if_neg h0] at HN3 HO3 ⊢
  by_cases h6 : 65536 < n
  · rw [if_pos h6] at HN3 ⊢
    have hn3 : n3 = 0 := by rw [HN3.out, if_neg (by decide)]
    subst hn3
    have h0' : ((n : Int) == 0) = false := by simp; omega
    have h6' : (65536 : Int) < (n : Int) := by omega
    go_wp2_with fail
    go_ret
    exact ⟨rfl, HB3.out⟩
  rw [if_neg h6] at HN3 HO3 ⊢
  rw [if_pos rfl] at HN3 HO3
  rw [Int.toNat_natCast] at HN3 HO3
  rw [← HN.out] at HN3
  have hnp : n3 ≤ n := by rw [HN3.out]; exact np_le hK1
  have HCK : Hid (Cks W3 W3.heap.size A3 (cutF m K true)) := HO3.out.cks
  have HLEN : Hid (n3 = (cutF m K true).length) := by show n3 = _; unfold cutF; rw [cutN_length, ← HN.out]; exact HN3.out
  go_wp2_with fail
  go_loopw [54] (fun i wr => ∃ k : Nat, k ≤ n3 ∧ i = .int .i64 k ∧ Hid (Below W3.heap.size W3 wr)) (fun i _ => n3 - (intOf i).toNat)
  case atStart => exact ⟨0, Nat.zero_le _, rfl, Below.refl _ _⟩
  case round =>
    obtain ⟨k, hk, rfl, HW⟩ := hrel
    by_cases hlt : k < n3
    · have hk2 : k < (cutF m K true).length := by rw [← HLEN.out]; exact hlt
      obtain ⟨ad, cs, rfl, hblk, hsz, hat, hcell⟩ := HCK.out.nthw (Nat.le_refl _) HW.out hk2
      obtain ⟨ck, hck⟩ : ∃ ck, ck = (cutF m K true)[k] := ⟨_, rfl⟩
      have hpk : ck = pieceF m K true k := by rw [hck]; exact cutF_get hk2
      rw [← hck, hpk] at hat
      have HSZ := Lib.hid hsz
      have HCELL := Lib.hid hcell
      have HONE := Lib.hid hat.one
      obtain ⟨_, _, _, _, _, hcells, _⟩ := hat.parts
      obtain ⟨s1, s2, s3, s4⟩ := HST.out
      have e9 : cs[9]? = some (.int .u32 (k : Int)) := hcells.c9
      have e7 : cs[7]? = some (.int .u32 (mmid : Int)) := by rw [← s3]; exact hcells.c7
      have e6 : cs[6]? = some (.int .u16 (mst : Int)) := by rw [← s1]; exact hcells.c6
      have e8 : cs[8]? = some (.int .u32 (mpp : Int)) := by rw [← s4]; exact hcells.c8
      have e3 : cs[3]? = some (.bool mlo) := by rw [← s2]; exact hcells.c3
      have e5 : cs[5]? = some (.int .u32 0) := hcells.c5
      have hkm : (k : Int) % 4294967296 = (k : Int) := by omega
      clear hsz hat hcell hck hblk hcells hpk s1 s2 s3 s4
      go_upto_region 12 with (first
        | (refine wpList_load_any rfl 42 _ rfl (ad.add (k * 19)) rfl cs _ HCELL.out Try.underlying42 rfl (by rw [HSZ.out]; exact chunk_info) ?_)
        | (refine wpList_store_row rfl 42 _ _ rfl wr.heap.size cs rfl rfl 42 _ (Blk.new wr 42 _) (by rw [HSZ.out]; exact chunk_info) (by rw [HSZ.out]; rfl) HONE.out ?_))
      obtain ⟨W4, hW4, HC4, HB4⟩ := kept_var wr cs
      obtain ⟨g0, hg0⟩ : ∃ g0, g0 = wr.heap.size := ⟨_, rfl⟩
      rw [← hg0] at HC4
      rw [← hW4, ← hg0]
      have HW4 := Lib.hid (HW.out.trans (HB4.mono HW.out.size))
      have f9 := CkBlk.at HC4 e9
      have f7 := CkBlk.at HC4 e7
      have f6 := CkBlk.at HC4 e6
      have f8 := CkBlk.at HC4 e8
      have f3 := CkBlk.at HC4 e3
      have f5 := CkBlk.at HC4 e5
      have HM4 := Lib.hid (blk_below HM3.out HW4.out (Nat.lt_of_lt_of_le HG2.out HS3.out))
      have b0 : W4.cell? ⟨gm, 0, none⟩ = some (.int .u16 (mst : Int)) := HM4.out.cell 0
      have b1 : W4.cell? ⟨gm, 1, none⟩ = some (.bool mlo) := HM4.out.cell 1
      have b2 : W4.cell? ⟨gm, 2, none⟩ = some (.int .u32 (mmid : Int)) := HM4.out.cell 2
      have b3 : W4.cell? ⟨gm, 3, none⟩ = some (.int .u32 (mpp : Int)) := HM4.out.cell 3
      clear hW4 hg0 HC4 HB4 HCELL HSZ HONE e9 e7 e6 e8 e3 e5 HM4 b4'
      go_wp2_with fail
      go_roundw
      case rel => exact ⟨k + 1, by omega, by go_num, HW4⟩
      case measure => simp [intOf]; omega
    · obtain rfl : k = n3 := by omega
      have b4'' : wr.cell? ⟨gm, 4, none⟩ = some (.slice A n cp) := (blk_below HM3.out HW.out (Nat.lt_of_lt_of_le HG2.out HS3.out)).cell 4
      go_wp2_with fail
      go_ret
      refine ⟨?_, HB3.out.trans (HW.out.mono HB3.out.size)⟩
      show Ending.returned (.bool ((k : Int) == ((n : Int) + (K : Int) - 1) / (K : Int))) = _
      rw [← np_int hK1, ← HN3.out]
      simp

/-! ### The row's step -/
set_option maxRecDepth 100000 in
theorem lifted (os : Os) (started : os.Started) (H : Type) (enc : TypeId × Value → H) :
    ReturnsInHanded {} Try.checked os 5 .any (Rows.fragCountsSpec.pre6 enc Try.prog Try.f5 Rows.fragCountsRow.domain false) (Rows.fragCountsSpec.post enc Try.prog Try.f5 false true false false) := by
  refine returnsInHanded_of_change (C := Try.checked) own started (by kernel_rfl) Try.func5
    (ChangeSpec.witness6 (enc := enc) (C := Try.checked) false ⟨#[], #[.agg #[.int .u16 0, .bool false, .int .u32 0, .int .u32 0, .slice none 0 0], .int .i64 0], []⟩ 8 (by kernel_rfl) (by kernel_rfl) (by kernel_rfl) (by kernel_rfl)) ?_
  intro W base args ds gs before hval0 hW hcnd _
  have hval : ∀ (j : Nat) t v, Try.f5.params[j]? = some t → args[j]? = some v → Value.okWide Try.prog W .any base t v := hval0
  have hW' := hW
  obtain ⟨p, q, hA0, hV, rfl, hfz, hnd⟩ := hW
  have hA : DataW.TrodAll enc Try.prog W 0 (fun _ => true) true Try.f5.params.toList args.toList ds p := hA0
  rw [Try.params5] at hA hval
  obtain ⟨v0, vs0, d0, ds0, p0, q0, hargs, rfl, rfl, h0, r0⟩ := trodAll_cons hA
  obtain ⟨v1, vs1, d1, ds1, p1, q1, rfl, rfl, rfl, h1, r1⟩ := trodAll_cons r0
  obtain ⟨rfl, rfl, rfl⟩ := trodAll_nil r1
  obtain rfl : args = #[v0, v1] := by cases args; simp_all
  obtain ⟨rfl, rfl⟩ := trodVars_none hV
  have lt0 : ∀ x ∈ p0, x.block < W.heap.size := by obtain ⟨m, hm⟩ := h0; exact DataW.trod_lt m _ _ _ hm
  obtain ⟨a1, rfl, rfl, rfl, w1⟩ := open_int Try.underlying3 (hval 1 3 v1 rfl rfl) h1
  clear hA0 hval0
  refine (walk v0 d0 p0 a1 W (hval 0 26 v0 rfl rfl) h0 w1).mono fun e W' ⟨he, bel⟩ => ?_
  subst he
  exact ⟨_, rfl, _, _, _, [], _, [], hW', trodAll_mk1 (shut_bool Try.underlying4 _), (trodAll_cons_mk (Below.trod laidOut (by kernel_rfl) (of_decide_eq_true (by kernel_rfl)) h0 bel lt0) (trodAll_cons_mk (shut_int Try.underlying3 w1) trodAll_mk0)), rfl, bel.frame _, fun h => by cases h⟩

theorem over : Rows.fragCountsRow.holds Try.pinned (OpenSpec.ofChange Rows.fragCountsSpec) :=
  OpenClaim.holds_of_wide 5 Try.f5 rfl rfl rfl rfl rfl rfl rfl ⟨rfl, rfl, rfl, rfl, rfl⟩ rfl rfl rfl rfl rfl (by kernel_rfl) Try.func5 (by kernel_rfl)
    (of_decide_eq_true (by kernel_rfl)) (by unfold Func.isWrapper; first | (rw [if_pos (by decide +kernel)]; kernel_rfl) | (rw [if_neg (by decide +kernel)]; exact ⟨rfl, rfl⟩))
    (fun os started H enc _ => lifted os started H enc)

theorem proved : Rows.FragCountsSaid := over
#print axioms proved
end Go.Proofs.Ytabkjgklmibagaa.fragCounts
