/-
  PROVED: FragAlike of flumelaw12 answers true for every input, and its arguments read afterwards as before. CONDITIONS: none beside the form's own.
-/
import Derived.Test.YtabkjgklmibagaaRows
import Derived.Test.YtabkjgklmibagaaFrA
import Derived.WalkKit
import Derived.ProofKit
import Derived.OpenShut
import Derived.ShutString
import Derived.ChangeOld
import Derived.Below
namespace Go.Proofs.Ytabkjgklmibagaa.fragAlike
open Go.ChangeShapes Go.WideShapes Go.ChangeAt Go.RowKit
open Go.ChangeMaps (open_string shut_string)
set_option linter.unusedVariables false
set_option linter.unusedSimpArgs false

theorem own : ownKnob Try.prog.godebug = none := by kernel_rfl
theorem laidOut : laidOutB Try.prog = true := by kernel_rfl

/-- What the walk is told of a slice of integers that came in. -/
def IsRow (k : IntKind) (w : World) (a : Option Addr) (len cap : Nat) (zs : List Int) : Prop :=
  (a = none ∧ len = 0 ∧ cap = 0 ∧ zs = []) ∨
  ∃ x, a = some x ∧ len ≤ cap ∧ cap ≤ maxLen ∧ zs.length = cap ∧ (∀ i, i < zs.length → w.cell? (x.add i) = some (.int k (zs.getD i 0))) ∧ ∀ n ∈ zs, (Lit.int k n).wf = true

/-! ### The walk -/
open Words Oct Par Chk
set_option maxHeartbeats 8000000 in
set_option maxRecDepth 100000 in
theorem walk {H : Type} {enc : TypeId × Value → H} {base : Nat} (v0 : Value) (d0 : DataW H) (p0 : List MemPlace) (a1 : Int) (w : World) (o0 : Value.okWide Try.prog w .any base 26 v0) (k0 : DataW.Trod enc Try.prog w 0 (fun _ => true) true 26 v0 d0 p0) (w1 : (Lit.int .i64 a1).wf = true) :
    Calls Try.prog 6 #[v0, .int .i64 a1] w fun e w' => e = .returned (.bool true) ∧ Below w.heap.size w w' := by
  have hA := bounds_i64 w1
  obtain ⟨cs, rfl, hsz⟩ := okWide_struct Try.underlying26 o0
  have hsee : Sees w MsgSh cs.toList := sees_of (sh := MsgSh) rfl msgSh_fits k0
  obtain ⟨⟨mst, mlo, mmid, mpp, l⟩, A, cp, rfl, ok, hnc, hcm, hby⟩ := msg_of hsee
  simp only at hnc hby
  obtain ⟨m, hm⟩ : ∃ m, m = Msg.mk mst mlo mmid mpp l := ⟨_, rfl⟩
  obtain ⟨n, hn⟩ : ∃ n, n = l.length := ⟨_, rfl⟩
  rw [← hn] at hnc
  have st1 : mst < 65536 := ok.st
  have mid1 : mmid < 4294967296 := ok.mid
  have pp1 : mpp < 4294967296 := ok.pp
  have HN : Hid (n = m.body.length) := by rw [hm]; exact hn
  have HOK : Hid m.ok := by rw [hm]; exact ok
  have HBY : Hid (Byt w w.heap.size A m.body) := by rw [hm]; exact hby
  have HST : Hid (m.st = mst ∧ m.lo = mlo ∧ m.mid = mmid ∧ m.pp = mpp) := by rw [hm]; exact ⟨rfl, rfl, rfl, rfl⟩
  have HC : Hid (∀ {W : World}, Below w.heap.size w W → ∀ {most : Int} {inter : Bool}, (-9223372036854775808 ≤ most ∧ most ≤ 9223372036854775807) → Calls Try.prog 8 #[.agg #[.int .u16 (mst : Int), .bool mlo, .int .u32 (mmid : Int), .int .u32 (mpp : Int), .slice A n cp], .int .i64 most, .bool inter] W (CutDone W m most inter)) := fun {W} hb {most inter} hmost => by
    have := cut_c (w := W) (c := cp) HOK.out HN.out hnc hcm ((HBY.out.below hb).more hb.size) hmost (inter := inter)
    rw [hm] at this ⊢
    exact this
  simp only [mCells, ← hn]
  clear hsz hsee o0 k0 ok hby hn hm w1
  obtain ⟨k0, hk0, hkb⟩ := u64rem a1 1168 (by omega) (by omega)
  go_enter Try.func6, Try.ntmps6
  go_upto_region 1 with (fail)
  obtain ⟨W1, hW1⟩ : ∃ W1, W1 = w.alloc (.cells #[.int .u16 (mst : Int), .bool mlo, .int .u32 (mmid : Int), .int .u32 (mpp : Int), .slice A n cp] 26) := ⟨_, rfl⟩
  obtain ⟨gm, hgm⟩ : ∃ gm, gm = w.heap.size := ⟨_, rfl⟩
  have HB1 : Hid (Below w.heap.size w W1) := by rw [hW1]; exact (Below.refl _ _).alloc (Nat.le_refl _) _
  have HM1 : Hid (Blk W1 gm 26 #[.int .u16 (mst : Int), .bool mlo, .int .u32 (mmid : Int), .int .u32 (mpp : Int), .slice A n cp]) := by rw [hW1, hgm]; exact Blk.new _ _ _
  rw [← hW1, ← hgm]
  clear hW1
  have HGM := Lib.hid hgm
  clear hgm
  go_wp2_with fail
  refine (first_f cut_c room_c W1).mono ?_
  rintro e W2 ⟨rfl, hb2⟩
  have HB2 := Lib.hid (HB1.out.trans (hb2.mono HB1.out.size))
  have HM2 := Lib.hid (blk_below HM1.out hb2 HM1.out.lt)
  have b4 : W2.cell? ⟨gm, 4, none⟩ = some (.slice A n cp) := HM2.out.cell 4
  clear hb2 HM1 HB1
  go_upto_region 4 with (fail)
  obtain ⟨K, hK⟩ : ∃ K : Nat, K = k0 + 1 := ⟨_, rfl⟩
  rw [show (1 : Int) + (k0 : Int) = (K : Int) by omega]
  have hK1 : 1 ≤ K := by omega
  have hK2 : K ≤ 1168 := by omega
  clear hK hkb hk0
  obtain ⟨E, hE⟩ : ∃ E, E = if n = 0 then 42 else if 65536 < n then 43 else 0 := ⟨_, rfl⟩
  have hE1 : Hid (cutE m (K : Int) true = E) := by
    show cutE m (K : Int) true = _
    unfold cutE
    rw [if_neg (by show ¬ ((K : Int) < 1 ∨ (1168 : Int) < (K : Int)); omega), ← HN.out, hE]
  have hE2 : Hid (cutE m (K : Int) false = E) := by
    show cutE m (K : Int) false = _
    unfold cutE
    rw [if_neg (by show ¬ ((K : Int) < 1 ∨ (1172 : Int) < (K : Int)); omega), ← HN.out, hE]
  clear hE
  by_cases h7 : (70000 : Int) < (n : Int)
  · go_wp2_with fail
    go_ret
    exact ⟨rfl, HB2.out⟩
  have hn7 : n ≤ 70000 := by omega
  obtain ⟨q, hq⟩ : ∃ q, q = n / K := ⟨_, rfl⟩
  have hq1 : q ≤ n := by rw [hq]; exact Nat.div_le_self _ _
  have hw : wrap64 ((n : Int) / (K : Int)) = (q : Int) := by
    rw [← Int.natCast_ediv, ← hq]
    exact IntWalk.wrap64_in _ ⟨by omega, by omega⟩
  have HQ := Lib.hid hq
  clear hq hq1
  by_cases h3 : (3000 : Int) < (q : Int)
  · go_wp2_with fail
    go_ret
    exact ⟨rfl, HB2.out⟩
  go_upto_region 6 with (fail)
  have b0 : W2.cell? ⟨gm, 0, none⟩ = some (.int .u16 (mst : Int)) := HM2.out.cell 0
  have b1 : W2.cell? ⟨gm, 1, none⟩ = some (.bool mlo) := HM2.out.cell 1
  have b2 : W2.cell? ⟨gm, 2, none⟩ = some (.int .u32 (mmid : Int)) := HM2.out.cell 2
  have b3 : W2.cell? ⟨gm, 3, none⟩ = some (.int .u32 (mpp : Int)) := HM2.out.cell 3
  go_wp2_with fail
  refine (HC.out HB2.out (most := (K : Int)) (inter := true) (by omega)).mono ?_
  rintro e W3 ⟨A3, n3, c3, rfl, h3a, h3b, HN3, HO3, hb3⟩
  rw [hE1.out] at HN3 HO3 ⊢
  have HM3 : Hid (Blk W3 gm 26 #[.int .u16 (mst : Int), .bool mlo, .int .u32 (mmid : Int), .int .u32 (mpp : Int), .slice A n cp]) := blk_below HM2.out hb3.out HM2.out.lt
  have HB3 := Lib.hid (HB2.out.trans (hb3.out.mono HB2.out.size))
  have b0' : W3.cell? ⟨gm, 0, none⟩ = some (.int .u16 (mst : Int)) := HM3.out.cell 0
  have b1' : W3.cell? ⟨gm, 1, none⟩ = some (.bool mlo) := HM3.out.cell 1
  have b2' : W3.cell? ⟨gm, 2, none⟩ = some (.int .u32 (mmid : Int)) := HM3.out.cell 2
  have b3' : W3.cell? ⟨gm, 3, none⟩ = some (.int .u32 (mpp : Int)) := HM3.out.cell 3
  have b4' : W3.cell? ⟨gm, 4, none⟩ = some (.slice A n cp) := HM3.out.cell 4
  clear b0 b1 b2 b3 b4 HM2 hb3
  go_wp2_with fail
  refine (HC.out HB3.out (most := (K : Int)) (inter := false) (by omega)).mono ?_
  rintro e W4 ⟨A4, n4, c4, rfl, h4a, h4b, HN4, HO4, hb4⟩
  rw [hE2.out] at HN4 HO4 ⊢
  have HO3' := Lib.hid (HO3.out.grows hb4.out)
  have HB4 := Lib.hid (HB3.out.trans (hb4.out.mono HB3.out.size))
  clear b0' b1' b2' b3' b4' HM3 HC HO3 hb4 HB3
  rw [Int.toNat_natCast] at HN3 HO3' HN4 HO4
  rw [← HN.out] at HN3 HN4
  obtain rfl : n4 = n3 := by rw [HN4.out, HN3.out]
  clear HN4
  have hnn : n4 ≤ n := by
    rw [HN3.out]
    split
    · exact np_le hK1
    · omega
  go_wp2_with fail
  go_loopw [54] (fun i wr => ∃ k : Nat, k ≤ n4 ∧ i = .int .i64 k ∧ Hid (Below W4.heap.size W4 wr)) (fun i _ => n4 - (intOf i).toNat)
  case atStart => exact ⟨0, Nat.zero_le _, rfl, Below.refl _ _⟩
  case round =>
    obtain ⟨k, hk, rfl, HW⟩ := hrel
    by_cases hlt : k < n4
    · have hE0 : E = 0 := by
        rcases Nat.eq_zero_or_pos E with h | h
        · exact h
        · have := HN3.out
          rw [if_neg (by omega)] at this
          omega
      have HP := HN3.out
      rw [if_pos hE0] at HP
      have HA0 := HO3'.out
      have HB0 := HO4.out
      rw [if_pos hE0] at HA0 HB0
      have hkn : k < np m.body.length K := by rw [← HN.out, ← HP]; exact hlt
      obtain ⟨ga, rfl, _, hga, hca⟩ := HA0.cells (by unfold cutF; rw [cutN_length]; omega)
      obtain ⟨gb, rfl, _, hgb, hcb⟩ := HB0.cells (by unfold cutF; rw [cutN_length]; omega)
      obtain ⟨ca, hca, ka⟩ := hca k _ (cutN_at m K true hkn)
      obtain ⟨cb, hcb, kb⟩ := hcb k _ (cutN_at m K false hkn)
      obtain ⟨_, _, _, _, ba, pa, la⟩ := hca.parts
      obtain ⟨_, _, _, _, bb, pb, lb⟩ := hcb.parts
      have kp : ∀ {q : Addr} {u : Value}, W4.cell? q = some u → wr.cell? q = some u := fun {q u} h => (HW.out.cell (World.block_lt_of_cell? W4 _ h)).trans h
      obtain ⟨x, hx⟩ : ∃ x, x = (pieceF m K true k).body := ⟨_, rfl⟩
      obtain ⟨nx, hnx⟩ : ∃ nx, nx = x.length := ⟨_, rfl⟩
      have hxb : (pieceF m K false k).body = x := by rw [hx]; rfl
      have xa18 : wr.cell? ⟨ga, k * 19 + 18, none⟩ = some (.slice ba.A nx ba.cap) := by rw [hnx, hx]; exact kp (ka 18 _ pa.c18)
      have xb18 : wr.cell? ⟨gb, k * 19 + 18, none⟩ = some (.slice bb.A nx bb.cap) := by rw [hnx, ← hxb]; exact kp (kb 18 _ pb.c18)
      have sa := fun q => run_str (P := Try.prog) ((la.body.below HW.out).drewN q) 24 9 5 Try.underlying24 Try.underlying5 Try.underlying9 nx ba.cap (by rw [hnx, hx])
      have sb := fun q => run_str (P := Try.prog) ((lb.body.below HW.out).drewN q) 24 9 5 Try.underlying24 Try.underlying5 Try.underlying9 nx bb.cap (by rw [hnx, hxb])
      simp only [← hx] at sa
      simp only [hxb] at sb
      obtain ⟨sx, hsx⟩ : ∃ sx : ByteArray, sx = ⟨x.toArray⟩ := ⟨_, rfl⟩
      simp only [← hsx] at sa sb
      obtain ⟨s1, s2, s3, s4⟩ := HST.out
      have xa1 : wr.cell? ⟨ga, k * 19 + 1, none⟩ = some (.bool (decide (k = 0))) := kp (ka 1 _ pa.c1)
      have xb1 : wr.cell? ⟨gb, k * 19 + 1, none⟩ = some (.bool (decide (k = 0))) := kp (kb 1 _ pb.c1)
      have xa2 : wr.cell? ⟨ga, k * 19 + 2, none⟩ = some (.bool (decide (m.body.length ≤ (k + 1) * K))) := kp (ka 2 _ pa.c2)
      have xb2 : wr.cell? ⟨gb, k * 19 + 2, none⟩ = some (.bool (decide (m.body.length ≤ (k + 1) * K))) := kp (kb 2 _ pb.c2)
      have xa0 : wr.cell? ⟨ga, k * 19, none⟩ = some (.int .u8 64) := kp (ka 0 _ pa.c0)
      have xb0 : wr.cell? ⟨gb, k * 19, none⟩ = some (.int .u8 0) := kp (kb 0 _ pb.c0)
      have xa7 : wr.cell? ⟨ga, k * 19 + 7, none⟩ = some (.int .u32 (mmid : Int)) := by rw [← s3]; exact kp (ka 7 _ pa.c7)
      have xb7 : wr.cell? ⟨gb, k * 19 + 7, none⟩ = some (.int .u32 ((mmid % 65536 : Nat) : Int)) := by rw [← s3]; exact kp (kb 7 _ pb.c7)
      generalize decide (k = 0) = v1 at xa1 xb1
      generalize decide (m.body.length ≤ (k + 1) * K) = v2 at xa2 xb2
      obtain ⟨m16, hm16⟩ : ∃ m16, m16 = mmid % 65536 := ⟨_, rfl⟩
      rw [← hm16] at xb7
      have hm1 : (mmid : Int) % 65536 = (m16 : Int) := by omega
      have hm2 : (m16 : Int) % 65536 = (m16 : Int) := by omega
      have hm3 : m16 < 65536 := by omega
      have hu1 : IntKind.u16.wrap (mmid : Int) = (m16 : Int) := by simp [IntKind.wrap, IntKind.bits, IntKind.signed]; omega
      have hu2 : IntKind.u16.wrap (m16 : Int) = (m16 : Int) := by simp [IntKind.wrap, IntKind.bits, IntKind.signed]; omega
      clear kp ka kb pa pb la lb hca hcb HA0 HB0 HP hx hnx hxb hsx s1 s2 s3 s4 hm16 hE0 hkn
      go_upto_region 13 with (fail)
      go_cut [134] from 57 to 133 (fun u wx => u = .bool false ∧ Hid (Below W4.heap.size W4 wx))
      case first =>
        go_quiet (fail)
        go_wp2_with fail
        go_meet
        exact ⟨congrArg Value.bool (decide_eq_false (by omega)), below_drewN HW.out _⟩
      case rest =>
        obtain ⟨rfl, HW5⟩ := hcut
        go_wp2_with fail
        go_roundw
        case rel => exact ⟨k + 1, by omega, by go_num, HW5⟩
        case measure => simp [intOf]; omega
    · obtain rfl : k = n4 := by omega
      have HR1 := Lib.hid (room_c wr false)
      have HR2 := Lib.hid (room_c wr true)
      go_wp2_with fail
      refine HR1.out.mono ?_
      rintro e W5 ⟨rfl, rfl⟩
      go_wp2_with fail
      refine HR2.out.mono ?_
      rintro e W5 ⟨rfl, rfl⟩
      rw [show roomF false = 1172 from rfl, show roomF true = 1168 from rfl]
      go_wp2_with fail
      go_ret
      exact ⟨rfl, HB4.out.trans (HW.out.mono HB4.out.size)⟩

/-! ### The row's step -/
set_option maxRecDepth 100000 in
theorem lifted (os : Os) (started : os.Started) (H : Type) (enc : TypeId × Value → H) :
    ReturnsInHanded {} Try.checked os 6 .any (Rows.fragAlikeSpec.pre6 enc Try.prog Try.f6 Rows.fragAlikeRow.domain false) (Rows.fragAlikeSpec.post enc Try.prog Try.f6 false true false false) := by
  refine returnsInHanded_of_change (C := Try.checked) own started (by kernel_rfl) Try.func6
    (ChangeSpec.witness6 (enc := enc) (C := Try.checked) false ⟨#[], #[.agg #[.int .u16 0, .bool false, .int .u32 0, .int .u32 0, .slice none 0 0], .int .i64 0], []⟩ 8 (by kernel_rfl) (by kernel_rfl) (by kernel_rfl) (by kernel_rfl)) ?_
  intro W base args ds gs before hval0 hW hcnd _
  have hval : ∀ (j : Nat) t v, Try.f6.params[j]? = some t → args[j]? = some v → Value.okWide Try.prog W .any base t v := hval0
  have hW' := hW
  obtain ⟨p, q, hA0, hV, rfl, hfz, hnd⟩ := hW
  have hA : DataW.TrodAll enc Try.prog W 0 (fun _ => true) true Try.f6.params.toList args.toList ds p := hA0
  rw [Try.params6] at hA hval
  obtain ⟨v0, vs0, d0, ds0, p0, q0, hargs, rfl, rfl, h0, r0⟩ := trodAll_cons hA
  obtain ⟨v1, vs1, d1, ds1, p1, q1, rfl, rfl, rfl, h1, r1⟩ := trodAll_cons r0
  obtain ⟨rfl, rfl, rfl⟩ := trodAll_nil r1
  obtain rfl : args = #[v0, v1] := by cases args; simp_all
  obtain ⟨rfl, rfl⟩ := trodVars_none hV
  have lt0 : ∀ x ∈ p0, x.block < W.heap.size := by obtain ⟨m, hm⟩ := h0; exact DataW.trod_lt m _ _ _ hm
  obtain ⟨a1, rfl, rfl, rfl, w1⟩ := open_int Try.underlying3 (hval 1 3 v1 rfl rfl) h1
  clear hA0 hval0
  refine (walk v0 d0 p0 a1 W (hval 0 26 v0 rfl rfl) h0 w1).mono fun e W' ⟨he, bel⟩ => ?_
  subst he
  exact ⟨_, rfl, _, _, _, [], _, [], hW', trodAll_mk1 (shut_bool Try.underlying4 _), (trodAll_cons_mk (Below.trod laidOut (by kernel_rfl) (of_decide_eq_true (by kernel_rfl)) h0 bel lt0) (trodAll_cons_mk (shut_int Try.underlying3 w1) trodAll_mk0)), rfl, bel.frame _, fun h => by cases h⟩

theorem over : Rows.fragAlikeRow.holds Try.pinned (OpenSpec.ofChange Rows.fragAlikeSpec) :=
  OpenClaim.holds_of_wide 6 Try.f6 rfl rfl rfl rfl rfl rfl rfl ⟨rfl, rfl, rfl, rfl, rfl⟩ rfl rfl rfl rfl rfl (by kernel_rfl) Try.func6 (by kernel_rfl)
    (of_decide_eq_true (by kernel_rfl)) (by unfold Func.isWrapper; first | (rw [if_pos (by decide +kernel)]; kernel_rfl) | (rw [if_neg (by decide +kernel)]; exact ⟨rfl, rfl⟩))
    (fun os started H enc _ => lifted os started H enc)

theorem proved : Rows.FragAlikeSaid := over
#print axioms proved
end Go.Proofs.Ytabkjgklmibagaa.fragAlike
