/-
  PROVED: FragCuts of flumelaw12 answers true for every input, and its arguments read afterwards as before. CONDITIONS: none beside the form's own.
-/
import Derived.Test.YtabkjgklmibagaaRows
import Derived.Test.YtabkjgklmibagaaFrA
import Derived.WalkKit
import Derived.ProofKit
import Derived.OpenShut
import Derived.ShutString
import Derived.ChangeOld
import Derived.Below
namespace Go.Proofs.Ytabkjgklmibagaa.fragCuts
open Go.ChangeShapes Go.WideShapes Go.ChangeAt Go.RowKit
open Go.ChangeMaps (open_string shut_string)
set_option linter.unusedVariables false
set_option linter.unusedSimpArgs false

theorem own : ownKnob Try.prog.godebug = none := by kernel_rfl
theorem laidOut : laidOutB Try.prog = true := by kernel_rfl

/-- What the walk is told of a slice of integers that came in. -/
def IsRow (k : IntKind) (w : World) (a : Option Addr) (len cap : Nat) (zs : List Int) : Prop :=
  (a = none ∧ len = 0 ∧ cap = 0 ∧ zs = []) ∨
  ∃ x, a = some x ∧ len ≤ cap ∧ cap ≤ maxLen ∧ zs.length = cap ∧ (∀ i, i < zs.length → w.cell? (x.add i) = some (.int k (zs.getD i 0))) ∧ ∀ n ∈ zs, (Lit.int k n).wf = true

/-! ### The walk -/
open Words Oct Par Chk
set_option maxHeartbeats 8000000 in
set_option maxRecDepth 100000 in
theorem walk {H : Type} {enc : TypeId × Value → H} {base : Nat} (v0 : Value) (d0 : DataW H) (p0 : List MemPlace) (a1 : Int) (a2 : Bool) (w : World) (o0 : Value.okWide Try.prog w .any base 26 v0) (k0 : DataW.Trod enc Try.prog w 0 (fun _ => true) true 26 v0 d0 p0) (w1 : (Lit.int .i64 a1).wf = true) :
    Calls Try.prog 3 #[v0, .int .i64 a1, .bool a2] w fun e w' => e = .returned (.bool true) ∧ Below w.heap.size w w' := by
  have hA := bounds_i64 w1
  obtain ⟨cs, rfl, hsz⟩ := okWide_struct Try.underlying26 o0
  have hsee : Sees w MsgSh cs.toList := sees_of (sh := MsgSh) rfl msgSh_fits k0
  obtain ⟨⟨mst, mlo, mmid, mpp, l⟩, A, cp, rfl, ok, hnc, hcm, hby⟩ := msg_of hsee
  simp only at hnc hby
  obtain ⟨m, hm⟩ : ∃ m, m = Msg.mk mst mlo mmid mpp l := ⟨_, rfl⟩
  obtain ⟨n, hn⟩ : ∃ n, n = l.length := ⟨_, rfl⟩
  rw [← hn] at hnc
  have st1 : mst < 65536 := ok.st
  have mid1 : mmid < 4294967296 := ok.mid
  have pp1 : mpp < 4294967296 := ok.pp
  have HN : Hid (n = m.body.length) := by rw [hm]; exact hn
  have HOK : Hid m.ok := by rw [hm]; exact ok
  have HBY : Hid (Byt w w.heap.size A m.body) := by rw [hm]; exact hby
  have HST : Hid (m.st = mst ∧ m.lo = mlo ∧ m.mid = mmid ∧ m.pp = mpp) := by rw [hm]; exact ⟨rfl, rfl, rfl, rfl⟩
  have HR : Hid (∀ {W : World}, Below w.heap.size w W → ∀ {most : Int} {inter : Bool}, (-9223372036854775808 ≤ most ∧ most ≤ 9223372036854775807) → Calls Try.prog 9 #[.agg #[.int .u16 (mst : Int), .bool mlo, .int .u32 (mmid : Int), .int .u32 (mpp : Int), .slice A n cp], .int .i64 most, .bool inter] W (CutDone W m most inter)) := fun {W} hb {most inter} hmost => by
    have := rcut_any (w := W) (c := cp) HOK.out HN.out hnc hcm ((HBY.out.below hb).more hb.size) hmost (inter := inter)
    rw [hm] at this ⊢
    exact this
  have HC : Hid (∀ {W : World} {A' : Option Addr} {c' : Nat}, n ≤ c' → c' ≤ 9223372036854775807 → Byt W W.heap.size A' m.body → ∀ {most : Int} {inter : Bool}, (-9223372036854775808 ≤ most ∧ most ≤ 9223372036854775807) → Calls Try.prog 8 #[.agg #[.int .u16 (mst : Int), .bool mlo, .int .u32 (mmid : Int), .int .u32 (mpp : Int), .slice A' n c'], .int .i64 most, .bool inter] W (CutDone W m most inter)) := fun {W A' c'} h1 h2 h3 {most inter} hmost => by
    have := cut_c (w := W) (c := c') HOK.out HN.out h1 h2 h3 hmost (inter := inter)
    rw [hm] at this ⊢
    exact this
  simp only [mCells, ← hn]
  clear hsz hsee o0 k0 ok hby hn hm w1
  go_enter Try.func3, Try.ntmps3
  go_upto_region 1 with (fail)
  obtain ⟨W1, hW1⟩ : ∃ W1, W1 = w.alloc (.cells #[.int .u16 (mst : Int), .bool mlo, .int .u32 (mmid : Int), .int .u32 (mpp : Int), .slice A n cp] 26) := ⟨_, rfl⟩
  obtain ⟨gm, hgm⟩ : ∃ gm, gm = w.heap.size := ⟨_, rfl⟩
  have HB1 : Hid (Below w.heap.size w W1) := by rw [hW1]; exact (Below.refl _ _).alloc (Nat.le_refl _) _
  have HM1 : Hid (Blk W1 gm 26 #[.int .u16 (mst : Int), .bool mlo, .int .u32 (mmid : Int), .int .u32 (mpp : Int), .slice A n cp]) := by rw [hW1, hgm]; exact Blk.new _ _ _
  rw [← hW1, ← hgm]
  clear hW1
  have HGM := Lib.hid hgm
  clear hgm
  go_wp2_with fail
  refine (first_f cut_c room_c W1).mono ?_
  rintro e W2 ⟨rfl, hb2⟩
  have HB2 := Lib.hid (HB1.out.trans (hb2.mono HB1.out.size))
  have HM2 := Lib.hid (blk_below HM1.out hb2 HM1.out.lt)
  have b4 : W2.cell? ⟨gm, 4, none⟩ = some (.slice A n cp) := HM2.out.cell 4
  clear hb2 HM1 HB1
  go_upto_region 3 with (fail)
  go_cut [31] from 16 to 30 (fun u wx => ∃ b, u = .bool b ∧ W2 = wx ∧ Hid (b = false → n ≤ 70000))
  case first =>
    by_cases h7 : (70000 : Int) < (n : Int)
    · go_wp2_with fail
      go_meet
      exact ⟨true, rfl, rfl, fun h => by cases h⟩
    · have h7' : n ≤ 70000 := by omega
      have H7 := Lib.hid h7'
      by_cases hm0 : 0 < a1
      · have ht : (n : Int).tdiv a1 = (n : Int) / a1 := Int.tdiv_eq_ediv_of_nonneg (by omega)
        have hz : ¬ a1 = 0 := by omega
        go_wp2_with fail
        all_goals
          go_meet
          exact ⟨_, rfl, rfl, fun _ => H7.out⟩
      · go_wp2_with fail
        go_meet
        exact ⟨false, rfl, rfl, fun _ => H7.out⟩
  case rest =>
    obtain ⟨u, rfl, rfl, H7⟩ := hcut
    cases u
    · have hn7 : n ≤ 70000 := H7.out rfl
      clear H7
      have b0 : W2.cell? ⟨gm, 0, none⟩ = some (.int .u16 (mst : Int)) := HM2.out.cell 0
      have b1 : W2.cell? ⟨gm, 1, none⟩ = some (.bool mlo) := HM2.out.cell 1
      have b2 : W2.cell? ⟨gm, 2, none⟩ = some (.int .u32 (mmid : Int)) := HM2.out.cell 2
      have b3 : W2.cell? ⟨gm, 3, none⟩ = some (.int .u32 (mpp : Int)) := HM2.out.cell 3
      go_upto_region 6 with (fail)
      obtain ⟨W3, hW3⟩ : ∃ W3, W3 = W2.alloc (.cells #[.int .u16 (mst : Int), .bool mlo, .int .u32 (mmid : Int), .int .u32 (mpp : Int), .slice A n cp] 26) := ⟨_, rfl⟩
      obtain ⟨go, hgo⟩ : ∃ go, go = W2.heap.size := ⟨_, rfl⟩
      have HBW3 : Hid (Below W2.heap.size W2 W3) := by rw [hW3]; exact (Below.refl _ _).alloc (Nat.le_refl _) _
      have HO3 : Hid (Blk W3 go 26 #[.int .u16 (mst : Int), .bool mlo, .int .u32 (mmid : Int), .int .u32 (mpp : Int), .slice A n cp]) := by rw [hW3, hgo]; exact Blk.new _ _ _
      have HGO : Hid (go = W2.heap.size ∧ W3.heap.size = W2.heap.size + 1) := ⟨hgo, by rw [hW3]; simp⟩
      rw [← hW3, ← hgo]
      clear hW3 hgo b0 b1 b2 b3 b4
      have HM3 := Lib.hid (blk_below HM2.out HBW3.out HM2.out.lt)
      have HB3 := Lib.hid (HB2.out.trans (HBW3.out.mono HB2.out.size))
      have HE3 := Lib.hid (own_empty W3 5)
      have ms : (W3.alloc (.cells #[] 5)).cell? ⟨gm, 4, none⟩ = some (.slice A n cp) := (blk_below HM3.out ((Below.refl _ W3).alloc (Nat.le_refl _) _) HM3.out.lt).cell 4
      have HBX : Hid (Reads (W3.alloc (.cells #[] 5)) W3.heap.size 1 A n (u8s m.body)) := by
        have h3 := ((HBY.out.below HB3.out).more HB3.out.size).below ((Below.refl W3.heap.size W3).alloc (Nat.le_refl _) (.cells #[] 5))
        unfold Byt at h3
        rw [← HN.out] at h3
        exact h3
      have hgo3 : go < W3.heap.size := HO3.out.lt
      obtain ⟨i0, hi0, hz0, hz1, hz2⟩ := info_parts3 u8_info
      go_upto_region 7 with (at_builtin; refine wpList_append_any _ rfl (.tmp 33) (.tmp 35) _ rfl W3.heap.size 5 i0 _ 1 1 Try.underlying24 hi0 hz0 hz1 hz2 rfl (by omega) (.slice (some ⟨W3.heap.size, 0, none⟩) 0 0) 0 [] rfl HE3.out W3.heap.size A n cp (u8s m.body) rfl HBX.out (u8s_one m.body) (by simp only [maxLen]; omega) (by omega) (by simp) ?_; intro v1 w1 hown1 hg1 hat1; obtain ⟨nq, A2, c2, rfl, HN2, hnq2, hnc2, hc2, HO2, HBQ⟩ := copied (Below.refl _ W3) hown1 HN.out hg1; have HC1 := Lib.hid (blk_below HO3.out HBQ.out hgo3); have cf : w1.cell? ⟨go, 4, none⟩ = some (.slice A n cp) := HC1.out.cell 4; have zf := Blk.frozen HC1.out 4; clear hown1 hg1 hat1)
      obtain rfl : nq = n := by rw [HN.out]; exact HN2.out
      obtain ⟨W4, hV⟩ : ∃ V, V = w1.setCell ⟨go, 4, none⟩ (.slice A2 nq c2) := ⟨_, rfl⟩
      rw [← hV]
      have HO4 : Hid (Blk W4 go 26 #[.int .u16 (mst : Int), .bool mlo, .int .u32 (mmid : Int), .int .u32 (mpp : Int), .slice A2 nq c2]) := by
        have h4 := HC1.out.set_ 4 (.slice A2 nq c2)
        rw [hV]
        exact h4
      have HOWN4 : Hid (W4.ownsRow W3.heap.size 5 1 (.slice A2 nq c2) nq (u8s m.body)) := by
        rw [hV]
        exact ((Fr.refl (fun k => k = go) w1).setCell (p := ⟨go, 4, none⟩) (.inl rfl) _).own HO2.out (fun b hb e => by have := (HO2.out.lt b hb).1; have e : b = go := e; omega)
      have HB34 : Hid (Below W2.heap.size W2 W4) := by
        rw [hV]
        refine ((HBW3.out.trans (HBQ.out.mono HBW3.out.size))).setCell ?_ _
        show W2.heap.size ≤ go
        rw [HGO.out.1]
        exact Nat.le_refl _
      have HM4 := Lib.hid (blk_below HM2.out HB34.out HM2.out.lt)
      have HB4 := Lib.hid (HB2.out.trans (HB34.out.mono HB2.out.size))
      have HOB4 : Hid (∀ b, (Value.slice A2 nq c2).ownBlock = some b → W3.heap.size ≤ b ∧ b < W4.heap.size) := fun b hb => HOWN4.out.lt b hb
      clear hV cf zf HC1 HO2 HBQ HE3 HBX ms HM3 HB3 HO3 HBW3
      have o0 : W4.cell? ⟨go, 0, none⟩ = some (.int .u16 (mst : Int)) := HO4.out.cell 0
      have o1 : W4.cell? ⟨go, 1, none⟩ = some (.bool mlo) := HO4.out.cell 1
      have o2 : W4.cell? ⟨go, 2, none⟩ = some (.int .u32 (mmid : Int)) := HO4.out.cell 2
      have o3 : W4.cell? ⟨go, 3, none⟩ = some (.int .u32 (mpp : Int)) := HO4.out.cell 3
      have o4 : W4.cell? ⟨go, 4, none⟩ = some (.slice A2 nq c2) := HO4.out.cell 4
      have HY4 : Hid (Byt W4 W4.heap.size A2 m.body) := Own.byt (B := W3.heap.size) (n := nq) (c := c2) (l := m.body) (by
        show W4.ownsRow _ _ 1 _ m.body.length _
        rw [← HN.out]
        exact HOWN4.out)
      go_wp2_with fail
      refine (HC.out hnc2 hc2 HY4.out (most := a1) (inter := a2) hA).mono ?_
      rintro e W5 ⟨A5, n5, c5, rfl, h5a, h5b, HN5, HL5, hb5⟩
      have HB45 := Lib.hid hb5.out
      have HM5 := Lib.hid (blk_below HM4.out hb5.out HM4.out.lt)
      have HO5 := Lib.hid (blk_below HO4.out hb5.out HO4.out.lt)
      have HOWN5 : Hid (W5.ownsRow W3.heap.size 5 1 (.slice A2 nq c2) nq (u8s m.body)) := (Fr.of_below hb5.out).own HOWN4.out (fun b hb e => by have := (HOWN4.out.lt b hb).2; omega)
      have HB5 := Lib.hid (HB4.out.trans (hb5.out.mono HB4.out.size))
      have b0 : W5.cell? ⟨gm, 0, none⟩ = some (.int .u16 (mst : Int)) := HM5.out.cell 0
      have b1 : W5.cell? ⟨gm, 1, none⟩ = some (.bool mlo) := HM5.out.cell 1
      have b2 : W5.cell? ⟨gm, 2, none⟩ = some (.int .u32 (mmid : Int)) := HM5.out.cell 2
      have b3 : W5.cell? ⟨gm, 3, none⟩ = some (.int .u32 (mpp : Int)) := HM5.out.cell 3
      have b4 : W5.cell? ⟨gm, 4, none⟩ = some (.slice A nq cp) := HM5.out.cell 4
      obtain ⟨E, hE⟩ : ∃ E, E = cutE m a1 a2 := ⟨_, rfl⟩
      rw [← hE] at HN5 HL5 ⊢
      clear o0 o1 o2 o3 o4 hb5 HM4 HO4 HOWN4 HY4 HC
      go_wp2_with fail
      refine (HR.out HB5.out (most := a1) (inter := a2) hA).mono ?_
      rintro e W6 ⟨A6, n6, c6, rfl, h6a, h6b, HN6, HL6, hb6⟩
      rw [← hE] at HN6 HL6 ⊢
      have HO6 := Lib.hid (blk_below HO5.out hb6.out HO5.out.lt)
      have HOWN6 : Hid (W6.ownsRow W3.heap.size 5 1 (.slice A2 nq c2) nq (u8s m.body)) := (Fr.of_below hb6.out).own HOWN5.out (fun b hb e => by have := (HOWN5.out.lt b hb).2; omega)
      have HL56 := Lib.hid (HL5.out.grows hb6.out)
      have HB6 := Lib.hid (HB5.out.trans (hb6.out.mono HB5.out.size))
      have HL6' := Lib.hid (HL6.out.mono HB45.out.size)
      have HOB : Hid (∀ b, (Value.slice A2 nq c2).ownBlock = some b → W3.heap.size ≤ b ∧ b < W4.heap.size) := HOB4
      have HS46 : Hid (W4.heap.size ≤ W6.heap.size) := Nat.le_trans HB45.out.size hb6.out.size
      obtain rfl : n6 = n5 := by rw [HN5.out, HN6.out]
      clear b0 b1 b2 b3 b4 HM5 HO5 HOWN5 hE hb6 HL5 HL6 HB5 HB45 HR HN6
      have o4 : W6.cell? ⟨go, 4, none⟩ = some (.slice A2 nq c2) := HO6.out.cell 4
      go_wp2_with fail
      have HW3w : Hid (w.heap.size ≤ W3.heap.size) := by have := HGO.out.2; have := HB2.out.size; show _ ≤ _; omega
      go_loopw [55] (fun i wr => ∃ (k : Nat) (l' : List UInt8), k ≤ nq ∧ i = .int .i64 k ∧ Hid (nq = l'.length) ∧ Hid (wr.ownsRow W3.heap.size 5 1 (.slice A2 nq c2) nq (u8s l')) ∧ Hid (Fr (fun i => some i = (Value.slice A2 nq c2).ownBlock) W6 wr)) (fun i _ => nq - (intOf i).toNat)
      case atStart => exact ⟨0, m.body, by omega, rfl, HN, HOWN6.out, Fr.refl _ _⟩
      case round =>
        obtain ⟨k, l', hk, rfl, HN', HOr, HFr⟩ := hrel
        have hgne : ¬ (some go = (Value.slice A2 nq c2).ownBlock) := fun e => by have := (HOB.out go e.symm).1; have := HGO.out.1; have := HGO.out.2; omega
        have o4' : wr.cell? ⟨go, 4, none⟩ = some (.slice A2 nq c2) := (HFr.out.blk HO6.out hgne).cell 4
        by_cases hlt : k < nq
        · obtain ⟨g, y, l2, rfl, hcell, hfr, hn2', hst⟩ := flip_at HOr.out HN'.out hlt
          have HN2' := Lib.hid hn2'
          have HST2 := Lib.hid hst
          have hyb := u8_bd y
          clear hn2' hst hgne
          go_wp2_with fail
          go_roundw
          case rel => exact ⟨k + 1, l2, by omega, by go_num, HN2', (HST2.out _ rfl).1, HFr.out.same (HST2.out _ rfl).2.out⟩
          case measure => simp [intOf]; omega
        · obtain rfl : k = nq := by omega
          obtain ⟨ls, hls⟩ : ∃ ls, ls = (if E = 0 then cutF m a1.toNat a2 else []) := ⟨_, rfl⟩
          rw [← hls] at HL56 HL6'
          have HLEN : Hid (n6 = ls.length) := by
            show n6 = _
            rw [HN5.out, hls]
            split
            · unfold cutF; rw [cutN_length]
            · rfl
          have hS : ∀ b, some b = (Value.slice A2 k c2).ownBlock → b < W6.heap.size → b < W4.heap.size := fun b hb _ => (HOB.out b hb.symm).2
          have HX5 : Hid (OwnCks wr W4.heap.size (.slice A5 n6 c5) ls) := HL56.out.fr HFr.out hS
          have HX6 : Hid (OwnCks wr W4.heap.size (.slice A6 n6 c6) ls) := HL6'.out.fr HFr.out hS
          have HK5 := Lib.hid HX5.out.cks
          have HK6 := Lib.hid HX6.out.cks
          have HB7 : Hid (Below w.heap.size w wr) := below_fr HB6.out HFr.out (Nat.le_refl _) (fun b hb => Nat.le_trans HW3w.out (HOB.out b hb.symm).1)
          have HR1 := Lib.hid (room_c wr a2)
          have HR2 := Lib.hid (rroom_any (w := wr) a2)
          clear hls HX5 HX6 HL56 HL6' HOr HN' HFr hS hgne o4' HB6
          go_wp2_with fail
          refine HR1.out.mono ?_
          rintro e W8 ⟨rfl, rfl⟩
          go_wp2_with fail
          refine HR2.out.mono ?_
          rintro e W8 ⟨rfl, rfl⟩
          go_wp2_with fail
          clear HR1 HR2
          obtain ⟨W7, hW7⟩ : ∃ W7, W7 = wr := ⟨_, rfl⟩
          rw [← hW7] at HK5 HK6 HB7 ⊢
          clear hW7
          have hn6 : n6 ≤ 9223372036854775807 := by omega
          go_loopw [85] (fun i wr => ∃ j : Nat, j ≤ n6 ∧ i = .int .i64 j ∧ Hid (Below W7.heap.size W7 wr)) (fun i _ => n6 - (intOf i).toNat)
          case atStart => exact ⟨0, Nat.zero_le _, rfl, Below.refl _ _⟩
          case round =>
            obtain ⟨j, hj, rfl, HW⟩ := hrel
            by_cases hlt : j < n6
            · have hj2 : j < ls.length := by rw [← HLEN.out]; exact hlt
              obtain ⟨ad5, cs5, rfl, hblk5, hsz5, hat5, hcell5⟩ := HK5.out.nthw (Nat.le_refl _) HW.out hj2
              obtain ⟨ad6, cs6, rfl, hblk6, hsz6, hat6, hcell6⟩ := HK6.out.nthw (Nat.le_refl _) HW.out hj2
              have HSZ5 := Lib.hid hsz5
              have HSZ6 := Lib.hid hsz6
              have HAT5 := Lib.hid hat5
              have HAT6 := Lib.hid hat6
              have HCL5 : Hid (∀ q u, cs5[q]? = some u → wr.cell? ((ad5.add (j * 19)).add q) = some u) := hcell5
              have HCL6 : Hid (∀ q u, cs6[q]? = some u → wr.cell? ((ad6.add (j * 19)).add q) = some u) := hcell6
              have HSW : Hid (W7.heap.size ≤ wr.heap.size) := HW.out.size
              clear hsz5 hsz6 hat5 hat6 hcell5 hcell6 hblk5 hblk6
              go_upto_region 19 with (fail)
              have HST : Hid (Below wr.heap.size wr wr.drew) := Below.drew (Below.refl _ _)
              refine wp_region_stage (fun _ _ => True) (fun m V => Hid (Below wr.heap.size wr V)) [(false, .exact (.slice (some ad5) n6 c5)),
                  (false, .exact (.int .i64 (j : Int))),
                  (false, .exact (.pointer (some (ad5.add (j * 19))))),
                  (false, .exact (.agg cs5)),
                  (false, .exact (.slice (some ad6) n6 c6)),
                  (false, .exact (.int .i64 (j : Int))),
                  (false, .exact (.pointer (some (ad6.add (j * 19))))),
                  (false, .exact (.agg cs6)),
                  (false, .exact (.bool true)),
                  (false, .exact (.bool false))] (by kernel_rfl) (by kernel_rfl) (by kernel_rfl) rfl ?lasts ?start ?walk
              case lasts => exact trivial
              case start => exact HST
              case walk =>
                refine stage_pure rfl (fun _ => trivial) (fun V m hS hl => by go_simp) ?_
                simp only [Act.put, List.setIfInBounds_toArray, List.set_cons_zero, List.set_cons_succ, List.cons_append, List.nil_append]
                refine stage_pure rfl (fun _ => trivial) (fun V m hS hl => by go_simp) ?_
                simp only [Act.put, List.setIfInBounds_toArray, List.set_cons_zero, List.set_cons_succ, List.cons_append, List.nil_append]
                refine stage_pure rfl (fun _ => trivial) (fun V m hS hl => by go_simp) ?_
                simp only [Act.put, List.setIfInBounds_toArray, List.set_cons_zero, List.set_cons_succ, List.cons_append, List.nil_append]
                refine stage_pure rfl (fun _ => trivial) (fun V m hS hl => by exact exec_load_any rfl rfl (fun q u hu => (hS.out.cell (World.block_lt_of_cell? wr _ (HCL5.out q u hu))).trans (HCL5.out q u hu)) Try.underlying42 rfl (by rw [HSZ5.out]; exact chunk_info)) ?_
                simp only [Act.put, List.setIfInBounds_toArray, List.set_cons_zero, List.set_cons_succ, List.cons_append, List.nil_append]
                refine stage_pure rfl (fun _ => trivial) (fun V m hS hl => by go_simp) ?_
                simp only [Act.put, List.setIfInBounds_toArray, List.set_cons_zero, List.set_cons_succ, List.cons_append, List.nil_append]
                refine stage_pure rfl (fun _ => trivial) (fun V m hS hl => by go_simp) ?_
                simp only [Act.put, List.setIfInBounds_toArray, List.set_cons_zero, List.set_cons_succ, List.cons_append, List.nil_append]
                refine stage_pure rfl (fun _ => trivial) (fun V m hS hl => by go_simp) ?_
                simp only [Act.put, List.setIfInBounds_toArray, List.set_cons_zero, List.set_cons_succ, List.cons_append, List.nil_append]
                refine stage_pure rfl (fun _ => trivial) (fun V m hS hl => by exact exec_load_any rfl rfl (fun q u hu => (hS.out.cell (World.block_lt_of_cell? wr _ (HCL6.out q u hu))).trans (HCL6.out q u hu)) Try.underlying42 rfl (by rw [HSZ6.out]; exact chunk_info)) ?_
                simp only [Act.put, List.setIfInBounds_toArray, List.set_cons_zero, List.set_cons_succ, List.cons_append, List.nil_append]
                refine stage_exact rfl (fun V m hS hl => by
                    go_simp
                    refine (rsame_k (((HAT5.out.more HSW.out).below hS.out).more hS.out.size) (((HAT6.out.more HSW.out).below hS.out).more hS.out.size) (Nat.le_refl _) (Nat.le_refl _)).mono ?_
                    rintro e V' ⟨rfl, hb⟩
                    exact ⟨_, rfl, rfl, hS.out.trans (hb.mono hS.out.size)⟩) ?_
                simp only [Act.put, List.setIfInBounds_toArray, List.set_cons_zero, List.set_cons_succ, List.cons_append, List.nil_append]
                refine stage_pure rfl (fun _ => trivial) (fun V m hS hl => by go_simp) ?_
                simp only [Act.put, List.setIfInBounds_toArray, List.set_cons_zero, List.set_cons_succ, List.cons_append, List.nil_append]
                refine stage_nil (fun V2 hS hF => ?_)
                have HW2 : Hid (Below W7.heap.size W7 V2) := HW.out.trans (Below.mono hS.out HSW.out)
                clear hS hF
                go_wp2_with fail
                go_roundw
                case rel => exact ⟨j + 1, by omega, by go_num, HW2⟩
                case measure => simp [intOf]; omega
            · obtain rfl : j = n6 := by omega
              go_wp2_with fail
              go_ret
              exact ⟨rfl, HB7.out.trans (HW.out.mono HB7.out.size)⟩
    · go_wp2_with fail
      go_ret
      exact ⟨rfl, HB2.out⟩

/-! ### The row's step -/
set_option maxRecDepth 100000 in
theorem lifted (os : Os) (started : os.Started) (H : Type) (enc : TypeId × Value → H) :
    ReturnsInHanded {} Try.checked os 3 .any (Rows.fragCutsSpec.pre6 enc Try.prog Try.f3 Rows.fragCutsRow.domain false) (Rows.fragCutsSpec.post enc Try.prog Try.f3 false true false false) := by
  refine returnsInHanded_of_change (C := Try.checked) own started (by kernel_rfl) Try.func3
    (ChangeSpec.witness6 (enc := enc) (C := Try.checked) false ⟨#[], #[.agg #[.int .u16 0, .bool false, .int .u32 0, .int .u32 0, .slice none 0 0], .int .i64 0, .bool false], []⟩ 8 (by kernel_rfl) (by kernel_rfl) (by kernel_rfl) (by kernel_rfl)) ?_
  intro W base args ds gs before hval0 hW hcnd _
  have hval : ∀ (j : Nat) t v, Try.f3.params[j]? = some t → args[j]? = some v → Value.okWide Try.prog W .any base t v := hval0
  have hW' := hW
  obtain ⟨p, q, hA0, hV, rfl, hfz, hnd⟩ := hW
  have hA : DataW.TrodAll enc Try.prog W 0 (fun _ => true) true Try.f3.params.toList args.toList ds p := hA0
  rw [Try.params3] at hA hval
  obtain ⟨v0, vs0, d0, ds0, p0, q0, hargs, rfl, rfl, h0, r0⟩ := trodAll_cons hA
  obtain ⟨v1, vs1, d1, ds1, p1, q1, rfl, rfl, rfl, h1, r1⟩ := trodAll_cons r0
  obtain ⟨v2, vs2, d2, ds2, p2, q2, rfl, rfl, rfl, h2, r2⟩ := trodAll_cons r1
  obtain ⟨rfl, rfl, rfl⟩ := trodAll_nil r2
  obtain rfl : args = #[v0, v1, v2] := by cases args; simp_all
  obtain ⟨rfl, rfl⟩ := trodVars_none hV
  have lt0 : ∀ x ∈ p0, x.block < W.heap.size := by obtain ⟨m, hm⟩ := h0; exact DataW.trod_lt m _ _ _ hm
  obtain ⟨a1, rfl, rfl, rfl, w1⟩ := open_int Try.underlying3 (hval 1 3 v1 rfl rfl) h1
  obtain ⟨a2, rfl, rfl, rfl⟩ := open_bool Try.underlying4 (hval 2 4 v2 rfl rfl) h2
  clear hA0 hval0
  refine (walk v0 d0 p0 a1 a2 W (hval 0 26 v0 rfl rfl) h0 w1).mono fun e W' ⟨he, bel⟩ => ?_
  subst he
  exact ⟨_, rfl, _, _, _, [], _, [], hW', trodAll_mk1 (shut_bool Try.underlying4 _), (trodAll_cons_mk (Below.trod laidOut (by kernel_rfl) (of_decide_eq_true (by kernel_rfl)) h0 bel lt0) (trodAll_cons_mk (shut_int Try.underlying3 w1) (trodAll_cons_mk (shut_bool Try.underlying4 _) trodAll_mk0))), rfl, bel.frame _, fun h => by cases h⟩

theorem over : Rows.fragCutsRow.holds Try.pinned (OpenSpec.ofChange Rows.fragCutsSpec) :=
  OpenClaim.holds_of_wide 3 Try.f3 rfl rfl rfl rfl rfl rfl rfl ⟨rfl, rfl, rfl, rfl, rfl⟩ rfl rfl rfl rfl rfl (by kernel_rfl) Try.func3 (by kernel_rfl)
    (of_decide_eq_true (by kernel_rfl)) (by unfold Func.isWrapper; first | (rw [if_pos (by decide +kernel)]; kernel_rfl) | (rw [if_neg (by decide +kernel)]; exact ⟨rfl, rfl⟩))
    (fun os started H enc _ => lifted os started H enc)

theorem proved : Rows.FragCutsSaid := over
#print axioms proved
end Go.Proofs.Ytabkjgklmibagaa.fragCuts
