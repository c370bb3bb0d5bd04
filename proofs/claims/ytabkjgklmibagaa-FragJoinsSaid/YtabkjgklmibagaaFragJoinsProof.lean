/-
  PROVED: FragJoins of flumelaw12 answers true for every input, and its arguments read afterwards as before. CONDITIONS: none beside the form's own.
-/
import Derived.Test.YtabkjgklmibagaaRows
import Derived.Test.YtabkjgklmibagaaFrA
import Derived.Test.YtabkjgklmibagaaFrPutA
import Derived.WalkKit
import Derived.ProofKit
import Derived.OpenShut
import Derived.ShutString
import Derived.ChangeOld
import Derived.Below
namespace Go.Proofs.Ytabkjgklmibagaa.fragJoins
open Go.ChangeShapes Go.WideShapes Go.ChangeAt Go.RowKit
open Go.ChangeMaps (open_string shut_string)
set_option linter.unusedVariables false
set_option linter.unusedSimpArgs false

theorem own : ownKnob Try.prog.godebug = none := by kernel_rfl
theorem laidOut : laidOutB Try.prog = true := by kernel_rfl

/-- What the walk is told of a slice of integers that came in. -/
def IsRow (k : IntKind) (w : World) (a : Option Addr) (len cap : Nat) (zs : List Int) : Prop :=
  (a = none ∧ len = 0 ∧ cap = 0 ∧ zs = []) ∨
  ∃ x, a = some x ∧ len ≤ cap ∧ cap ≤ maxLen ∧ zs.length = cap ∧ (∀ i, i < zs.length → w.cell? (x.add i) = some (.int k (zs.getD i 0))) ∧ ∀ n ∈ zs, (Lit.int k n).wf = true

/-! ### The walk -/
open Words Oct Par Chk
set_option maxHeartbeats 8000000 in
set_option maxRecDepth 100000 in
theorem walk {H : Type} {enc : TypeId × Value → H} {base : Nat} (v0 : Value) (d0 : DataW H) (p0 : List MemPlace) (a1 : Int) (a2 : Bool) (w : World) (o0 : Value.okWide Try.prog w .any base 26 v0) (k0 : DataW.Trod enc Try.prog w 0 (fun _ => true) true 26 v0 d0 p0) (w1 : (Lit.int .i64 a1).wf = true) :
    Calls Try.prog 4 #[v0, .int .i64 a1, .bool a2] w fun e w' => e = .returned (.bool true) ∧ Below w.heap.size w w' := by
  have hA := bounds_i64 w1
  obtain ⟨cs, rfl, hsz⟩ := okWide_struct Try.underlying26 o0
  have hsee : Sees w MsgSh cs.toList := sees_of (sh := MsgSh) rfl msgSh_fits k0
  obtain ⟨⟨mst, mlo, mmid, mpp, l⟩, A, cp, rfl, ok, hnc, hcm, hby⟩ := msg_of hsee
  simp only at hnc hby
  obtain ⟨m, hm⟩ : ∃ m, m = Msg.mk mst mlo mmid mpp l := ⟨_, rfl⟩
  obtain ⟨n, hn⟩ : ∃ n, n = l.length := ⟨_, rfl⟩
  rw [← hn] at hnc
  have st1 : mst < 65536 := ok.st
  have mid1 : mmid < 4294967296 := ok.mid
  have pp1 : mpp < 4294967296 := ok.pp
  have HN : Hid (n = m.body.length) := by rw [hm]; exact hn
  have HOK : Hid m.ok := by rw [hm]; exact ok
  have HBY : Hid (Byt w w.heap.size A m.body) := by rw [hm]; exact hby
  have HST : Hid (m.st = mst ∧ m.lo = mlo ∧ m.mid = mmid ∧ m.pp = mpp) := by rw [hm]; exact ⟨rfl, rfl, rfl, rfl⟩
  have HC : Hid (∀ {W : World} {A' : Option Addr} {c' : Nat}, n ≤ c' → c' ≤ 9223372036854775807 → Byt W W.heap.size A' m.body → ∀ {most : Int} {inter : Bool}, (-9223372036854775808 ≤ most ∧ most ≤ 9223372036854775807) → Calls Try.prog 8 #[.agg #[.int .u16 (mst : Int), .bool mlo, .int .u32 (mmid : Int), .int .u32 (mpp : Int), .slice A' n c'], .int .i64 most, .bool inter] W (CutDone W m most inter)) := fun {W A' c'} h1 h2 h3 {most inter} hmost => by
    have := cut_c (w := W) (c := c') HOK.out HN.out h1 h2 h3 hmost (inter := inter)
    rw [hm] at this ⊢
    exact this
  simp only [mCells, ← hn]
  clear hsz hsee o0 k0 ok hby hn hm w1
  go_enter Try.func4, Try.ntmps4
  go_upto_region 1 with (fail)
  obtain ⟨W1, hW1⟩ : ∃ W1, W1 = w.alloc (.cells #[.int .u16 (mst : Int), .bool mlo, .int .u32 (mmid : Int), .int .u32 (mpp : Int), .slice A n cp] 26) := ⟨_, rfl⟩
  obtain ⟨gm, hgm⟩ : ∃ gm, gm = w.heap.size := ⟨_, rfl⟩
  have HB1 : Hid (Below w.heap.size w W1) := by rw [hW1]; exact (Below.refl _ _).alloc (Nat.le_refl _) _
  have HM1 : Hid (Blk W1 gm 26 #[.int .u16 (mst : Int), .bool mlo, .int .u32 (mmid : Int), .int .u32 (mpp : Int), .slice A n cp]) := by rw [hW1, hgm]; exact Blk.new _ _ _
  rw [← hW1, ← hgm]
  clear hW1
  have HGM := Lib.hid hgm
  clear hgm
  go_wp2_with fail
  refine (first_f cut_c room_c W1).mono ?_
  rintro e W2 ⟨rfl, hb2⟩
  have HB2 := Lib.hid (HB1.out.trans (hb2.mono HB1.out.size))
  have HM2 := Lib.hid (blk_below HM1.out hb2 HM1.out.lt)
  have b4 : W2.cell? ⟨gm, 4, none⟩ = some (.slice A n cp) := HM2.out.cell 4
  clear hb2 HM1 HB1
  go_upto_region 3 with (fail)
  go_cut [31] from 16 to 30 (fun u wx => ∃ b, u = .bool b ∧ W2 = wx ∧ Hid (b = false → n ≤ 70000))
  case first =>
    by_cases h7 : (70000 : Int) < (n : Int)
    · go_wp2_with fail
      go_meet
      exact ⟨true, rfl, rfl, fun h => by cases h⟩
    · have h7' : n ≤ 70000 := by omega
      have H7 := Lib.hid h7'
      by_cases hm0 : 0 < a1
      · have ht : (n : Int).tdiv a1 = (n : Int) / a1 := Int.tdiv_eq_ediv_of_nonneg (by omega)
        have hz : ¬ a1 = 0 := by omega
        go_wp2_with fail
        all_goals
          go_meet
          exact ⟨_, rfl, rfl, fun _ => H7.out⟩
      · go_wp2_with fail
        go_meet
        exact ⟨false, rfl, rfl, fun _ => H7.out⟩
  case rest =>
    obtain ⟨u, rfl, rfl, H7⟩ := hcut
    cases u
    · have hn7 : n ≤ 70000 := H7.out rfl
      clear H7
      have b0 : W2.cell? ⟨gm, 0, none⟩ = some (.int .u16 (mst : Int)) := HM2.out.cell 0
      have b1 : W2.cell? ⟨gm, 1, none⟩ = some (.bool mlo) := HM2.out.cell 1
      have b2 : W2.cell? ⟨gm, 2, none⟩ = some (.int .u32 (mmid : Int)) := HM2.out.cell 2
      have b3 : W2.cell? ⟨gm, 3, none⟩ = some (.int .u32 (mpp : Int)) := HM2.out.cell 3
      go_wp2_with fail
      refine (HC.out hnc hcm ((HBY.out.below HB2.out).more HB2.out.size) (most := a1) (inter := a2) hA).mono ?_
      rintro e W5 ⟨A5, n5, c5, rfl, h5a, h5b, HN5, HL5, hb5⟩
      have HM5 := Lib.hid (blk_below HM2.out hb5.out HM2.out.lt)
      have HB5 := Lib.hid (HB2.out.trans (hb5.out.mono HB2.out.size))
      have HS5 : Hid (W2.heap.size ≤ W5.heap.size) := hb5.out.size
      have HG2 : Hid (gm < W2.heap.size) := HM2.out.lt
      clear b0 b1 b2 b3 b4 HM2 HC hb5
      by_cases hE : cutE m a1 a2 = 0
      · rw [hE] at HN5 HL5 ⊢
        rw [if_pos rfl] at HN5 HL5
        have hcE := hE
        unfold cutE at hcE
        rw [← HN.out] at hcE
        have hrm := roomF_le a2
        obtain ⟨rm, hrmE⟩ : ∃ rm, rm = roomF a2 := ⟨_, rfl⟩
        rw [← hrmE] at hcE hrm
        have hr1 : ¬ (a1 < 1 ∨ (rm : Int) < a1) := fun h => by rw [if_pos h] at hcE; omega
        rw [if_neg hr1] at hcE
        have hr2 : ¬ n = 0 := fun h => by rw [if_pos h] at hcE; omega
        rw [if_neg hr2] at hcE
        have hr3 : ¬ 65536 < n := fun h => by rw [if_pos h] at hcE; omega
        clear hcE
        obtain ⟨K, rfl⟩ : ∃ K : Nat, a1 = (K : Int) := ⟨a1.toNat, by omega⟩
        rw [Int.toNat_natCast] at HN5 HL5
        rw [← HN.out] at HN5
        have hK1 : 1 ≤ K := by omega
        have hK3 : K ≤ rm := by omega
        have HK2 : Hid (K ≤ roomF a2) := by rw [← hrmE]; exact hK3
        have hK2 : K ≤ 1172 := by omega
        have hn6 : n ≤ 65536 := by omega
        have hnp : n5 ≤ n := by rw [HN5.out]; exact np_le hK1
        have HCK : Hid (Cks W5 W5.heap.size A5 (cutF m K a2)) := HL5.out.cks
        have HLEN : Hid (n5 = (cutF m K a2).length) := by show n5 = _; unfold cutF; rw [cutN_length, ← HN.out]; exact HN5.out
        clear hr1 hr2 hr3 hrm hrmE hK3 hE hA
        go_wp2_with fail
        go_loopw [9, 46] (fun v9 i wr => ∃ (k : Nat) (sa : ByteArray), k ≤ n5 ∧ v9 = .string sa ∧ i = .int .i64 k ∧ Hid (sa = ⟨(m.body.take (k * K)).toArray⟩) ∧ Hid (Below W5.heap.size W5 wr)) (fun _ i _ => n5 - (intOf i).toNat)
        case atStart => exact ⟨0, _, Nat.zero_le _, rfl, rfl, by show _ = _; rw [Nat.zero_mul]; rfl, Below.refl _ _⟩
        case round =>
          obtain ⟨k, sa, hk, rfl, rfl, HSA, HW⟩ := hrel
          by_cases hlt : k < n5
          · have hk2 : k < (cutF m K a2).length := by rw [← HLEN.out]; exact hlt
            obtain ⟨ad, cs, rfl, hblk, hsz, hat, hcell⟩ := HCK.out.nthw (Nat.le_refl _) HW.out hk2
            obtain ⟨ck, hck⟩ : ∃ ck, ck = (cutF m K a2)[k] := ⟨_, rfl⟩
            have hpk : ck = pieceF m K a2 k := by rw [hck]; exact cutF_get hk2
            rw [← hck, hpk] at hat
            have HSZ := Lib.hid hsz
            have HCELL := Lib.hid hcell
            have HONE := Lib.hid hat.one
            have HAT := Lib.hid hat
            have HARR := Lib.hid hat.arr
            obtain ⟨_, _, _, _, bd, hcells, hlists⟩ := hat.parts
            obtain ⟨x, hx⟩ : ∃ x, x = (pieceF m K a2 k).body := ⟨_, rfl⟩
            obtain ⟨nx, hnx⟩ : ∃ nx, nx = x.length := ⟨_, rfl⟩
            have e1 : cs[1]? = some (.bool (decide (k = 0))) := hcells.c1
            have e2 : cs[2]? = some (.bool (decide (m.body.length ≤ (k + 1) * K))) := hcells.c2
            have e18 : cs[18]? = some (.slice bd.A nx bd.cap) := by rw [hnx, hx]; exact hcells.c18
            have HBD : Hid (Byt wr W5.heap.size bd.A x) := by rw [hx]; exact hlists.body
            have HX := Lib.hid hx
            have HNX := Lib.hid hnx
            clear hsz hat hcell hck hblk hcells hlists hpk hx hnx
            go_upto_region 12 with (first
              | (refine wpList_load_any rfl 42 _ rfl (ad.add (k * 19)) rfl cs _ HCELL.out Try.underlying42 rfl (by rw [HSZ.out]; exact chunk_info) ?_)
              | (refine wpList_store_row rfl 42 _ _ rfl wr.heap.size cs rfl rfl 42 _ (Blk.new wr 42 _) (by rw [HSZ.out]; exact chunk_info) (by rw [HSZ.out]; rfl) HONE.out ?_))
            obtain ⟨W6, hW6, HC6, HB6⟩ := kept_var wr cs
            obtain ⟨g0, hg0⟩ : ∃ g0, g0 = wr.heap.size := ⟨_, rfl⟩
            rw [← hg0] at HC6
            rw [← hW6, ← hg0]
            have HW6 := Lib.hid (HW.out.trans (HB6.mono HW.out.size))
            have HBL6 := Lib.hid HC6
            have f1 := CkBlk.at HC6 e1
            have f2 := CkBlk.at HC6 e2
            have f18 := CkBlk.at HC6 e18
            have HAT6 : Hid (CkAt W6 W6.heap.size cs (pieceF m K a2 k)) := ((HAT.out.more HW.out.size).below HB6).more HB6.size
            have st := run_str (P := Try.prog) ((HBD.out.below (HB6.mono HW.out.size))) 24 9 5 Try.underlying24 Try.underlying5 Try.underlying9 nx bd.cap HNX.out
            obtain ⟨sx, hsx⟩ : ∃ sx : ByteArray, sx = ⟨x.toArray⟩ := ⟨_, rfl⟩
            rw [← hsx] at st
            have HSX := Lib.hid hsx
            have hnk : k * K < m.body.length := (np_lt hK1).1 (by rw [← HN.out, ← HN5.out]; exact hlt)
            have hpl := pieceF_len (b := a2) hnk hK1
            rw [← HX.out, ← HNX.out] at hpl
            have hsa : sa.size ≤ 65536 := by rw [HSA.out, str_size, List.length_take, ← HN.out]; omega
            have hsx2 : sx.size ≤ 1172 := by rw [hsx, str_size, ← HNX.out]; omega
            have HSN : Hid (sa ++ sx = ⟨(m.body.take ((k + 1) * K)).toArray⟩) := by
              show sa ++ sx = _
              rw [HSA.out, hsx, HX.out]
              exact str_next m K a2 k
            have hful : k + 1 < n5 → nx = K := fun h => by
              have h2 : (k + 1) * K < m.body.length := (np_lt hK1).1 (by rw [← HN.out, ← HN5.out]; exact h)
              rw [HNX.out, HX.out, pieceF_body, List.length_take, List.length_drop]
              rw [Nat.add_mul, Nat.one_mul] at h2
              omega
            have hlast : decide (m.body.length ≤ (k + 1) * K) = ((k : Int) == (n5 : Int) - 1) := by
              apply Bool.eq_iff_iff.2
              simp only [decide_eq_true_eq, beq_iff_eq]
              have h3 := np_last (n := n) (k := k) hK1 (by rw [← HN5.out]; exact hlt)
              rw [← HN5.out] at h3
              rw [← HN.out]
              exact h3
            have hfirst : decide (k = 0) = ((k : Int) == 0) := by
              apply Bool.eq_iff_iff.2
              simp only [decide_eq_true_eq, beq_iff_eq]
              omega
            rw [hlast] at f2
            rw [hfirst] at f1
            have HNK := Lib.hid hnk
            have HFUL := Lib.hid hful
            clear hnk hful hlast hfirst
            obtain ⟨hpl1, hpl2⟩ := hpl
            clear hsx hW6 hg0 HC6 HB6 HCELL HAT e1 e2 e18 HBD
            go_upto_region 13 with (fail)
            go_cut [91] from 56 to 90 (fun u wx => u = .bool false ∧ W6 = wx)
            case first =>
              by_cases hl : k + 1 < n5
              · obtain rfl := HFUL.out hl
                go_wp2_with fail
                go_meet
                exact ⟨rfl, rfl⟩
              · go_wp2_with fail
                go_meet
                exact ⟨congrArg Value.bool (decide_eq_false (by omega)), rfl⟩
            case rest =>
              obtain ⟨rfl, rfl⟩ := hcut
              go_upto_region 15 with (fail)
              go_cut [100] from 92 to 99 (fun u wx => (∃ t, u = .bool t) ∧ W6 = wx)
              case first =>
                by_cases h3 : (k : Int) < 3
                · go_wp2_with fail
                  go_meet
                  exact ⟨⟨_, rfl⟩, rfl⟩
                · go_wp2_with fail
                  go_meet
                  exact ⟨⟨_, rfl⟩, rfl⟩
              case rest =>
                obtain ⟨⟨t, rfl⟩, rfl⟩ := hcut
                go_upto_if 100 with (fail)
                cases t
                · go_wp2_with fail
                  go_roundw
                  case rel => exact ⟨k + 1, sa ++ sx, by omega, rfl, by go_num, HSN, HW6⟩
                  case measure => simp [intOf]; omega
                · have hput : Hid (Calls Try.prog 13 #[.agg (pkV 0 0 0 (.slice (some ⟨W6.heap.size, 0, none⟩) 1 1))] (W6.alloc (.cells cs 42)) (PutPk (W6.alloc (.cells cs 42)) (headB 0 0 0) [pieceF m K a2 k])) := by
                    have hb := (Below.refl W6.heap.size W6).alloc (Nat.le_refl _) (.cells cs 42)
                    have hck : Cks (W6.alloc (.cells cs 42)) (W6.alloc (.cells cs 42)).heap.size (some ⟨W6.heap.size, 0, none⟩) [pieceF m K a2 k] := cks_one (Blk.new _ _ _) ((HAT6.out.below hb).more hb.size) (by simp)
                    refine put_p (n := 1) (c := 1) hck rfl ?_ (by decide) (by decide) (by decide)
                    rw [sumC_cons, sumC_nil]
                    have h1 : sizeC (pieceF m K a2 k) = (pieceF m K a2 k).body.length := by show 4 * 0 + 4 * 0 + 8 * 0 + _ + 0 = _; omega
                    have h2 := pieceF_len (b := a2) HNK.out hK1
                    omega
                  go_wp2_with (first
                    | (refine wpList_load_row rfl 42 _ rfl g0 rfl 42 cs (0, 0) _ HBL6.out Try.underlying42 rfl (by rw [HSZ.out]; exact chunk_info) ?_)
                    | (refine wpList_slice_ck rfl _ rfl cs rfl HARR.out ?_)
                    | (refine wpList_build_as rfl 47 _ rfl (pkV 0 0 0 (.slice (some ⟨W6.heap.size, 0, none⟩) 1 1)) (pk_built3 _ ⟨_, _, _, rfl⟩) ?_))
                  refine hput.out.mono ?_
                  rintro e W8 ⟨⟨kk, v, lp, rfl, hkk, ho, hp⟩, hb8⟩
                  obtain rfl := piece_put HOK.out HNK.out hK1 HK2.out hp
                  have HB8 : Hid (Below W6.heap.size W6 W8) := ((Below.refl W6.heap.size W6).alloc (Nat.le_refl _) (.cells cs 42)).trans (hb8.mono (by simp))
                  clear hb8 hp ho hput hkk
                  have HW8 : Hid (Below W5.heap.size W5 W8) := HW6.out.trans (HB8.out.mono HW6.out.size)
                  go_wp2_with fail
                  go_roundw
                  case rel => exact ⟨k + 1, sa ++ sx, by omega, rfl, by go_num, HSN, HW8⟩
                  case measure => simp [intOf]; omega
          · obtain rfl : k = n5 := by omega
            have hall : n ≤ k * K := by
              have h1 := not_congr (np_lt (n := n) (i := k) hK1)
              have h2 := HN5.out
              omega
            have hsa : sa = ⟨m.body.toArray⟩ := by rw [HSA.out, List.take_of_length_le (by rw [← HN.out]; exact hall)]
            have HMR := Lib.hid (blk_below HM5.out HW.out (Nat.lt_of_lt_of_le HG2.out HS5.out))
            have b4 : wr.cell? ⟨gm, 4, none⟩ = some (.slice A n cp) := HMR.out.cell 4
            have HBW : Hid (Below w.heap.size w wr) := HB5.out.trans (HW.out.mono HB5.out.size)
            have st := run_str (P := Try.prog) (HBY.out.below HBW.out) 24 9 5 Try.underlying24 Try.underlying5 Try.underlying9 n cp HN.out
            rw [← hsa] at st
            clear hsa HMR hall
            go_wp2_with fail
            go_ret
            exact ⟨by simp, HBW.out⟩
      · have HE := Lib.hid hE
        rw [if_neg hE] at HN5
        obtain rfl : n5 = 0 := HN5.out
        obtain ⟨E, hEe⟩ : ∃ E, E = cutE m a1 a2 := ⟨_, rfl⟩
        have hE1 : ((E : Int) != 0) = true := by rw [hEe]; simpa using hE
        rw [← hEe]
        clear hEe hE
        go_wp2_with fail
        go_ret
        exact ⟨rfl, HB5.out⟩
    · go_wp2_with fail
      go_ret
      exact ⟨rfl, HB2.out⟩

/-! ### The row's step -/
set_option maxRecDepth 100000 in
theorem lifted (os : Os) (started : os.Started) (H : Type) (enc : TypeId × Value → H) :
    ReturnsInHanded {} Try.checked os 4 .any (Rows.fragJoinsSpec.pre6 enc Try.prog Try.f4 Rows.fragJoinsRow.domain false) (Rows.fragJoinsSpec.post enc Try.prog Try.f4 false true false false) := by
  refine returnsInHanded_of_change (C := Try.checked) own started (by kernel_rfl) Try.func4
    (ChangeSpec.witness6 (enc := enc) (C := Try.checked) false ⟨#[], #[.agg #[.int .u16 0, .bool false, .int .u32 0, .int .u32 0, .slice none 0 0], .int .i64 0, .bool false], []⟩ 8 (by kernel_rfl) (by kernel_rfl) (by kernel_rfl) (by kernel_rfl)) ?_
  intro W base args ds gs before hval0 hW hcnd _
  have hval : ∀ (j : Nat) t v, Try.f4.params[j]? = some t → args[j]? = some v → Value.okWide Try.prog W .any base t v := hval0
  have hW' := hW
  obtain ⟨p, q, hA0, hV, rfl, hfz, hnd⟩ := hW
  have hA : DataW.TrodAll enc Try.prog W 0 (fun _ => true) true Try.f4.params.toList args.toList ds p := hA0
  rw [Try.params4] at hA hval
  obtain ⟨v0, vs0, d0, ds0, p0, q0, hargs, rfl, rfl, h0, r0⟩ := trodAll_cons hA
  obtain ⟨v1, vs1, d1, ds1, p1, q1, rfl, rfl, rfl, h1, r1⟩ := trodAll_cons r0
  obtain ⟨v2, vs2, d2, ds2, p2, q2, rfl, rfl, rfl, h2, r2⟩ := trodAll_cons r1
  obtain ⟨rfl, rfl, rfl⟩ := trodAll_nil r2
  obtain rfl : args = #[v0, v1, v2] := by cases args; simp_all
  obtain ⟨rfl, rfl⟩ := trodVars_none hV
  have lt0 : ∀ x ∈ p0, x.block < W.heap.size := by obtain ⟨m, hm⟩ := h0; exact DataW.trod_lt m _ _ _ hm
  obtain ⟨a1, rfl, rfl, rfl, w1⟩ := open_int Try.underlying3 (hval 1 3 v1 rfl rfl) h1
  obtain ⟨a2, rfl, rfl, rfl⟩ := open_bool Try.underlying4 (hval 2 4 v2 rfl rfl) h2
  clear hA0 hval0
  refine (walk v0 d0 p0 a1 a2 W (hval 0 26 v0 rfl rfl) h0 w1).mono fun e W' ⟨he, bel⟩ => ?_
  subst he
  exact ⟨_, rfl, _, _, _, [], _, [], hW', trodAll_mk1 (shut_bool Try.underlying4 _), (trodAll_cons_mk (Below.trod laidOut (by kernel_rfl) (of_decide_eq_true (by kernel_rfl)) h0 bel lt0) (trodAll_cons_mk (shut_int Try.underlying3 w1) (trodAll_cons_mk (shut_bool Try.underlying4 _) trodAll_mk0))), rfl, bel.frame _, fun h => by cases h⟩

theorem over : Rows.fragJoinsRow.holds Try.pinned (OpenSpec.ofChange Rows.fragJoinsSpec) :=
  OpenClaim.holds_of_wide 4 Try.f4 rfl rfl rfl rfl rfl rfl rfl ⟨rfl, rfl, rfl, rfl, rfl⟩ rfl rfl rfl rfl rfl (by kernel_rfl) Try.func4 (by kernel_rfl)
    (of_decide_eq_true (by kernel_rfl)) (by unfold Func.isWrapper; first | (rw [if_pos (by decide +kernel)]; kernel_rfl) | (rw [if_neg (by decide +kernel)]; exact ⟨rfl, rfl⟩))
    (fun os started H enc _ => lifted os started H enc)

theorem proved : Rows.FragJoinsSaid := over
#print axioms proved
end Go.Proofs.Ytabkjgklmibagaa.fragJoins
