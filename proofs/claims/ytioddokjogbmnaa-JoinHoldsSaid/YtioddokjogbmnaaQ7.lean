/-
  Of the texts JoinHoldsWalk: what the laws reach.
-/
import Derived.Test.YtioddokjogbmnaaRows
import Derived.Test.YtioddokjogbmnaaQ6
import Derived.WalkKit
import Derived.ProofKit
import Derived.OpenShut
import Derived.ShutString
import Derived.ChangeOld
import Derived.Below

namespace Go.Proofs.Ytioddokjogbmnaa.joinHolds
open Go.ChangeShapes Go.WideShapes Go.ChangeAt Go.RowKit
open Go.ChangeMaps (open_string shut_string)
set_option linter.unusedVariables false
set_option linter.unusedSimpArgs false
theorem own : ownKnob Try.prog.godebug = none := by kernel_rfl
theorem laidOut : laidOutB Try.prog = true := by kernel_rfl
/-- What the walk is told of a slice of integers that came in. -/
def IsRow (k : IntKind) (w : World) (a : Option Addr) (len cap : Nat) (zs : List Int) : Prop :=
  (a = none ∧ len = 0 ∧ cap = 0 ∧ zs = []) ∨
  ∃ x, a = some x ∧ len ≤ cap ∧ cap ≤ maxLen ∧ zs.length = cap ∧ (∀ i, i < zs.length → w.cell? (x.add i) = some (.int k (zs.getD i 0))) ∧ ∀ n ∈ zs, (Lit.int k n).wf = true
open Words Oct Par Chk
set_option maxHeartbeats 1600000 in
set_option maxRecDepth 100000 in
theorem walk {JRep : World → (Nat → Prop) → Nat → Bool → Jo.JS → Prop} (joinI : JoinI JRep) {H : Type} {enc : TypeId × Value → H} {base : Nat} (v0 : Value) (d0 : DataW H) (p0 : List MemPlace) (a1 : Option Addr) (len1 cap1 : Nat) (z1 : List Int) (v2 : Value) (d2 : DataW H) (p2 : List MemPlace) (w : World) (o0 : Value.okWide Try.prog w .any base 22 v0) (k0 : DataW.Trod enc Try.prog w 0 (fun _ => true) true 22 v0 d0 p0) (w1 : IsRow .i64 w a1 len1 cap1 z1) (o2 : Value.okWide Try.prog w .any base 24 v2) (k2 : DataW.Trod enc Try.prog w 0 (fun _ => true) true 24 v2 d2 p2) :
    Calls Try.prog 7 #[v0, .slice a1 len1 cap1, v2] w fun e w' => e = .returned (.bool true) ∧ Below w.heap.size w w' := by
  obtain ⟨A0, nB, cB, rfl⟩ := okWide_slice Try.underlying22 o0
  have hsee : Sees w (.slice Sh.bytes) [.slice A0 nB cB] := sees_of (sh := .slice Sh.bytes) rfl (by kernel_rfl) k0
  obtain ⟨Bs, hBn, hBc, hB63, hbods⟩ := bods_of hsee
  obtain ⟨x0, x1, x2, rfl, hx0, hx1, hx2⟩ := open_array3 Try.underlying24 (by kernel_rfl) Try.underlying3 (by kernel_rfl) o2 k2
  have hx0 := bounds_i64 hx0
  have hx1 := bounds_i64 hx1
  have hx2 := bounds_i64 hx2
  have keep : ∀ {V : World}, Below w.heap.size w V → ∀ {p : Addr} {u : Value}, w.cell? p = some u → V.cell? p = some u := fun {V} hb {p u} h => (hb.cell (World.block_lt_of_cell? w _ h)).trans h
  have HZ : Hid (∀ {V : World}, Below w.heap.size w V → ∀ i, i < len1 → ∃ a z, a1 = some a ∧ V.cell? (a.add i) = some (.int .i64 z) ∧ (Lit.int .i64 z).wf = true) := fun {V} hb i hi => by
    rcases w1 with ⟨_, h2, _⟩ | ⟨x, h1, h2, h3, h4, h5, h6⟩
    · omega
    · have hl : i < z1.length := by omega
      refine ⟨x, z1.getD i 0, h1, keep hb (h5 i hl), h6 _ ?_⟩
      rw [List.getD_eq_getElem?_getD, List.getElem?_eq_getElem hl]
      exact List.getElem_mem hl
  have hlen : len1 ≤ 9223372036854775807 := by
    rcases w1 with ⟨_, h2, _⟩ | ⟨x, h1, h2, h3, _⟩
    · omega
    · unfold maxLen at h3; omega
  have HBN := Lib.hid hBn
  have HBO := Lib.hid hbods
  clear w1 keep hsee o0 k0 o2 k2 hBn hbods
  go_enter Try.func7, Try.ntmps7
  go_upto_region 1 with (fail)
  obtain ⟨W1, hW1⟩ : ∃ W1, W1 = w.alloc (.cells #[.int .i64 x0, .int .i64 x1, .int .i64 x2] 24) := ⟨_, rfl⟩
  obtain ⟨ga, hga⟩ : ∃ ga, ga = w.heap.size := ⟨_, rfl⟩
  have HB1 : Hid (Below w.heap.size w W1) := by rw [hW1]; exact (Below.refl _ _).alloc (Nat.le_refl _) _
  have HA1 : Hid (Blk W1 ga 24 #[.int .i64 x0, .int .i64 x1, .int .i64 x2]) := by rw [hW1, hga]; exact Blk.new _ _ _
  rw [← hW1, ← hga]
  clear hW1 hga
  go_wp2_with fail
  refine (first_j joinI W1).mono ?_
  rintro e W2 ⟨rfl, hb2⟩
  have HA2 := Lib.hid (blk_below HA1.out hb2 HA1.out.lt)
  have HB2 := Lib.hid (HB1.out.trans (hb2.mono HB1.out.size))
  clear hb2 HA1 HB1
  have c0 : W2.cell? ⟨ga, 0, none⟩ = some (.int .i64 x0) := HA2.out.cell 0
  have c1 : W2.cell? ⟨ga, 1, none⟩ = some (.int .i64 x1) := HA2.out.cell 1
  have c2 : W2.cell? ⟨ga, 2, none⟩ = some (.int .i64 x2) := HA2.out.cell 2
  go_wp2_with fail
  obtain ⟨inter, hin⟩ : ∃ b, b = (x0.tmod 2 == 0) := ⟨_, rfl⟩
  obtain ⟨lo, hlo⟩ : ∃ b, b = (x2.tmod 2 == 0) := ⟨_, rfl⟩
  rw [← hin, ← hlo]
  generalize x0.tmod 2 = r0
  generalize x2.tmod 2 = r2
  clear hin hlo c0 c1 c2 HA2
  refine (sent_any cut_c HBN.out hBc hB63 ((HBO.out.below HB2.out).more HB2.out.size) hx1).mono ?_
  rintro e W3 ⟨K, hK1, hK2, N, A, n, cp, hfine, _, rfl, hnc, hc63, HNL, HOC, HB3⟩
  have HF := Lib.hid hfine
  have HCK := Lib.hid HOC.out.cks
  have hn3 : n ≤ 3000 := by have := sentN_length (inter := inter) (lo := lo) hK1 hfine; have := fine_le hfine; have := HNL.out; omega
  have HB3' := Lib.hid (HB2.out.trans (HB3.out.mono HB2.out.size))
  clear hfine HOC HB3
  go_wp2_with fail
  refine (joinI.new W3 inter).mono ?_
  rintro e W4 ⟨G0, p, rfl, hr, hg, hb4⟩
  have HS0 : Hid (SeJ JRep W3 W4 G0 p inter js0 (.slice none 0 0) 0 (fun _ => false)) := SeJ.new ⟨hr, hg, hb4.out⟩
  clear hr hg hb4
  obtain ⟨t0, ht0, htz0, htz1, htz2⟩ := info_parts3 int_info
  go_wp2_with fail
  go_loopw [10, 35] (fun v10 v35 wr => ∃ (i c' : Nat) (As : Option Addr), v10 = .slice As i c' ∧ v35 = .int .i64 (i : Int) ∧ i ≤ n ∧ i ≤ c' ∧ c' ≤ 9223372036854775807 ∧ Hid (SeJ JRep W3 wr G0 p inter js0 (.slice As i c') i (fun _ => false))) (fun _ v35 _ => n - (intOf v35).toNat)
  case atStart => exact ⟨0, 0, none, rfl, rfl, by omega, by omega, by omega, HS0⟩
  case round =>
    clear HS0
    obtain ⟨i, c', As, rfl, rfl, hi, hic, hc', HS⟩ := hrel
    by_cases hlt : i < n
    · have hBs : W3.heap.size ≤ (wr.alloc (.cells #[.int .i64 0] 3)).heap.size := Nat.le_trans HS.out.bel.size (by simp)
      have HRW := Lib.hid HS.out.row
      go_wp2_with (at_builtin; refine wpList_append_any _ rfl (.tmp 37) (.tmp 38) _ rfl W3.heap.size 3 t0 _ 1 8 Try.underlying23 ht0 htz0 htz1 htz2 rfl (by omega) (.slice As i c') i _ rfl (HRW.out.alloc _) (wr.heap.size + 1) (some ⟨wr.heap.size, 0, none⟩) 1 1 [.int .i64 0] rfl (blk_reads (Blk.new wr 3 #[.int .i64 0]) rfl) (by simp [Value.oneCell']) (by simp only [maxLen]; omega) (by omega) hBs ?_; intro v7 w7 hown7 hg7 hat7; have HG := Lib.hid (HS.out.append joinI hown7 hg7 hat7); obtain ⟨A7, c7, rfl, h7a, h7b⟩ := own_slice hown7; clear hown7 hg7 hat7)
      go_roundw
      case rel => exact ⟨i + 1, c7, A7, rfl, by go_num, by omega, h7a, h7b, HG⟩
      case measure => simp [intOf]; omega
    · have hie : n = i := by omega
      subst hie
      go_upto_region 12 with (fail)
      go_cut [43, 44] from 41 to 44 (fun v43 v44 wx => ∃ m : Nat, v43 = .int .i64 (m : Int) ∧ v44 = .int .i64 0 ∧ m ≤ 100 ∧ m ≤ len1 ∧ wr = wx)
      case first =>
        by_cases h60 : 100 < len1
        · have h60' : (100 : Int) < (len1 : Int) := by omega
          go_wp2_with fail
          go_meet
          exact ⟨100, rfl, rfl, by omega, by omega, rfl⟩
        · have h60' : ¬ (100 : Int) < (len1 : Int) := by omega
          go_wp2_with fail
          go_meet
          exact ⟨len1, rfl, rfl, by omega, by omega, rfl⟩
      obtain ⟨m, rfl, rfl, hm1, hml, rfl⟩ := hcut
      go_upto_region 13 with (fail)
      have HU0 : Hid (UJ Bs K inter lo N (fun _ => false) js0) := sent_uj hK1 HF.out
      have HH0 : Hid (0 = Jo.held js0) := rfl
      obtain ⟨wo, rfl⟩ : ∃ wo : World, wo = wr := ⟨_, rfl⟩
      go_loopw [11, 44] (fun v11 v44 wr => ∃ (i h : Nat) (G : Nat → Prop) (s : Jo.JS) (b : Nat → Bool), v11 = .int .i64 (h : Int) ∧ v44 = .int .i64 (i : Int) ∧ i ≤ m ∧ h ≤ 40 * i ∧ Hid (h = Jo.held s) ∧ Hid (SeJ JRep W3 wr G p inter s (.slice As n c') n b) ∧ Hid (UJ Bs K inter lo N b s)) (fun _ v44 _ => m - (intOf v44).toNat)
      case atStart => exact ⟨0, 0, G0, js0, _, rfl, rfl, by omega, by omega, HH0, HS, HU0⟩
      case round =>
        clear HS HU0 HH0
        obtain ⟨i, h, G, s, b, rfl, rfl, hi, hh, HH, HS, HU⟩ := hrel
        by_cases hlt : i < m
        · by_cases hn0 : n = 0
          · have hnz : (n : Int) = 0 := by omega
            go_wp2_with fail
            go_ret
            exact ⟨rfl, HB3'.out.trans (HS.out.bel.mono HB3'.out.size)⟩
          · have hnz : (n : Int) ≠ 0 := by omega
            obtain ⟨a, z, rfl, cz, hz⟩ := HZ.out (HB3'.out.trans (HS.out.bel.mono HB3'.out.size)) i (by omega)
            have hz := bounds_i64 hz
            go_upto_region 17 with (fail)
            obtain ⟨k, hk1, hk⟩ := u64rem z (n : Int) (by omega) (by omega)
            have hk : k < n := by omega
            rw [hk1]
            clear hk1
            obtain ⟨g, c2, hv, hc1, hc2, cs, zs⟩ := HS.out.flag hk
            injection hv with hv _ hv2
            subst hv hv2
            obtain ⟨fv, hfv⟩ : ∃ fv : Int, fv = if b k = true then 1 else 0 := ⟨_, rfl⟩
            rw [← hfv] at cs
            have HFV := Lib.hid hfv
            clear hfv
            go_upto_if 64 with (fail)
            generalize ((n : Int) == 0) = d1
            go_cut [11] from 64 to 82 (fun v11 wx => ∃ (h' : Nat) (G' : Nat → Prop) (s' : Jo.JS) (b' : Nat → Bool), v11 = .int .i64 (h' : Int) ∧ h' ≤ h + 40 ∧ Hid (h' = Jo.held s') ∧ Hid (SeJ JRep W3 wx G' p inter s' (.slice (some ⟨g, 0, none⟩) n c') n b') ∧ Hid (UJ Bs K inter lo N b' s'))
            case first =>
              cases hbk : b k
              · have hf0 : (fv == 0) = true := by rw [HFV.out, hbk]; rfl
                obtain ⟨pj, pf, hpie⟩ := pie_of (inter := inter) (lo := lo) hK1 hK2 HF.out (i := k) (by rw [← HNL.out]; exact hk)
                have HPIE := Lib.hid hpie
                have HBK := Lib.hid hbk
                have HS1 := Lib.hid (HS.out.mark joinI hk)
                clear hpie hbk
                go_upto_region 19 with (fail)
                obtain ⟨W5, hW5⟩ : ∃ W5, W5 = wr.setCell ⟨g, k, none⟩ (.int .i64 1) := ⟨_, rfl⟩
                rw [← hW5] at HS1 ⊢
                clear hW5 cs zs HS
                obtain ⟨ad, cks, rfl, hsz, hck, hcl⟩ := piece_at HCK.out HS1.out.bel HPIE.out
                have HSZ := Lib.hid hsz
                have HCKA := Lib.hid hck
                have HCL := Lib.hid hcl
                clear hsz hck hcl
                go_wp2_with (refine wpList_load_any rfl 41 _ rfl (ad.add (k * 19)) rfl cks _ HCL.out Try.underlying41 rfl (by rw [HSZ.out]; exact chunk_info) ?_)
                refine (HS1.out.put joinI HPIE.out.kind HCKA.out HPIE.out.body (by have := HH.out; have := HPIE.out.small; omega)).mono ?_
                rintro e W6 ⟨r, s6, G6, rfl, H6, HP6⟩
                obtain ⟨rfl, hu6, hheld⟩ := HU.out.put hK1 HF.out HPIE.out HBK.out HP6.out
                have HU6 := Lib.hid hu6
                obtain ⟨nb, hnb⟩ : ∃ nb, nb = (ckS Bs K inter lo pj pf).body.length := ⟨_, rfl⟩
                rw [← hnb] at hheld
                have hnb4 : nb ≤ 40 := by rw [hnb]; exact HPIE.out.small
                have HH6 : Hid (h + nb = Jo.held s6) := by show _ = _; rw [hheld, ← HH.out]
                obtain ⟨ad', cks6, he6, hsz6, hck6, hcl6⟩ := piece_at HCK.out H6.out.bel HPIE.out
                injection he6 with he6
                subst he6
                obtain ⟨_, _, _, _, bb, pb, _⟩ := hck6.parts
                have cb := hcl6 18 _ pb.c18
                rw [← hnb] at cb
                have cb2 := cb
                rw [add_lit _ (by omega)] at cb2
                clear hu6 hheld hnb hsz6 hck6 hcl6 pb HP6 HCL HCKA HSZ HS1 HU HH
                go_wp2_with fail
                go_meet
                exact ⟨h + nb, G6, s6, _, by go_num, by omega, HH6, H6, HU6⟩
              · have hf1 : (fv == 0) = false := by rw [HFV.out, hbk]; rfl
                clear hbk
                go_wp2_with fail
                go_meet
                exact ⟨h, G, s, b, rfl, by omega, HH, HS, HU⟩
            case rest =>
              obtain ⟨h2, G2, s2, b2, rfl, hh2, HH2, HS2, HU2⟩ := hcut
              obtain ⟨W7, hW7⟩ : ∃ W7, W7 = wc := ⟨_, rfl⟩
              rw [← hW7] at HS2 ⊢
              clear hW7 HS HU HH cs zs cz HFV
              obtain ⟨a', z', ha', cz, hz'⟩ := HZ.out (HB3'.out.trans (HS2.out.bel.mono HB3'.out.size)) i (by omega)
              injection ha' with ha'
              subst ha'
              have hz' := bounds_i64 hz'
              go_upto_if 88 with (fail)
              generalize (z'.tmod 3 == 0) = d3
              go_cut [11] from 88 to 98 (fun v11 wx => ∃ (h' : Nat) (G' : Nat → Prop) (s' : Jo.JS), v11 = .int .i64 (h' : Int) ∧ h' ≤ h2 ∧ Hid (h' = Jo.held s') ∧ Hid (SeJ JRep W3 wx G' p inter s' (.slice (some ⟨g, 0, none⟩) n c') n b2) ∧ Hid (UJ Bs K inter lo N b2 s'))
              case first =>
                cases d3
                · go_wp2_with fail
                  go_meet
                  exact ⟨h2, G2, s2, rfl, Nat.le_refl _, HH2, HS2, HU2⟩
                · have HTK := Lib.hid (HS2.out.take joinI)
                  go_wp2_with fail
                  refine HTK.out.mono ?_
                  rintro e W8 ⟨m8, A8, nb, cp8, t, s8, G8, rfl, H8, hm8, hnb8, hcp1, hcp2, hy8⟩
                  have HU8 := Lib.hid (HU2.out.take hm8.out)
                  have hhd := held_take hm8.out
                  rw [← hnb8.out, ← HH2.out] at hhd
                  have HH8 : Hid (h2 - nb = Jo.held s8) := by show _ = _; omega
                  have hnb2 : nb ≤ h2 := by omega
                  clear hhd hm8 hnb8 hy8 HTK HU2 HH2
                  obtain ⟨y1, y2, y3, y4, y5⟩ := m8
                  simp only [mCells]
                  go_upto_region 24 with (fail)
                  obtain ⟨W9, hW9⟩ : ∃ W9, W9 = W8.alloc (.cells #[.int .u16 (y1 : Int), .bool y2, .int .u32 (y3 : Int), .int .u32 (y4 : Int), .slice A8 nb cp8] 43) := ⟨_, rfl⟩
                  obtain ⟨gm, hgm⟩ : ∃ gm, gm = W8.heap.size := ⟨_, rfl⟩
                  have H9 : Hid (SeJ JRep W3 W9 G8 p inter s8 (.slice (some ⟨g, 0, none⟩) n c') n b2) := by
                    rw [hW9]
                    exact H8.out.grows joinI (below_one _ _)
                  have c4 : W9.cell? ⟨gm, 4, none⟩ = some (.slice A8 nb cp8) := by
                    rw [hW9, hgm]
                    exact (Blk.new W8 43 #[.int .u16 (y1 : Int), .bool y2, .int .u32 (y3 : Int), .int .u32 (y4 : Int), .slice A8 nb cp8]).cell 4
                  rw [← hW9, ← hgm]
                  clear hW9 hgm H8 HS2
                  go_wp2_with fail
                  go_meet
                  exact ⟨h2 - nb, G8, s8, by go_num, by omega, HH8, H9, HU8⟩
              case rest =>
                obtain ⟨h3, G3, s3, rfl, hh3, HH3, HS3, HU3⟩ := hcut
                obtain ⟨W10, hW10⟩ : ∃ W10, W10 = wc := ⟨_, rfl⟩
                rw [← hW10] at HS3 ⊢
                clear hW10 HS2 HU2 HH2 cz
                have HHC := Lib.hid (HS3.out.held joinI)
                rw [← HH3.out] at HHC
                go_wp2_with fail
                refine HHC.out.mono ?_
                rintro e W11 ⟨rfl, H11⟩
                go_wp2_with fail
                go_roundw
                case rel => exact ⟨i + 1, h3, G3, s3, b2, rfl, by go_num, by omega, by omega, HH3, H11, HU3⟩
                case measure => simp [intOf]; omega
        · go_wp2_with fail
          go_ret
          exact ⟨rfl, HB3'.out.trans (HS.out.bel.mono HB3'.out.size)⟩
end Go.Proofs.Ytioddokjogbmnaa.joinHolds
