/-
  packet.copies: chunks of the call's own.
-/
import Derived.Test.YtpgklhecmafnbaaClone
set_option linter.unusedVariables false
set_option linter.unusedSimpArgs false
namespace Go.Proofs.Ytpgklhecmafnbaa.Chk
open Go.Proofs.Ytpgklhecmafnbaa
open Go.ChangeShapes Go.WideShapes Go.ChangeAt Go.RowKit Go.Deep Go.Proofs.Ytpgklhecmafnbaa.Words Go.Proofs.Ytpgklhecmafnbaa.Oct Go.Proofs.Ytpgklhecmafnbaa.Par

def RowO (l : List UInt8) (B : Nat) (v : Value) (V : World) : Prop := ∃ A c, v = .slice A l.length c ∧ l.length ≤ c ∧ c ≤ 9223372036854775807 ∧ Own V B v l
set_option maxHeartbeats 16000000 in
set_option maxRecDepth 100000 in
theorem copies_k {w : World} {A : Option Addr} {ls : List Ck} {n c : Nat} (hn : n = ls.length) (hn9 : n ≤ 1000000) (hs : ∀ c ∈ ls, sizeC c ≤ 1000000) (h : Cks w w.heap.size A ls) :
    Calls Try.prog 63 #[.slice A n c] w fun e w' => (∃ v, e = .returned v ∧ OwnCks w' w.heap.size v ls) ∧ Below w.heap.size w w' := by
  obtain ⟨xs, hxr, hx1, hxk⟩ := h.row
  rw [← hn] at hxr
  have HN := Lib.hid hn
  have HS := Lib.hid hs
  have HOK : Hid (∀ c ∈ ls, c.ok) := fun c hc => by
    obtain ⟨k, hk, e⟩ := List.getElem_of_mem hc
    obtain ⟨cs, _, h3⟩ := hxk k c (by rw [List.getElem?_eq_getElem hk, e])
    exact h3.ok
  have HR := Lib.hid hxr
  have H1 := Lib.hid hx1
  have HK := Lib.hid hxk
  clear hn hs h hxr hx1 hxk
  go_enter Try.func63, Try.ntmps63
  go_wp2_with fail
  refine (clone_k A xs n c w hn9 HR.out H1.out).mono ?_
  rintro e W1 ⟨⟨v1, rfl, ho1⟩, hb1⟩
  obtain ⟨A1, c1, rfl, hc1, hc2⟩ := own_slice ho1
  have HS0 : Hid (CpSt w W1 A1 n c1 ls 0) := CpSt.start (A0 := A) hb1 ho1 HK.out
  have HB1 := Lib.hid hb1
  clear ho1 hb1 HR H1 HK
  go_wp2_with fail
  go_loopw [3, 4, 5, 6, 11] (fun _ _ _ _ i wr => ∃ (k : Nat), k ≤ n ∧ i = .int .i64 k ∧ Hid (CpSt w wr A1 n c1 ls k) ∧ Hid (Below w.heap.size w wr)) (fun _ _ _ _ i _ => n - (intOf i).toNat)
  case atStart => exact ⟨0, by omega, rfl, HS0, HB1⟩
  case round =>
    obtain ⟨k, hk, rfl, HSk, HBk⟩ := hrel
    by_cases hlt : k < n
    · have hk2 : k < ls.length := by rw [← HN.out]; exact hlt
      obtain ⟨ck, hck⟩ : ∃ ck, ck = ls[k] := ⟨_, rfl⟩
      have HKQ : Hid (ls[k]? = some ck) := by rw [hck]; exact List.getElem?_eq_getElem hk2
      have HSC : Hid (sizeC ck ≤ 1000000) := HS.out ck (by rw [hck]; exact List.getElem_mem _)
      obtain ⟨g, cs, rfl, hcp, hat⟩ := HSk.out.at_ HKQ.out HN.out
      obtain ⟨cg, cd, csk, cpp, cb, hcs, hcl⟩ := parts_e hat
      have HCL := Lib.hid hcl
      obtain ⟨ng, hng⟩ : ∃ n, n = ck.gaps.length := ⟨_, rfl⟩
      obtain ⟨nd, hnd⟩ : ∃ n, n = ck.dups.length := ⟨_, rfl⟩
      obtain ⟨ns, hns⟩ : ∃ n, n = ck.skips.length := ⟨_, rfl⟩
      obtain ⟨np, hnp⟩ : ∃ n, n = ck.ps.length := ⟨_, rfl⟩
      obtain ⟨nb, hnb⟩ : ∃ n, n = ck.body.length := ⟨_, rfl⟩
      rw [← hng, ← hnd, ← hns, ← hnp, ← hnb] at hcs
      subst hcs
      have hnn : ng ≤ 250000 ∧ nd ≤ 250000 ∧ ns ≤ 125000 ∧ nb ≤ 1000000 := by
        have hs := HSC.out
        unfold sizeC at hs
        omega
      obtain ⟨hng9, hnd9, hns9, hnb9⟩ := hnn
      have HSP : Hid (sizeL ck.ps ≤ 1000000) := by have := HSC.out; unfold sizeC at this; show _ ≤ _; omega
      have hnp9 : np ≤ 250000 := by have := len_le_size ck.ps; have := HSP.out; omega
      have HNG := Lib.hid hng
      have HND := Lib.hid hnd
      have HNS := Lib.hid hns
      have HNP := Lib.hid hnp
      have HNB := Lib.hid hnb
      obtain ⟨W0, hW0⟩ : ∃ W, W = wr := ⟨_, rfl⟩
      rw [← hW0] at hcp HCL HBk ⊢
      have HC0 := Lib.hid hcp
      have HB0 : Hid (Below w.heap.size W0 W0) := Below.refl _ _
      clear hng hnd hns hnp hnb hcp hat hcl hck HSk hW0
      go_upto_region 6 with fail

      have o14 : W0.cell? ⟨g, k * 19 + 14, none⟩ = some (.slice cg.A ng cg.cap) := (HC0.out.cellAt hlt 14 (by omega)).trans rfl
      go_wp2_with fail
      refine (clone_gap cg.A (gapC ck.gaps) ng cg.cap W0 (by omega) (by rw [HNG.out]; exact (HCL.out.gaps.keep (fun q hq => HB0.out.cell hq)).more HC0.out.bel.size) (gapC_ones _)).mono ?_
      rintro e V14 ⟨⟨v14, rfl, ho14⟩, hb14⟩
      obtain ⟨A14, c14, rfl, _, _⟩ := own_slice ho14
      have HCV := Lib.hid (HC0.out.grows hb14)
      have x14 : V14.cell? ⟨g, k * 19 + 14, none⟩ = some (.slice cg.A ng cg.cap) := (HCV.out.cellAt hlt 14 (by omega)).trans rfl
      have z14 := HCV.out.frozenAt (k * 19 + 14)
      have HOV := Lib.hid ho14
      have HBV := Lib.hid hb14
      clear ho14 hb14 o14
      go_upto_region 7 with fail
      obtain ⟨W1, hW⟩ : ∃ W, W = V14.setCell ⟨g, k * 19 + 14, none⟩ (.slice A14 ng c14) := ⟨_, rfl⟩
      have HC1 : Hid (CpAt w W1 g n c1 ls k (ckArr ck (.slice A14 ng c14) (.slice cd.A nd cd.cap) (.slice csk.A ns csk.cap) (.slice cpp.A np cpp.cap) (.slice cb.A nb cb.cap))) := by rw [hW]; exact HCV.out.set_ hlt 14 (by omega) _
      have HB1 : Hid (Below w.heap.size W0 W1) := by rw [hW]; exact HCV.out.belS (HB0.out.trans (HBV.out.mono HC0.out.bel.size)) _ _
      have HO14 : Hid (W1.ownsRow w.heap.size 85 2 (.slice A14 ng c14) ng (gapC ck.gaps)) := by rw [hW]; exact own_mono (HCV.out.newO HOV.out (by decide) _ _) HC0.out.bel.size
      rw [← hW]
      clear hW x14 z14 HCV HOV HBV HC0 HB0
      have o15 : W1.cell? ⟨g, k * 19 + 15, none⟩ = some (.slice cd.A nd cd.cap) := (HC1.out.cellAt hlt 15 (by omega)).trans rfl
      go_wp2_with fail
      refine (clone_dup cd.A (dupC ck.dups) nd cd.cap W1 (by omega) (by rw [HND.out]; exact (HCL.out.dups.keep (fun q hq => HB1.out.cell hq)).more HC1.out.bel.size) (dupC_ones _)).mono ?_
      rintro e V15 ⟨⟨v15, rfl, ho15⟩, hb15⟩
      obtain ⟨A15, c15, rfl, _, _⟩ := own_slice ho15
      have HCV := Lib.hid (HC1.out.grows hb15)
      have x15 : V15.cell? ⟨g, k * 19 + 15, none⟩ = some (.slice cd.A nd cd.cap) := (HCV.out.cellAt hlt 15 (by omega)).trans rfl
      have z15 := HCV.out.frozenAt (k * 19 + 15)
      have HOV := Lib.hid ho15
      have HBV := Lib.hid hb15
      clear ho15 hb15 o15
      go_upto_region 8 with fail
      obtain ⟨W2, hW⟩ : ∃ W, W = V15.setCell ⟨g, k * 19 + 15, none⟩ (.slice A15 nd c15) := ⟨_, rfl⟩
      have HC2 : Hid (CpAt w W2 g n c1 ls k (ckArr ck (.slice A14 ng c14) (.slice A15 nd c15) (.slice csk.A ns csk.cap) (.slice cpp.A np cpp.cap) (.slice cb.A nb cb.cap))) := by rw [hW]; exact HCV.out.set_ hlt 15 (by omega) _
      have HB2 : Hid (Below w.heap.size W0 W2) := by rw [hW]; exact HCV.out.belS (HB1.out.trans (HBV.out.mono HC1.out.bel.size)) _ _
      have HO14 : Hid (W2.ownsRow w.heap.size 85 2 (.slice A14 ng c14) ng (gapC ck.gaps)) := by rw [hW]; exact HC1.out.keepO HBV.out HO14.out (by decide) _ _
      have HO15 : Hid (W2.ownsRow w.heap.size 25 1 (.slice A15 nd c15) nd (dupC ck.dups)) := by rw [hW]; exact own_mono (HCV.out.newO HOV.out (by decide) _ _) HC1.out.bel.size
      rw [← hW]
      clear hW x15 z15 HCV HOV HBV HC1 HB1
      have o16 : W2.cell? ⟨g, k * 19 + 16, none⟩ = some (.slice csk.A ns csk.cap) := (HC2.out.cellAt hlt 16 (by omega)).trans rfl
      go_wp2_with fail
      refine (clone_skp csk.A (skC ck.skips) ns csk.cap W2 (by omega) (by rw [HNS.out]; exact (HCL.out.skips.keep (fun q hq => HB2.out.cell hq)).more HC2.out.bel.size) (skC_ones _)).mono ?_
      rintro e V16 ⟨⟨v16, rfl, ho16⟩, hb16⟩
      obtain ⟨A16, c16, rfl, _, _⟩ := own_slice ho16
      have HCV := Lib.hid (HC2.out.grows hb16)
      have x16 : V16.cell? ⟨g, k * 19 + 16, none⟩ = some (.slice csk.A ns csk.cap) := (HCV.out.cellAt hlt 16 (by omega)).trans rfl
      have z16 := HCV.out.frozenAt (k * 19 + 16)
      have HOV := Lib.hid ho16
      have HBV := Lib.hid hb16
      clear ho16 hb16 o16
      go_upto_region 9 with fail
      obtain ⟨W3, hW⟩ : ∃ W, W = V16.setCell ⟨g, k * 19 + 16, none⟩ (.slice A16 ns c16) := ⟨_, rfl⟩
      have HC3 : Hid (CpAt w W3 g n c1 ls k (ckArr ck (.slice A14 ng c14) (.slice A15 nd c15) (.slice A16 ns c16) (.slice cpp.A np cpp.cap) (.slice cb.A nb cb.cap))) := by rw [hW]; exact HCV.out.set_ hlt 16 (by omega) _
      have HB3 : Hid (Below w.heap.size W0 W3) := by rw [hW]; exact HCV.out.belS (HB2.out.trans (HBV.out.mono HC2.out.bel.size)) _ _
      have HO14 : Hid (W3.ownsRow w.heap.size 85 2 (.slice A14 ng c14) ng (gapC ck.gaps)) := by rw [hW]; exact HC2.out.keepO HBV.out HO14.out (by decide) _ _
      have HO15 : Hid (W3.ownsRow w.heap.size 25 1 (.slice A15 nd c15) nd (dupC ck.dups)) := by rw [hW]; exact HC2.out.keepO HBV.out HO15.out (by decide) _ _
      have HO16 : Hid (W3.ownsRow w.heap.size 87 3 (.slice A16 ns c16) ns (skC ck.skips)) := by rw [hW]; exact own_mono (HCV.out.newO HOV.out (by decide) _ _) HC2.out.bel.size
      rw [← hW]
      clear hW x16 z16 HCV HOV HBV HC2 HB2
      have o18 : W3.cell? ⟨g, k * 19 + 18, none⟩ = some (.slice cb.A nb cb.cap) := (HC3.out.cellAt hlt 18 (by omega)).trans rfl
      go_wp2_with fail
      refine (clone_as cb.A ck.body nb cb.cap W3 HNB.out (by rw [← HNB.out]; exact hnb9) ((HCL.out.body.keep (fun q hq => HB3.out.cell hq)).more HC3.out.bel.size)).mono ?_
      rintro e V18 ⟨⟨v18, rfl, ho18⟩, hb18⟩
      unfold Own at ho18
      rw [← HNB.out] at ho18
      obtain ⟨A18, c18, rfl, _, _⟩ := own_slice ho18
      have HCV := Lib.hid (HC3.out.grows hb18)
      have x18 : V18.cell? ⟨g, k * 19 + 18, none⟩ = some (.slice cb.A nb cb.cap) := (HCV.out.cellAt hlt 18 (by omega)).trans rfl
      have z18 := HCV.out.frozenAt (k * 19 + 18)
      have HOV := Lib.hid ho18
      have HBV := Lib.hid hb18
      clear ho18 hb18 o18
      go_upto_region 10 with fail
      obtain ⟨W4, hW⟩ : ∃ W, W = V18.setCell ⟨g, k * 19 + 18, none⟩ (.slice A18 nb c18) := ⟨_, rfl⟩
      have HC4 : Hid (CpAt w W4 g n c1 ls k (ckArr ck (.slice A14 ng c14) (.slice A15 nd c15) (.slice A16 ns c16) (.slice cpp.A np cpp.cap) (.slice A18 nb c18))) := by rw [hW]; exact HCV.out.set_ hlt 18 (by omega) _
      have HB4 : Hid (Below w.heap.size W0 W4) := by rw [hW]; exact HCV.out.belS (HB3.out.trans (HBV.out.mono HC3.out.bel.size)) _ _
      have HO14 : Hid (W4.ownsRow w.heap.size 85 2 (.slice A14 ng c14) ng (gapC ck.gaps)) := by rw [hW]; exact HC3.out.keepO HBV.out HO14.out (by decide) _ _
      have HO15 : Hid (W4.ownsRow w.heap.size 25 1 (.slice A15 nd c15) nd (dupC ck.dups)) := by rw [hW]; exact HC3.out.keepO HBV.out HO15.out (by decide) _ _
      have HO16 : Hid (W4.ownsRow w.heap.size 87 3 (.slice A16 ns c16) ns (skC ck.skips)) := by rw [hW]; exact HC3.out.keepO HBV.out HO16.out (by decide) _ _
      have HO18 : Hid (W4.ownsRow w.heap.size 5 1 (.slice A18 nb c18) nb (u8s ck.body)) := by rw [hW]; exact own_mono (HCV.out.newO HOV.out (by decide) _ _) HC3.out.bel.size
      rw [← hW]
      clear hW x18 z18 HCV HOV HBV HC3 HB3
      have o17 : W4.cell? ⟨g, k * 19 + 17, none⟩ = some (.slice cpp.A np cpp.cap) := (HC4.out.cellAt hlt 17 (by omega)).trans rfl
      have HPS : Hid (Ps W4 w.heap.size cpp.A ck.ps) := HCL.out.ps.keep (fun q hq => HB4.out.cell hq)
      obtain ⟨ys, hyr, hy1, hyk⟩ := Ps.row HPS.out
      rw [← HNP.out] at hyr
      have HYR := Lib.hid hyr
      have HY1 := Lib.hid hy1
      have HYK := Lib.hid hyk
      clear hyr hy1 hyk HPS
      go_wp2_with fail
      refine (clone_prm cpp.A ys np cpp.cap W4 (by omega) (HYR.out.more HC4.out.bel.size) HY1.out).mono ?_
      rintro e V17 ⟨⟨v17, rfl, ho17⟩, hb17⟩
      obtain ⟨A17, c17, rfl, hc17, hc17b⟩ := own_slice ho17
      have HCV := Lib.hid (HC4.out.grows hb17)
      have x17 : V17.cell? ⟨g, k * 19 + 17, none⟩ = some (.slice cpp.A np cpp.cap) := (HCV.out.cellAt hlt 17 (by omega)).trans rfl
      have z17 := HCV.out.frozenAt (k * 19 + 17)
      have HOV := Lib.hid ho17
      have HBV := Lib.hid hb17
      clear ho17 hb17 o17 HYR HY1
      go_upto_region 11 with fail
      obtain ⟨W5, hW⟩ : ∃ W, W = V17.setCell ⟨g, k * 19 + 17, none⟩ (.slice A17 np c17) := ⟨_, rfl⟩
      obtain ⟨U5, hU⟩ : ∃ U, U = W4.setCell ⟨g, k * 19 + 17, none⟩ (.slice A17 np c17) := ⟨_, rfl⟩
      have HSZ : Hid (U5.heap.size = W4.heap.size) := by rw [hU]; show _ = _; simp [World.setCell]
      have HUW : Hid (Below W4.heap.size U5 W5) := by rw [hU, hW]; exact below_both HBV.out _ _
      obtain ⟨H, hH⟩ : ∃ H, H = W4.heap.size := ⟨_, rfl⟩
      rw [← hH] at HSZ HUW
      have HC5 : Hid (CpAt w U5 g n c1 ls k (ckArr ck (.slice A14 ng c14) (.slice A15 nd c15) (.slice A16 ns c16) (.slice A17 np c17) (.slice A18 nb c18))) := by rw [hU]; exact HC4.out.set_ hlt 17 (by omega) _
      have HU14 : Hid (U5.ownsRow w.heap.size 85 2 (.slice A14 ng c14) ng (gapC ck.gaps)) := by rw [hU]; exact HC4.out.newO HO14.out (by decide) _ _
      have HU15 : Hid (U5.ownsRow w.heap.size 25 1 (.slice A15 nd c15) nd (dupC ck.dups)) := by rw [hU]; exact HC4.out.newO HO15.out (by decide) _ _
      have HU16 : Hid (U5.ownsRow w.heap.size 87 3 (.slice A16 ns c16) ns (skC ck.skips)) := by rw [hU]; exact HC4.out.newO HO16.out (by decide) _ _
      have HU18 : Hid (U5.ownsRow w.heap.size 5 1 (.slice A18 nb c18) nb (u8s ck.body)) := by rw [hU]; exact HC4.out.newO HO18.out (by decide) _ _
      have HP5 : Hid (PmSt W5 H A17 np c17 ck.ps 0) := by
        refine PmSt.start ?_ (fun k p hp => ?_) (xs := ys)
        · rw [hW, hH]; exact HCV.out.newO HOV.out (by decide) _ _
        · obtain ⟨q1, a, c, q2, q3, q4, q5, q6⟩ := HYK.out k p hp
          refine ⟨q1, a, c, q2, q3, q4, q5, ?_⟩
          rw [hH, hW]
          exact (q6.below (HCV.out.belS (HBV.out.mono HC4.out.bel.size) _ _)).more HC4.out.bel.size
      have o17 : W5.cell? ⟨g, k * 19 + 17, none⟩ = some (.slice A17 np c17) := by
        have := HC5.out.cellAt hlt 17 (by omega)
        rw [← HUW.out.cell (show (⟨g, k * 19 + 17, none⟩ : Addr).block < H by have := HC5.out.blk.2; have := HSZ.out; simp only; omega)] at this
        exact this.trans rfl
      have hwH : w.heap.size ≤ H := by rw [hH]; exact HC4.out.bel.size
      rw [← hW]
      clear hW hU hH x17 z17 HCV HOV HBV HC4 HB4 HO14 HO15 HO16 HO18 HYK

      go_wp2_with fail
      go_loopw [5, 6, 62] (fun _ _ i wq => ∃ (m : Nat), m ≤ np ∧ i = .int .i64 m ∧ Hid (PmSt wq H A17 np c17 ck.ps m) ∧ Hid (Below H U5 wq)) (fun _ _ i _ => np - (intOf i).toNat)
      case atStart => exact ⟨0, by omega, rfl, HP5, HUW⟩
      case round =>
        obtain ⟨m, hm, rfl, HPm, HUm⟩ := hrel
        by_cases hltm : m < np
        · have hm2 : m < ck.ps.length := by rw [← HNP.out]; exact hltm
          obtain ⟨p, hp⟩ : ∃ p, p = ck.ps[m] := ⟨_, rfl⟩
          have HPQ : Hid (ck.ps[m]? = some p) := by rw [hp]; exact List.getElem?_eq_getElem hm2
          have hpl : p.2.length ≤ 1000000 := by have := val_le_size ck.ps p (by rw [hp]; exact List.getElem_mem _); have := HSP.out; omega
          obtain ⟨gp, a, cv, rfl, hgp1, hgp2, hp16, hc0, hc1', hvc, hvm, hvb⟩ := HPm.out.at_ HPQ.out HNP.out
          have HVB := Lib.hid hvb
          obtain ⟨nv, hnv⟩ : ∃ nv, nv = p.2.length := ⟨_, rfl⟩
          rw [← hnv] at hc1' hvc hpl
          have HNV := Lib.hid hnv
          obtain ⟨kd, hkd⟩ : ∃ kd, kd = p.1 := ⟨_, rfl⟩
          rw [← hkd] at hp16 hc0
          clear hp hvb hnv hkd
          go_upto_region 14 with fail
          have hHwr : H ≤ wr.heap.size := by have := HUm.out.size; have := HSZ.out; omega
          obtain ⟨W7, hW⟩ : ∃ W, W = wr.alloc (.cells #[.int .u16 (kd : Int), .slice a nv cv] 131) := ⟨_, rfl⟩
          have HBL : Hid (Blk W7 wr.heap.size 131 #[.int .u16 (kd : Int), .slice a nv cv]) := by rw [hW]; exact Blk.new _ _ _
          have HB7 : Hid (Below wr.heap.size wr W7) := by rw [hW]; exact (Below.refl wr.heap.size wr).alloc (Nat.le_refl _) _
          rw [← hW]
          obtain ⟨g6, hg6⟩ : ∃ g, g = wr.heap.size := ⟨_, rfl⟩
          rw [← hg6] at HBL ⊢
          have HP7 : Hid (PmSt W7 H (some ⟨gp, 0, none⟩) np c17 ck.ps m) := HPm.out.grows HB7.out hHwr
          have HU7 : Hid (Below H U5 W7) := HUm.out.trans (HB7.out.mono hHwr)
          have HV7 : Hid (Byt W7 H a p.2) := HVB.out.below (HB7.out.mono hHwr)
          have HG17 : Hid (∀ V, Below W7.heap.size W7 V → V.cell? ⟨g, k * 19 + 17, none⟩ = some (.slice (some ⟨gp, 0, none⟩) np c17)) := fun V hV => by
            have h1 := HC5.out.cellAt hlt 17 (by omega)
            have h2 := HC5.out.blk.2
            have h3 := HSZ.out
            have h4 := HU7.out.size
            rw [hV.cell (by simp only; omega), HU7.out.cell (by simp only; omega), h1]
            rfl
          have hH7 : H ≤ W7.heap.size := Nat.le_trans hHwr HB7.out.size
          have HST : Hid (Below W7.heap.size W7 W7.drew) := Below.drew (Below.refl _ _)
          clear hW hg6 HPm HUm HVB HB7 hc0 hc1'
          refine wp_region_stage_tail 10 (fun _ V V' => Below V.heap.size V V') (fun m V => Hid (Below W7.heap.size W7 V)) [(false, .exact (.pointer (some ⟨g, k * 19, none⟩))),
              (false, .exact (.pointer (some ⟨g, k * 19, none⟩))),
              (false, .exact (.pointer (some ⟨g, k * 19 + 17, none⟩))),
              (false, .exact (.slice (some ⟨gp, 0, none⟩) np c17)),
              (false, .exact (.int .i64 (m : Int))),
              (false, .exact (.pointer (some ⟨g6, 1, none⟩))),
              (false, .exact (.slice a nv cv)),
              (false, .grows (RowO p.2 H)),
              (false, .exact (.pointer (some ⟨gp, m * 2, none⟩))),
              (false, .exact (.pointer (some ⟨gp, m * 2 + 1, none⟩)))] (by kernel_rfl) (by kernel_rfl) (by kernel_rfl) rfl (of_decide_eq_true (by kernel_rfl)) (by kernel_rfl) (by kernel_rfl) ?lasts ?start ?walk
          case lasts => exact ⟨fun m v V V' _ h k => by obtain ⟨A3, c3, rfl, h3, h4, h⟩ := h; exact ⟨A3, c3, rfl, h3, h4, own_up h k⟩, trivial⟩
          case start => exact HST
          case walk =>
            simp only [List.take_succ_cons, List.take_zero, List.drop_succ_cons, List.drop_zero]
            refine stageT_pure rfl (fun _ V => Below.refl _ V) (fun V m hS hl => by go_simp) ?_
            simp only [Act.put, List.setIfInBounds_toArray, List.set_cons_zero, List.set_cons_succ, List.cons_append, List.nil_append]
            refine stageT_pure rfl (fun _ V => Below.refl _ V) (fun V m hS hl => by go_simp) ?_
            simp only [Act.put, List.setIfInBounds_toArray, List.set_cons_zero, List.set_cons_succ, List.cons_append, List.nil_append]
            refine stageT_pure rfl (fun _ V => Below.refl _ V) (fun V m hS hl => by go_simp) ?_
            simp only [Act.put, List.setIfInBounds_toArray, List.set_cons_zero, List.set_cons_succ, List.cons_append, List.nil_append]
            refine stageT_pure rfl (fun _ V => Below.refl _ V) (fun V m hS hl => by
                have hc := HG17.out V hS.out
                go_simp) ?_
            simp only [Act.put, List.setIfInBounds_toArray, List.set_cons_zero, List.set_cons_succ, List.cons_append, List.nil_append]
            refine stageT_pure rfl (fun _ V => Below.refl _ V) (fun V m hS hl => by go_simp) ?_
            simp only [Act.put, List.setIfInBounds_toArray, List.set_cons_zero, List.set_cons_succ, List.cons_append, List.nil_append]
            refine stageT_pure rfl (fun _ V => Below.refl _ V) (fun V m hS hl => by go_simp) ?_
            simp only [Act.put, List.setIfInBounds_toArray, List.set_cons_zero, List.set_cons_succ, List.cons_append, List.nil_append]
            refine stageT_pure rfl (fun _ V => Below.refl _ V) (fun V m hS hl => by
                have hc : V.cell? ⟨g6, 1, none⟩ = some (.slice a nv cv) := (HBL.out.below hS.out HBL.out.lt).cell 1
                go_simp) ?_
            simp only [Act.put, List.setIfInBounds_toArray, List.set_cons_zero, List.set_cons_succ, List.cons_append, List.nil_append]
            refine stageT_grows rfl (fun V m hS hl => by
                go_simp
                refine (clone_as a p.2 nv cv V HNV.out (by rw [← HNV.out]; exact hpl) ((HV7.out.below (hS.out.mono hH7)).more (Nat.le_trans hH7 hS.out.size))).mono ?_
                rintro e V' ⟨⟨v, rfl, ho⟩, hb⟩
                obtain ⟨A3, c3, rfl, h3, h4⟩ := own_slice ho
                exact ⟨_, rfl, hb, ⟨A3, c3, rfl, h3, h4, own_mono ho (Nat.le_trans hH7 hS.out.size)⟩, hS.out.trans (hb.mono hS.out.size)⟩) (fun v74 => ?_)
            simp only [Act.put, List.setIfInBounds_toArray, List.set_cons_zero, List.set_cons_succ, List.cons_append, List.nil_append]
            refine stageT_pure rfl (fun _ V => Below.refl _ V) (fun V m hS hl => by go_simp) ?_
            simp only [Act.put, List.setIfInBounds_toArray, List.set_cons_zero, List.set_cons_succ, List.cons_append, List.nil_append]
            refine stageT_pure rfl (fun _ V => Below.refl _ V) (fun V m hS hl => by go_simp) ?_
            simp only [Act.put, List.setIfInBounds_toArray, List.set_cons_zero, List.set_cons_succ, List.cons_append, List.nil_append]
            refine stageT_nil (fun V2 hS hF => ?_)
            have hF2 : RowO p.2 H v74 V2 ∧ True := hF
            obtain ⟨A8, c8, rfl, h8a, h8b, ho8⟩ := hF2.1
            have HO8 := Lib.hid ho8
            have HS8 := Lib.hid hS.out
            have HP8 : Hid (PmSt V2 H (some ⟨gp, 0, none⟩) np c17 ck.ps m) := HP7.out.grows HS8.out hH7
            obtain ⟨gq, _, _, hq, _, _, _, _, kc, _⟩ := HP8.out.at_ HPQ.out HNP.out
            injection hq with hq
            injection hq with hq
            subst hq
            have kf := HP8.out.frozen (m * 2 + 1)
            have HU8 : Hid (Below H U5 V2) := HU7.out.trans (HS8.out.mono hH7)
            clear hS hF hF2 ho8
            show wpList _ _ _ _ _ _
            go_wp2_with fail
            go_roundw
            case rel => exact ⟨m + 1, by omega, by go_num, HP8.out.set_ HNP.out (Nat.le_trans hH7 HS8.out.size) HPQ.out h8a h8b HO8.out, HU8.out.setCell (p := ⟨gp, m * 2 + 1, none⟩) hgp1 _⟩
            case measure => simp [intOf]; omega
        · obtain rfl : m = np := by omega
          have HUE : Hid (Below U5.heap.size U5 wr) := by rw [HSZ.out]; exact HUm
          have HCE := Lib.hid (HC5.out.grows HUE.out)
          have HKO : Hid (CkOwn wr w.heap.size (ckArr ck (.slice A14 ng c14) (.slice A15 nd c15) (.slice A16 ns c16) (.slice A17 m c17) (.slice A18 nb c18)) ck) := by
            refine ⟨_, _, _, _, _, rfl, ?_, ?_, ?_, (HPm.out.own HNP.out (by rw [← HNP.out]; exact Nat.le_refl _)).mono hwH, ?_⟩
            · rw [← HNG.out]; exact own_up HU14.out HUE.out
            · rw [← HND.out]; exact own_up HU15.out HUE.out
            · rw [← HNS.out]; exact own_up HU16.out HUE.out
            · unfold Own; rw [← HNB.out]; exact own_up HU18.out HUE.out
          have HZ := Lib.hid (HCE.out.done HKQ.out HKO.out)
          have HZB := Lib.hid HCE.out.bel
          go_wp2_with fail
          go_roundw
          case rel => exact ⟨k + 1, by omega, by go_num, HZ, HZB⟩
          case measure => simp [intOf]; omega
    · obtain rfl : k = n := by omega
      go_wp2_with fail
      go_ret
      exact ⟨⟨_, rfl, HSk.out.own (by rw [← HN.out]; exact Nat.le_refl _) HN.out HOK.out⟩, HBk.out⟩
end Go.Proofs.Ytpgklhecmafnbaa.Chk
