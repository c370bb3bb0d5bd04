/-
  The document's answers of layer 6 (flumeref06): Known, Same.
-/
import Derived.Test.YtabkjgklmibagaaCks
import Derived.Test.YtabkjgklmibagaaChBr
import Derived.Test.YtabkjgklmibagaaParSame
set_option linter.unusedVariables false
set_option linter.unusedSimpArgs false
namespace Go.Proofs.Ytabkjgklmibagaa.Chk
open Go.ChangeShapes Go.WideShapes Go.ChangeAt Go.RowKit Go.Deep Go.Proofs.Ytabkjgklmibagaa.Words Go.Proofs.Ytabkjgklmibagaa.Oct Go.Proofs.Ytabkjgklmibagaa.Par

set_option maxHeartbeats 4000000 in
set_option maxRecDepth 100000 in
theorem rsame_k {w : World} {B1 B2 : Nat} {ca cb : Array Value} {a : Ck} (h1 : CkAt w B1 ca a) (h2 : CkAt w B2 cb a) (hB1 : B1 ≤ w.heap.size) (hB2 : B2 ≤ w.heap.size) :
    Calls Try.prog 12 #[.agg ca, .agg cb] w fun e w' => e = .returned (.bool true) ∧ Below w.heap.size w w' := by
  obtain ⟨ga, da, sa, pa, ba, hca, hla⟩ := h1.parts
  obtain ⟨gb, db, sb, pb, bb, hcb, hlb⟩ := h2.parts
  have HCA := Lib.hid hca
  have HCB := Lib.hid hcb
  have HLA := Lib.hid hla
  have HLB := Lib.hid hlb
  have HB1 := Lib.hid hB1
  have HB2 := Lib.hid hB2
  clear h1 h2 hca hcb hla hlb hB1 hB2
  go_enter Try.func12, Try.ntmps12
  go_upto_region 1 with (fail)
  have HW : Hid (CkBlk ((w.alloc (.cells ca 42)).alloc (.cells cb 42)) w.heap.size ca ∧ CkBlk ((w.alloc (.cells ca 42)).alloc (.cells cb 42)) (w.heap.size + 1) cb ∧ Below w.heap.size w ((w.alloc (.cells ca 42)).alloc (.cells cb 42))) :=
    ⟨(Blk.new w 42 ca).below ((Below.refl (w.alloc (.cells ca 42)).heap.size _).alloc (Nat.le_refl _) _) (Blk.new w 42 ca).lt, by simpa using Blk.new (w.alloc (.cells ca 42)) 42 cb, ((Below.refl w.heap.size w).alloc (Nat.le_refl _) _).alloc (((Below.refl w.heap.size w).alloc (Nat.le_refl _) (.cells ca 42)).size) _⟩
  obtain ⟨W0, hW0⟩ : ∃ W0, W0 = (w.alloc (.cells ca 42)).alloc (.cells cb 42) := ⟨_, rfl⟩
  rw [← hW0] at HW ⊢
  obtain ⟨g0, hg0⟩ : ∃ g0, g0 = w.heap.size := ⟨_, rfl⟩
  obtain ⟨g1, hg1⟩ : ∃ g1, g1 = w.heap.size + 1 := ⟨_, rfl⟩
  have HG0 : Hid (CkBlk W0 g0 ca) := by rw [hg0]; exact HW.out.1
  have HG1 : Hid (CkBlk W0 g1 cb) := by rw [hg1]; exact HW.out.2.1
  have HB0 : Hid (Below w.heap.size w W0) := HW.out.2.2
  rw [← hg1, ← hg0]
  clear hW0 hg0 hg1 HW
  go_cut [103] (fun s wx => s = .bool false ∧ wx = W0)
  case first =>
    have p0 := CkBlk.at HG0.out HCA.out.c0
    have q0 := CkBlk.at HG1.out HCB.out.c0
    have p1 := CkBlk.at HG0.out HCA.out.c1
    have q1 := CkBlk.at HG1.out HCB.out.c1
    have p2 := CkBlk.at HG0.out HCA.out.c2
    have q2 := CkBlk.at HG1.out HCB.out.c2
    have p3 := CkBlk.at HG0.out HCA.out.c3
    have q3 := CkBlk.at HG1.out HCB.out.c3
    have p4 := CkBlk.at HG0.out HCA.out.c4
    have q4 := CkBlk.at HG1.out HCB.out.c4
    have p5 := CkBlk.at HG0.out HCA.out.c5
    have q5 := CkBlk.at HG1.out HCB.out.c5
    have p6 := CkBlk.at HG0.out HCA.out.c6
    have q6 := CkBlk.at HG1.out HCB.out.c6
    have p7 := CkBlk.at HG0.out HCA.out.c7
    have q7 := CkBlk.at HG1.out HCB.out.c7
    have p8 := CkBlk.at HG0.out HCA.out.c8
    have q8 := CkBlk.at HG1.out HCB.out.c8
    have p9 := CkBlk.at HG0.out HCA.out.c9
    have q9 := CkBlk.at HG1.out HCB.out.c9
    have p10 := CkBlk.at HG0.out HCA.out.c10
    have q10 := CkBlk.at HG1.out HCB.out.c10
    have p11 := CkBlk.at HG0.out HCA.out.c11
    have q11 := CkBlk.at HG1.out HCB.out.c11
    have p12 := CkBlk.at HG0.out HCA.out.c12
    have q12 := CkBlk.at HG1.out HCB.out.c12
    have p13 := CkBlk.at HG0.out HCA.out.c13
    have q13 := CkBlk.at HG1.out HCB.out.c13
    go_wp2_with fail
    go_meet
    exact ⟨rfl, rfl⟩
  case rest =>
    obtain ⟨rfl, rfl⟩ := hcut
    have p14 := CkBlk.at HG0.out HCA.out.c14
    have q14 := CkBlk.at HG1.out HCB.out.c14
    have p15 := CkBlk.at HG0.out HCA.out.c15
    have q15 := CkBlk.at HG1.out HCB.out.c15
    have p16 := CkBlk.at HG0.out HCA.out.c16
    have q16 := CkBlk.at HG1.out HCB.out.c16
    have p17 := CkBlk.at HG0.out HCA.out.c17
    have q17 := CkBlk.at HG1.out HCB.out.c17
    have p18 := CkBlk.at HG0.out HCA.out.c18
    have q18 := CkBlk.at HG1.out HCB.out.c18
    have kk1 : ∀ p : Addr, p.block < B1 → wc.cell? p = w.cell? p := fun p hp => HB0.out.cell (Nat.lt_of_lt_of_le hp HB1.out)
    have kk2 : ∀ p : Addr, p.block < B2 → wc.cell? p = w.cell? p := fun p hp => HB0.out.cell (Nat.lt_of_lt_of_le hp HB2.out)
    have GA := Lib.hid (HLA.out.gaps.keep kk1)
    have GB := Lib.hid (HLB.out.gaps.keep kk2)
    have DA := Lib.hid (HLA.out.dups.keep kk1)
    have DB := Lib.hid (HLB.out.dups.keep kk2)
    have SA := Lib.hid (HLA.out.skips.keep kk1)
    have SB := Lib.hid (HLB.out.skips.keep kk2)
    have PA := Lib.hid (HLA.out.ps.keep kk1)
    have PB := Lib.hid (HLB.out.ps.keep kk2)
    have BA := Lib.hid (HLA.out.body.keep kk1)
    have BB := Lib.hid (HLB.out.body.keep kk2)
    have okp := Lib.hid HLA.out.okp
    have okp' := Lib.hid HLB.out.okp
    obtain ⟨nb, hnb⟩ : ∃ n, n = a.body.length := ⟨_, rfl⟩
    obtain ⟨np, hnp⟩ : ∃ n, n = a.ps.length := ⟨_, rfl⟩
    obtain ⟨ng, hng⟩ : ∃ n, n = a.gaps.length := ⟨_, rfl⟩
    obtain ⟨nd, hnd⟩ : ∃ n, n = a.dups.length := ⟨_, rfl⟩
    obtain ⟨ns, hns⟩ : ∃ n, n = a.skips.length := ⟨_, rfl⟩
    have xg := HLA.out.okg.1
    have xg' := HLA.out.okg.2
    have xd := HLA.out.okd.1
    have xd' := HLA.out.okd.2
    have xs := HLA.out.oks.1
    have xs' := HLA.out.oks.2
    rw [← hng] at p14 q14 xg
    rw [← hnd] at p15 q15 xd
    rw [← hns] at p16 q16 xs
    rw [← hnp] at p17 q17
    rw [← hnb] at p18 q18
    have HNB := Lib.hid hnb
    have HNP := Lib.hid hnp
    have HNG := Lib.hid hng
    have HND := Lib.hid hnd
    have HNS := Lib.hid hns
    have hst1 : ∀ q, (convert 24 9 (.slice ba.A nb ba.cap)).run Try.prog (wc.drewN q) = .ok (.string ⟨a.body.toArray⟩) (wc.drewN q) := fun q => run_str (BA.out.drewN q) _ _ _ Try.underlying24 Try.underlying5 Try.underlying9 nb ba.cap HNB.out
    have hst2 : ∀ q, (convert 24 9 (.slice bb.A nb bb.cap)).run Try.prog (wc.drewN q) = .ok (.string ⟨a.body.toArray⟩) (wc.drewN q) := fun q => run_str (BB.out.drewN q) _ _ _ Try.underlying24 Try.underlying5 Try.underlying9 nb bb.cap HNB.out
    have GA : Hid (Reads wc B1 2 ga.A ng (gapC a.gaps)) := by rw [HNG.out]; exact GA.out
    have GB : Hid (Reads wc B2 2 gb.A ng (gapC a.gaps)) := by rw [HNG.out]; exact GB.out
    have DA : Hid (Reads wc B1 1 da.A nd (dupC a.dups)) := by rw [HND.out]; exact DA.out
    have DB : Hid (Reads wc B2 1 db.A nd (dupC a.dups)) := by rw [HND.out]; exact DB.out
    have SA : Hid (Reads wc B1 3 sa.A ns (skC a.skips)) := by rw [HNS.out]; exact SA.out
    have SB : Hid (Reads wc B2 3 sb.A ns (skC a.skips)) := by rw [HNS.out]; exact SB.out
    clear kk1 kk2 hnb hnp hng hnd hns HLA HLB
    go_wp2_with fail
    refine (same_any pa.A pb.A a.ps a.ps np np _ _ B1 B2 wc HNP.out HNP.out (by have := okp.out.1; rw [← HNP.out] at this; exact this) (by have := okp'.out.1; rw [← HNP.out] at this; exact this) okp.out.2 okp'.out.2 PA.out PB.out).mono ?_
    rintro e W1 ⟨he, m, rfl⟩
    rw [decide_eq_true rfl] at he
    subst he
    have p14 : (wc.drewN m).cell? ⟨g0, 14, none⟩ = some (.slice ga.A ng ga.cap) := p14
    have q14 : (wc.drewN m).cell? ⟨g1, 14, none⟩ = some (.slice gb.A ng gb.cap) := q14
    have p15 : (wc.drewN m).cell? ⟨g0, 15, none⟩ = some (.slice da.A nd da.cap) := p15
    have q15 : (wc.drewN m).cell? ⟨g1, 15, none⟩ = some (.slice db.A nd db.cap) := q15
    have p16 : (wc.drewN m).cell? ⟨g0, 16, none⟩ = some (.slice sa.A ns sa.cap) := p16
    have q16 : (wc.drewN m).cell? ⟨g1, 16, none⟩ = some (.slice sb.A ns sb.cap) := q16
    have p18 : (wc.drewN m).cell? ⟨g0, 18, none⟩ = some (.slice ba.A nb ba.cap) := p18
    have q18 : (wc.drewN m).cell? ⟨g1, 18, none⟩ = some (.slice bb.A nb bb.cap) := q18
    go_wp2_with fail
    go_loopw [5, 149] (fun _ i wr => ∃ (k m' : Nat), k ≤ ng ∧ i = .int .i64 k ∧ wr = wc.drewN m') (fun _ i _ => ng - (intOf i).toNat)
    case atStart => exact ⟨0, m, by omega, rfl, rfl⟩
    case round =>
      obtain ⟨k, m', hk, rfl, hwr⟩ := hrel
      have p14 : wr.cell? ⟨g0, 14, none⟩ = some (.slice ga.A ng ga.cap) := by rw [hwr]; exact p14
      have q14 : wr.cell? ⟨g1, 14, none⟩ = some (.slice gb.A ng gb.cap) := by rw [hwr]; exact q14
      by_cases hlt : k < ng
      · obtain ⟨ad1, x, hA1, hb1, hx, hc0, hc1⟩ := gap_cells GA.out HNG.out hlt
        obtain ⟨ad2, x2, hA2, hb2, hx2, hd0, hd1⟩ := gap_cells GB.out HNG.out hlt
        rw [hx] at hx2
        injection hx2 with hx2
        subst hx2
        have hc0 : wr.cell? (ad1.add (k * 2)) = some (.int .u16 (x.1 : Int)) := by rw [hwr]; exact hc0
        have hc1 : wr.cell? ⟨(ad1.add (k * 2)).block, (ad1.add (k * 2)).off + 1, none⟩ = some (.int .u16 (x.2 : Int)) := by rw [hwr]; exact hc1
        have hd0 : wr.cell? (ad2.add (k * 2)) = some (.int .u16 (x.1 : Int)) := by rw [hwr]; exact hd0
        have hd1 : wr.cell? ⟨(ad2.add (k * 2)).block, (ad2.add (k * 2)).off + 1, none⟩ = some (.int .u16 (x.2 : Int)) := by rw [hwr]; exact hd1
        rw [hA1] at p14
        rw [hA2] at q14
        have HWR := Lib.hid hwr
        clear hwr hx hA1 hA2 hb1 hb2
        go_wp2_with fail
        go_quiet (fail)
        go_wp2_with fail
        go_roundw
        case rel => exact ⟨k + 1, m' + nq, by omega, by go_num, by rw [HWR.out, World.drewN_drewN]⟩
        case measure => simp [intOf]; omega
      · obtain rfl : k = ng := by omega
        subst hwr
        go_wp2_with fail
        go_loopw [6, 167] (fun _ i wr => ∃ (k m' : Nat), k ≤ nd ∧ i = .int .i64 k ∧ wr = wc.drewN m') (fun _ i _ => nd - (intOf i).toNat)
        case atStart => exact ⟨0, m', by omega, rfl, rfl⟩
        case round =>
          obtain ⟨k, m', hk, rfl, hwr⟩ := hrel
          have p15 : wr.cell? ⟨g0, 15, none⟩ = some (.slice da.A nd da.cap) := by rw [hwr]; exact p15
          have q15 : wr.cell? ⟨g1, 15, none⟩ = some (.slice db.A nd db.cap) := by rw [hwr]; exact q15
          by_cases hlt : k < nd
          · obtain ⟨ad1, x, hA1, hb1, hx, hc0⟩ := dup_cells DA.out HND.out hlt
            obtain ⟨ad2, x2, hA2, hb2, hx2, hd0⟩ := dup_cells DB.out HND.out hlt
            rw [hx] at hx2
            injection hx2 with hx2
            subst hx2
            have hc0 : wr.cell? (ad1.add k) = some (.int .u32 (x : Int)) := by rw [hwr]; exact hc0
            have hd0 : wr.cell? (ad2.add k) = some (.int .u32 (x : Int)) := by rw [hwr]; exact hd0
            rw [hA1] at p15
            rw [hA2] at q15
            have HWR := Lib.hid hwr
            clear hwr hx hA1 hA2 hb1 hb2
            go_wp2_with fail
            go_quiet (fail)
            go_wp2_with fail
            go_roundw
            case rel => exact ⟨k + 1, m' + nq, by omega, by go_num, by rw [HWR.out, World.drewN_drewN]⟩
            case measure => simp [intOf]; omega
          · obtain rfl : k = nd := by omega
            subst hwr
            go_wp2_with fail
            go_loopw [7, 185] (fun _ i wr => ∃ (k m' : Nat), k ≤ ns ∧ i = .int .i64 k ∧ wr = wc.drewN m') (fun _ i _ => ns - (intOf i).toNat)
            case atStart => exact ⟨0, m', by omega, rfl, rfl⟩
            case round =>
              obtain ⟨k, m', hk, rfl, hwr⟩ := hrel
              have p16 : wr.cell? ⟨g0, 16, none⟩ = some (.slice sa.A ns sa.cap) := by rw [hwr]; exact p16
              have q16 : wr.cell? ⟨g1, 16, none⟩ = some (.slice sb.A ns sb.cap) := by rw [hwr]; exact q16
              by_cases hlt : k < ns
              · obtain ⟨ad1, x, hA1, hb1, hx, hc0, hc1, hc2⟩ := sk_cells SA.out HNS.out hlt
                obtain ⟨ad2, x2, hA2, hb2, hx2, hd0, hd1, hd2⟩ := sk_cells SB.out HNS.out hlt
                rw [hx] at hx2
                injection hx2 with hx2
                subst hx2
                have hc0 : wr.cell? (ad1.add (k * 3)) = some (.int .u16 (x.1 : Int)) := by rw [hwr]; exact hc0
                have hc1 : wr.cell? ⟨(ad1.add (k * 3)).block, (ad1.add (k * 3)).off + 1, none⟩ = some (.bool x.2.1) := by rw [hwr]; exact hc1
                have hc2 : wr.cell? ⟨(ad1.add (k * 3)).block, (ad1.add (k * 3)).off + 2, none⟩ = some (.int .u32 (x.2.2 : Int)) := by rw [hwr]; exact hc2
                have hd0 : wr.cell? (ad2.add (k * 3)) = some (.int .u16 (x.1 : Int)) := by rw [hwr]; exact hd0
                have hd1 : wr.cell? ⟨(ad2.add (k * 3)).block, (ad2.add (k * 3)).off + 1, none⟩ = some (.bool x.2.1) := by rw [hwr]; exact hd1
                have hd2 : wr.cell? ⟨(ad2.add (k * 3)).block, (ad2.add (k * 3)).off + 2, none⟩ = some (.int .u32 (x.2.2 : Int)) := by rw [hwr]; exact hd2
                rw [hA1] at p16
                rw [hA2] at q16
                have HWR := Lib.hid hwr
                clear hwr hx hA1 hA2 hb1 hb2
                go_wp2_with fail
                go_quiet (fail)
                go_wp2_with fail
                go_roundw
                case rel => exact ⟨k + 1, m' + nq, by omega, by go_num, by rw [HWR.out, World.drewN_drewN]⟩
                case measure => simp [intOf]; omega
              · obtain rfl : k = ns := by omega
                subst hwr
                go_wp2_with fail
                go_ret
                exact ⟨rfl, below_drewN HB0.out _⟩
end Go.Proofs.Ytabkjgklmibagaa.Chk
