/-
  Of the texts ScRm, ScPs, ScRep4, ScAd, ScAd2: what the laws reach.
-/
import Derived.Test.YtkjlmibjpfmfnaaSA10
import Derived.StillTailTactics
import Derived.Test.YtkjlmibjpfmfnaaSA8

set_option linter.unusedVariables false
set_option linter.unusedSimpArgs false
set_option maxRecDepth 20000
namespace Go.Proofs.Ytkjlmibjpfmfnaa.Sc
open Go.ChangeShapes Go.WideShapes Go.ChangeAt Go.RowKit Go.Deep Go.Maps Go.Proofs.Ytkjlmibjpfmfnaa.Words Go.Proofs.Ytkjlmibjpfmfnaa.Oct Go.Proofs.Ytkjlmibjpfmfnaa.Par Go.Proofs.Ytkjlmibjpfmfnaa.Chk Go.Proofs.Ytkjlmibjpfmfnaa.Mx Go.Proofs.Ytkjlmibjpfmfnaa.Fl
section
variable {e : Ev} {w w' : World} {h h' : Hp} {p b i : Nat} {gh : Gh} {mm : Ln → Option Nat} {S : Nat → Prop} {o : Ob} {r : Rw} {g : GL} {x : GM} {ga gc : List GL} {a c : List GM} {n : NR} {na nc : List Lk} {pl : Nat}
/-- The number's map tells its row. -/
theorem nm_look (hm : MapZ Try.prog 3 w b (nmF gh)) {id : Int} (hid : i64ok id) {n : NR} (hn : gh.N id = some n) (W : World) (hW : W.heap[b]? = w.heap[b]?) : (Instr.lookup 84 (.map (some b)) (.int .i64 id) false).run Try.prog W = .ok (qptr n.rb) W := by
  have zv : (zeroValue 121).run Try.prog W = .ok (.pointer none) W := by kernel_rfl
  have := (hm.same hW).look (t := 84) Try.underlying84 zv hid
  rw [this]
  unfold nmF
  rw [hn]
  rfl
theorem rmv_keep : Keep h (rmvH h p gh ga gc g a c x n na nc) := by
  unfold rmvH
  dsimp only
  refine Keep.trans ?_ (Keep.rm _ _ _ _)
  split
  · exact ((Keep.cnt _ _ _ _ _).trans (Keep.rm _ _ _ _)).trans (Keep.rm _ _ _ _)
  · exact (Keep.cnt _ _ _ _ _).trans (Keep.rm _ _ _ _)
theorem rmv_grow (B : Nat) : Grow h (rmvH h p gh ga gc g a c x n na nc) B := by
  unfold rmvH
  dsimp only
  refine Grow.trans ?_ (Grow.rm _ _ _ _ _) (Nat.le_refl _)
  split
  · exact ((Grow.cnt _ _ _ _ _ _).trans (Grow.rm _ _ _ _ _) (Nat.le_refl _)).trans (Grow.rm _ _ _ _ _) (Nat.le_refl _)
  · exact (Grow.cnt _ _ _ _ _ _).trans (Grow.rm _ _ _ _ _) (Nat.le_refl _)
set_option maxHeartbeats 8000000 in
theorem remove_s (k : QM e w h p gh mm) (m : Rmv h p gh ga gc g a c x n na nc pl) (hid : i64ok x.it.id) (hst : x.it.m.st = g.st) (hs16 : g.st < 65536) (hb : bytesG gh.gl ≤ 1000000) :
    Calls Try.prog 33 #[qptr p, qptr x.mb] w fun en w' => en = .returned (.tuple #[]) ∧ QM e w' (rmvH h p gh ga gc g a c x n na nc) p (rmvG gh ga gc g a c x n na nc) mm ∧ Fr (QG e h) w w' := by
  have hg : g ∈ gh.gl := by rw [m.gl]; simp
  have hx : x ∈ g.ms := by rw [m.ms]; simp
  obtain ⟨h1, h2, h3, D⟩ := k.rep.rmv k.g m
  have G' := RepG.rmv k.rep k.g m
  obtain ⟨h4, hh4⟩ : ∃ h4, h4 = rmvH h p gh ga gc g a c x n na nc := ⟨_, rfl⟩
  rw [← hh4] at D ⊢
  have L := k.rep.line g hg
  have hm0 := L.ms x hx
  obtain ⟨rq, hq⟩ := k.rep.q
  obtain ⟨rs, hs⟩ := L.ob
  have hle : x.it.m.body.length ≤ bytesI g.its ∧ bytesI g.its ≤ bytesG gh.gl := by
    have h5 : bytesI g.its = bytesI (a.map GM.it) + (x.it.m.body.length + bytesI (c.map GM.it)) := by
      show bytesI (g.ms.map GM.it) = _
      rw [m.ms, List.map_append, List.map_cons, bytesI_ap, bytesI_cs]
    rw [m.gl, bytesG_app, bytesG_cons]
    omega
  have ci : w.cell? ⟨x.mb, 0, none⟩ = some (.int .i64 x.it.id) := k.hv.cell hm0 0
  have cs : w.cell? ⟨x.mb, 9, none⟩ = some (qptr g.sb) := k.hv.cell hm0 9
  have cb : w.cell? ⟨x.mb, 7, none⟩ = some (.slice x.A x.it.m.body.length x.cp) := k.hv.cell hm0 7
  have cn : w.cell? ⟨p, 6, none⟩ = some (.map (some e.nm)) := k.hv.cell hq 6
  have hlk := nm_look k.nm hid m.nr w.drew rfl
  have HR0 : Hid (Row h false g.sb g.ad (a.map GM.lk ++ x.lk :: c.map GM.lk)) := by
    have := L.row
    rw [m.ms, List.map_append, List.map_cons] at this
    exact this
  have HT0 : Hid (Row h true p gh.ad (ga.map GL.lk ++ g.lk :: gc.map GL.lk)) := by
    have := k.rep.turns
    rw [m.gl, List.map_append, List.map_cons] at this
    exact this
  have HN0 : Hid (Row h false n.rb n.ad (na ++ ⟨x.nb, x.mb, pl⟩ :: nc)) := by
    have := (k.rep.num _ _ m.nr).2
    rw [m.l] at this
    exact this
  have hnr : h n.rb ≠ none := by
    obtain ⟨r, e⟩ := (k.rep.num _ _ m.nr).1
    rw [e]; simp
  have HNR := Lib.hid hnr
  clear hnr
  have K0 := Lib.hid k
  have HD := Lib.hid D
  have HM := Lib.hid m
  have HG' := Lib.hid G'
  have HI := Lib.hid hid
  have HLE := Lib.hid hle
  have HS := Lib.hid hs
  have HQ := Lib.hid hq
  have HB := Lib.hid hb
  have HST := Lib.hid hst
  have HS16 := Lib.hid hs16
  have hbn2 : x.it.m.body.length ≤ 1000000 := by omega
  obtain ⟨V0, hV0⟩ : ∃ V, V = w.drew := ⟨_, rfl⟩
  have K1 : Hid (QM e V0 h p gh mm) := by rw [hV0]; exact k.drew
  have F0 : Hid (Fr (HG h) w V0) := by rw [hV0]; exact (Fr.refl _ w).drew
  have cb0 : V0.cell? ⟨x.mb, 7, none⟩ = some (.slice x.A x.it.m.body.length x.cp) := by rw [hV0]; exact cb
  have hct : Hid (Calls Try.prog 32 #[qptr p, qptr g.sb, .int .i64 (-(x.it.m.body.length : Int))] V0 fun en w' => en = .returned (.tuple #[]) ∧ Hv e w' h1 ∧ Fr (fun i => i = p ∨ i = g.sb) V0 w') := by
    have := count_s (by_ := -(x.it.m.body.length : Int)) (bs' := bytesI g.its - x.it.m.body.length) (bq' := bytesG gh.gl - x.it.m.body.length) K1.out.hv HQ.out HS.out (by have := HLE.out; omega) (by have := HLE.out; omega) (by have := HLE.out; omega) (by omega) (by have := HLE.out; omega)
    rw [← HD.out.e1] at this
    exact this
  have hkb : True := trivial
  clear k D m G' L hm0 hq hs hle hid hst hs16 hb hg hx hh4 cb hkb
  go_enter Try.func33, Try.ntmps33
  go_upto_region 0 with (fail)
  go_region
  rw [← hV0]
  clear hV0
  go_upto_region 2 with (go_at_call 32; refine hct.out.mono ?_; rintro e1 w1 ⟨rfl, hv1, hf1⟩)
  have K1' := Lib.hid hv1
  have hf1' : Fr (HG h) V0 w1 := hf1.mono fun i _ hi => (.inl (by
    rcases hi with rfl | rfl
    · rw [HQ.out]; simp
    · rw [HS.out]; simp))
  have F1 : Hid (Fr (HG h) w w1) := F0.out.same hf1'
  obtain ⟨r1, hs1⟩ := HD.out.s1
  have hm1 := HD.out.m1
  obtain ⟨c1, c2, c3⟩ := HD.out.G1.rm_call
  have hrm : Hid (Calls Try.prog 56 #[.pointer (some ⟨g.sb, 1, none⟩), qptr x.lb] w1.drew fun en w' => en = .returned (.tuple #[]) ∧ Hv e w' h2 ∧ Fr (HG h) w1.drew w') := by
    have := rmM hv1.drew hs1 (HD.out.G1.ob_eq hs1) c1 c2 c3
    rw [← HD.out.e2] at this
    exact this.mono fun en w' ⟨a1, a2, a3⟩ => ⟨a1, a2, a3.mono fun i _ hx => (.inl (by
      rcases hx with rfl | hx | hx
      · rw [HS.out]; simp
      · obtain ⟨_, _, _, _, _, _, e9⟩ := HR0.out.rm_call.2.1 i hx; rw [e9]; simp
      · obtain ⟨_, _, _, _, _, _, _, e9⟩ := HR0.out.rm_call.2.2 i hx; rw [e9]; simp))⟩
  have cl1 : w1.cell? ⟨x.mb, 10, none⟩ = some (qptr x.lb) := hv1.cell hm1 10
  clear hv1 hf1 hf1' hs1 hm1 c1 c2 c3
  go_still_tail 7, (by kernel_rfl)
  change wpList _ _ _ _ _ w1.drew
  obtain ⟨V1, hV1⟩ : ∃ V, V = w1.drew := ⟨_, rfl⟩
  have F1' : Hid (Fr (HG h) w V1) := by rw [hV1]; exact F1.out.drew
  rw [← hV1] at hrm ⊢
  clear hV1 cl1
  go_upto_region 3 with (go_at_call 56; refine hrm.out.mono ?_; rintro e2 w2 ⟨rfl, hv2, hf2⟩)
  have F2 : Hid (Fr (HG h) w w2) := F1'.out.same hf2
  have K2 := Lib.hid hv2
  obtain ⟨r2, hs2⟩ := HD.out.s2
  have hr2 : r2 = ⟨hd ((a ++ c).map GM.lk), lst ((a ++ c).map GM.lk), g.ad⟩ := by
    have := HD.out.G2.ob_eq hs2
    injection this
  have hem : Hid (Calls Try.prog 57 #[.pointer (some ⟨g.sb, 1, none⟩)] w2 fun en w' => en = .returned (.bool (decide (a ++ c = []))) ∧ w2 = w') := by
    have := emptyM hv2 hs2 (r := r2) rfl
    have e9 : r2.fs.isNone = decide (a ++ c = []) := by rw [hr2]; cases hac : a ++ c <;> rfl
    rw [e9] at this
    exact this
  clear hv2 hf2 hs2 hr2
  by_cases hac : a ++ c = []
  · have hd9 : decide (a ++ c = []) = true := decide_eq_true hac
    rw [hd9] at hem
    have HAC := Lib.hid hac
    clear hd9
    obtain ⟨_, hq2⟩ := HD.out.q2
    obtain ⟨_, hs2⟩ := HD.out.s2
    obtain ⟨c1, c2, c3⟩ := HD.out.T2.rm_call
    have hrt : Hid (Calls Try.prog 58 #[.pointer (some ⟨p, 3, none⟩), qptr g.lb] w2.drew fun en w' => en = .returned (.tuple #[]) ∧ Hv e w' h3 ∧ Fr (HG h) w2.drew w') := by
      have := rmS K2.out.drew hq2 (HD.out.T2.ob_eq hq2) c1 c2 c3
      have e3 := HD.out.e3
      rw [if_pos hac] at e3
      rw [← e3] at this
      exact this.mono fun en w' ⟨a1, a2, a3⟩ => ⟨a1, a2, a3.mono fun i _ hx => (.inl (by
        rcases hx with rfl | hx | hx
        · rw [HQ.out]; simp
        · obtain ⟨_, _, _, _, _, _, e9⟩ := HT0.out.rm_call.2.1 i hx; rw [e9]; simp
        · obtain ⟨_, _, _, _, _, _, _, e9⟩ := HT0.out.rm_call.2.2 i hx; rw [e9]; simp))⟩
    have cl2 : w2.cell? ⟨g.sb, 4, none⟩ = some (qptr g.lb) := K2.out.cell hs2 4
    clear c1 c2 c3 hq2 hs2 hac
    go_upto_region 4 with (go_at_call 57; refine hem.mono ?_; rintro e2 w2' ⟨rfl, rfl⟩)
    go_still_tail 7, (by kernel_rfl)
    change wpList _ _ _ _ _ w2.drew
    obtain ⟨V2, hV2⟩ : ∃ V, V = w2.drew := ⟨_, rfl⟩
    have F2' : Hid (Fr (HG h) w V2) := by rw [hV2]; exact F2.out.drew
    rw [← hV2] at hrt ⊢
    clear hV2 cl2
    go_upto_region 5 with (go_at_call 58; refine hrt.out.mono ?_; rintro e2 w3 ⟨rfl, hv3, hf3⟩)
    have F3 : Hid (Fr (HG h) w w3) := F2'.out.same hf3
    obtain ⟨m1, m2, m3⟩ := K0.out.maps F3.out fun _ h _ => h
    obtain ⟨r3, hq3⟩ := HD.out.q3
    have cq3 : w3.cell? ⟨p, 2, none⟩ = some (.map (some e.sm)) := hv3.cell hq3 2
    have cm3 : w3.cell? ⟨x.mb, 3, none⟩ = some (.int .u16 (x.it.m.st : Int)) := hv3.cell HD.out.m3 3
    have hst2 : x.it.m.st < 65536 := by rw [HST.out]; exact HS16.out
    obtain ⟨W5, hdel, hm5, ht5⟩ := m1.drew.del (t := 83) Try.underlying83 (show u16X.dom x.it.m.st from hst2) 0
    have hdel2 : (Builtin.delete_ #[83, 35] 0 #[.map (some e.sm), .int .u16 (x.it.m.st : Int)]).run Try.prog w3.drew = .ok (.tuple #[]) W5 := hdel
    have hf5 : Fr (fun i => i = e.sm) w3 W5 := ((Fr.refl (fun i => i = e.sm) w3).drew).same ((Fr.of_grown ht5.grown).mono (fun i _ e => by injection e))
    have HV5 : Hid (Hv e W5 h3) := hv3.fr hf5 fun i hi h1 h2 => by
      have hi' : i = e.sm := hi
      have h9 := kd_mapx m1
      rcases h2 with h2 | ⟨b, y, hb, ad, hA, e9⟩
      · cases hh : h3 i with
        | none => exact h2 hh
        | some o =>
          rw [← hi', hv3.kd hh] at h9
          injection h9 with h9
          cases h9
      · have h8 := (hv3.bod b y hb).kd ad hA
        rw [e9, hi', h9] at h8
        injection h8 with h8
        cases h8
    have HS5 : Hid (MapX u16X W5 e.sm (smF (rmvG gh ga gc g a c x n na nc))) := hm5.as_ fun y => by
      show delF (smF gh) x.it.m.st y = smF (rmvG gh ga gc g a c x n na nc) y
      unfold delF smF rmvG
      dsimp only
      rw [HST.out, if_pos HAC.out]
      by_cases e9 : y = g.st
      · simp [e9]
      · simp [e9]
    have HN5 := Lib.hid (m2.fr hf5 K0.out.ne.1.symm)
    have HM5 := Lib.hid (m3.fr hf5 K0.out.ne.2.1.symm)
    have F5 : Hid (Fr (QG e h) w W5) := (F3.out.mono fun i _ hi => .inl hi).same (hf5.mono fun i _ hi => .inr (.inl hi))
    clear hdel hm5 ht5 hf5 m1 m2 m3 hq3 hv3 hf3 hst2
    go_region
    clear cq3 cm3 hdel2
    have cl5 : W5.cell? ⟨x.mb, 11, none⟩ = some (qptr x.nb) := HV5.out.cell HD.out.m3 11
    obtain ⟨r3, hn3⟩ := HD.out.n3
    have HR3 := Lib.hid (HD.out.R3 pl HM.out.l)
    obtain ⟨c1, c2, c3⟩ := HR3.out.rm_call
    have hrn : Hid (Calls Try.prog 56 #[.pointer (some ⟨n.rb, 0, none⟩), qptr x.nb] W5 fun en w' => en = .returned (.tuple #[]) ∧ Hv e w' h4 ∧ Fr (HG h) W5 w') := by
      have := rmM HV5.out hn3 (HR3.out.ob_eq hn3) c1 c2 c3
      rw [← HD.out.e4] at this
      exact this.mono fun en w' ⟨a1, a2, a3⟩ => ⟨a1, a2, a3.mono fun i _ hx => (.inl (by
        rcases hx with rfl | hx | hx
        · exact HNR.out
        · obtain ⟨_, _, _, _, _, _, e9⟩ := HN0.out.rm_call.2.1 i hx; rw [e9]; simp
        · obtain ⟨_, _, _, _, _, _, _, e9⟩ := HN0.out.rm_call.2.2 i hx; rw [e9]; simp))⟩
    clear hn3 c1 c2 c3
    go_upto_region 7 with (go_at_call 56; refine hrn.out.mono ?_; rintro e2 w6 ⟨rfl, hv6, hf6⟩)
    have HV6 := Lib.hid hv6
    have hf6' : Fr (fun i => HG h i) W5 w6 := hf6
    have F6 : Hid (Fr (QG e h) w w6) := F5.out.same (hf6'.mono fun i _ hi => .inl hi)
    have HF6 := Lib.hid hf6'
    obtain ⟨r4, hn4⟩ := HD.out.n4
    have hr4 : r4 = ⟨hd (na ++ nc), lst (na ++ nc), n.ad⟩ := by
      have := HD.out.R4.ob_eq hn4
      injection this
    have hem2 : Hid (Calls Try.prog 57 #[.pointer (some ⟨n.rb, 0, none⟩)] w6 fun en w' => en = .returned (.bool (decide (na ++ nc = []))) ∧ w6 = w') := by
      have := emptyM hv6 hn4 (r := r4) rfl
      have e9 : r4.fs.isNone = decide (na ++ nc = []) := by rw [hr4]; cases hac : na ++ nc <;> rfl
      rw [e9] at this
      exact this
    obtain ⟨m1, m2, m3⟩ := K0.out.map_no
    have HS6 := Lib.hid (HS5.out.fr hf6' m1)
    have HN6 := Lib.hid (HN5.out.fr hf6' m2)
    have HM6 := Lib.hid (HM5.out.fr hf6' m3)
    clear hv6 hf6 hf6' hn4 hr4 m1 m2 m3 cl5
    by_cases hnn : na ++ nc = []
    · have hd9 : decide (na ++ nc = []) = true := decide_eq_true hnn
      rw [hd9] at hem2
      have HNN := Lib.hid hnn
      clear hd9 hnn
      obtain ⟨r5, hq5⟩ := HD.out.q4
      have cn6 : w6.cell? ⟨p, 6, none⟩ = some (.map (some e.nm)) := HV6.out.cell hq5 6
      have ci6 : w6.cell? ⟨x.mb, 0, none⟩ = some (.int .i64 x.it.id) := HV6.out.cell HD.out.m4 0
      obtain ⟨W7, hdel, hm7, ht7⟩ := (HN6.out.same (w' := w6.drew) rfl).del (t := 84) Try.underlying84 HI.out 0
      have hdel2 : (Builtin.delete_ #[84, 3] 0 #[.map (some e.nm), .int .i64 x.it.id]).run Try.prog w6.drew = .ok (.tuple #[]) W7 := hdel
      have hf7 : Fr (fun i => i = e.nm) w6 W7 := ((Fr.refl (fun i => i = e.nm) w6).drew).same ((Fr.of_grown ht7.grown).mono (fun i _ e => by injection e))
      have HF7 := Lib.hid hf7
      have HM7 := Lib.hid hm7
      clear hdel hm7 ht7 hf7 hq5
      go_upto_region 8 with (go_at_call 57; refine hem2.out.mono ?_; rintro e2 w2' ⟨rfl, rfl⟩)
      go_region
      go_wp2_with fail
      go_end0
      have hnot := K0.out.map_no
      refine ⟨rfl, ⟨HV6.out.fr HF7.out fun i hi h1 h2 => ?_, HD.out.rep, HG'.out, HS6.out.fr HF7.out K0.out.ne.1, ?_, HM6.out.fr HF7.out K0.out.ne.2.2.symm, K0.out.ne⟩, F6.out.same (HF7.out.mono fun i _ hi => .inr (.inr (.inl hi)))⟩
      · have hi' : i = e.nm := hi
        have h9 := kd_mapz HN6.out
        rcases h2 with h2 | ⟨b, y, hb, ad, hA, e9⟩
        · cases hh : h4 i with
          | none => exact h2 hh
          | some o =>
            rw [← hi', HV6.out.kd hh] at h9
            injection h9 with h9
            cases h9
        · have h8 := (HV6.out.bod b y hb).kd ad hA
          rw [e9, hi', h9] at h8
          injection h8 with h8
          cases h8
      · refine HM7.out.as_ fun y => ?_
        show delF (nmF gh) x.it.id y = nmF (rmvG gh ga gc g a c x n na nc) y
        unfold delF nmF rmvG
        dsimp only
        rw [HNN.out]
        split
        · rfl
        · rfl
    · have hd9 : decide (na ++ nc = []) = false := decide_eq_false hnn
      rw [hd9] at hem2
      have HNN := Lib.hid hnn
      clear hd9 hnn
      go_wp2_with (go_at_call 57; refine hem2.out.mono ?_; rintro e2 w2' ⟨rfl, rfl⟩)
      go_end0
      refine ⟨rfl, ⟨HV6.out, HD.out.rep, HG'.out, HS6.out, ?_, HM6.out, K0.out.ne⟩, F6.out⟩
      refine HN6.out.as_ fun y => ?_
      unfold nmF rmvG
      dsimp only
      rw [if_neg HNN.out]
      split
      · rename_i e9
        rw [e9, HM.out.nr]
        rfl
      · rfl
  · have hd9 : decide (a ++ c = []) = false := decide_eq_false hac
    rw [hd9] at hem
    have HAC := Lib.hid hac
    have e23 : h3 = h2 := by have := HD.out.e3; rw [if_neg hac] at this; exact this
    obtain ⟨W5, hW5⟩ : ∃ W, W = w2 := ⟨_, rfl⟩
    have HV5 : Hid (Hv e W5 h3) := by rw [hW5, e23]; exact K2.out
    obtain ⟨m1, m2, m3⟩ := K0.out.maps F2.out fun _ h _ => h
    rw [← hW5] at m1 m2 m3
    have HS5 : Hid (MapX u16X W5 e.sm (smF (rmvG gh ga gc g a c x n na nc))) := m1.as_ fun y => by
      unfold smF rmvG
      dsimp only
      rw [if_neg hac]
    have HN5 := Lib.hid m2
    have HM5 := Lib.hid m3
    have F5 : Hid (Fr (QG e h) w W5) := by rw [hW5]; exact F2.out.mono fun i _ hi => .inl hi
    clear m1 m2 m3 hd9 hac e23
    go_upto_region 6 with (go_at_call 57; refine hem.mono ?_; rintro e2 w2' ⟨rfl, rfl⟩)
    rw [← hW5]
    clear hW5
    have cl5 : W5.cell? ⟨x.mb, 11, none⟩ = some (qptr x.nb) := HV5.out.cell HD.out.m3 11
    obtain ⟨r3, hn3⟩ := HD.out.n3
    have HR3 := Lib.hid (HD.out.R3 pl HM.out.l)
    obtain ⟨c1, c2, c3⟩ := HR3.out.rm_call
    have hrn : Hid (Calls Try.prog 56 #[.pointer (some ⟨n.rb, 0, none⟩), qptr x.nb] W5 fun en w' => en = .returned (.tuple #[]) ∧ Hv e w' h4 ∧ Fr (HG h) W5 w') := by
      have := rmM HV5.out hn3 (HR3.out.ob_eq hn3) c1 c2 c3
      rw [← HD.out.e4] at this
      exact this.mono fun en w' ⟨a1, a2, a3⟩ => ⟨a1, a2, a3.mono fun i _ hx => (.inl (by
        rcases hx with rfl | hx | hx
        · exact HNR.out
        · obtain ⟨_, _, _, _, _, _, e9⟩ := HN0.out.rm_call.2.1 i hx; rw [e9]; simp
        · obtain ⟨_, _, _, _, _, _, _, e9⟩ := HN0.out.rm_call.2.2 i hx; rw [e9]; simp))⟩
    clear hn3 c1 c2 c3
    go_upto_region 7 with (go_at_call 56; refine hrn.out.mono ?_; rintro e2 w6 ⟨rfl, hv6, hf6⟩)
    have HV6 := Lib.hid hv6
    have hf6' : Fr (fun i => HG h i) W5 w6 := hf6
    have F6 : Hid (Fr (QG e h) w w6) := F5.out.same (hf6'.mono fun i _ hi => .inl hi)
    have HF6 := Lib.hid hf6'
    obtain ⟨r4, hn4⟩ := HD.out.n4
    have hr4 : r4 = ⟨hd (na ++ nc), lst (na ++ nc), n.ad⟩ := by
      have := HD.out.R4.ob_eq hn4
      injection this
    have hem2 : Hid (Calls Try.prog 57 #[.pointer (some ⟨n.rb, 0, none⟩)] w6 fun en w' => en = .returned (.bool (decide (na ++ nc = []))) ∧ w6 = w') := by
      have := emptyM hv6 hn4 (r := r4) rfl
      have e9 : r4.fs.isNone = decide (na ++ nc = []) := by rw [hr4]; cases hac : na ++ nc <;> rfl
      rw [e9] at this
      exact this
    obtain ⟨m1, m2, m3⟩ := K0.out.map_no
    have HS6 := Lib.hid (HS5.out.fr hf6' m1)
    have HN6 := Lib.hid (HN5.out.fr hf6' m2)
    have HM6 := Lib.hid (HM5.out.fr hf6' m3)
    clear hv6 hf6 hf6' hn4 hr4 m1 m2 m3 cl5
    by_cases hnn : na ++ nc = []
    · have hd9 : decide (na ++ nc = []) = true := decide_eq_true hnn
      rw [hd9] at hem2
      have HNN := Lib.hid hnn
      clear hd9 hnn
      obtain ⟨r5, hq5⟩ := HD.out.q4
      have cn6 : w6.cell? ⟨p, 6, none⟩ = some (.map (some e.nm)) := HV6.out.cell hq5 6
      have ci6 : w6.cell? ⟨x.mb, 0, none⟩ = some (.int .i64 x.it.id) := HV6.out.cell HD.out.m4 0
      obtain ⟨W7, hdel, hm7, ht7⟩ := (HN6.out.same (w' := w6.drew) rfl).del (t := 84) Try.underlying84 HI.out 0
      have hdel2 : (Builtin.delete_ #[84, 3] 0 #[.map (some e.nm), .int .i64 x.it.id]).run Try.prog w6.drew = .ok (.tuple #[]) W7 := hdel
      have hf7 : Fr (fun i => i = e.nm) w6 W7 := ((Fr.refl (fun i => i = e.nm) w6).drew).same ((Fr.of_grown ht7.grown).mono (fun i _ e => by injection e))
      have HF7 := Lib.hid hf7
      have HM7 := Lib.hid hm7
      clear hdel hm7 ht7 hf7 hq5
      go_upto_region 8 with (go_at_call 57; refine hem2.out.mono ?_; rintro e2 w2' ⟨rfl, rfl⟩)
      go_region
      go_wp2_with fail
      go_end0
      have hnot := K0.out.map_no
      refine ⟨rfl, ⟨HV6.out.fr HF7.out fun i hi h1 h2 => ?_, HD.out.rep, HG'.out, HS6.out.fr HF7.out K0.out.ne.1, ?_, HM6.out.fr HF7.out K0.out.ne.2.2.symm, K0.out.ne⟩, F6.out.same (HF7.out.mono fun i _ hi => .inr (.inr (.inl hi)))⟩
      · have hi' : i = e.nm := hi
        have h9 := kd_mapz HN6.out
        rcases h2 with h2 | ⟨b, y, hb, ad, hA, e9⟩
        · cases hh : h4 i with
          | none => exact h2 hh
          | some o =>
            rw [← hi', HV6.out.kd hh] at h9
            injection h9 with h9
            cases h9
        · have h8 := (HV6.out.bod b y hb).kd ad hA
          rw [e9, hi', h9] at h8
          injection h8 with h8
          cases h8
      · refine HM7.out.as_ fun y => ?_
        show delF (nmF gh) x.it.id y = nmF (rmvG gh ga gc g a c x n na nc) y
        unfold delF nmF rmvG
        dsimp only
        rw [HNN.out]
        split
        · rfl
        · rfl
    · have hd9 : decide (na ++ nc = []) = false := decide_eq_false hnn
      rw [hd9] at hem2
      have HNN := Lib.hid hnn
      clear hd9 hnn
      go_wp2_with (go_at_call 57; refine hem2.out.mono ?_; rintro e2 w2' ⟨rfl, rfl⟩)
      go_end0
      refine ⟨rfl, ⟨HV6.out, HD.out.rep, HG'.out, HS6.out, ?_, HM6.out, K0.out.ne⟩, F6.out⟩
      refine HN6.out.as_ fun y => ?_
      unfold nmF rmvG
      dsimp only
      rw [if_neg HNN.out]
      split
      · rename_i e9
        rw [e9, HM.out.nr]
        rfl
      · rfl
end
end Go.Proofs.Ytkjlmibjpfmfnaa.Sc

set_option linter.unusedVariables false
set_option linter.unusedSimpArgs false
set_option maxRecDepth 20000
namespace Go.Proofs.Ytkjlmibjpfmfnaa.Sc
open Go.ChangeShapes Go.WideShapes Go.ChangeAt Go.RowKit Go.Deep Go.Maps Go.Proofs.Ytkjlmibjpfmfnaa.Words Go.Proofs.Ytkjlmibjpfmfnaa.Oct Go.Proofs.Ytkjlmibjpfmfnaa.Par Go.Proofs.Ytkjlmibjpfmfnaa.Chk Go.Proofs.Ytkjlmibjpfmfnaa.Mx Go.Proofs.Ytkjlmibjpfmfnaa.Fl
section
variable {e : Ev} {w w' : World} {h h' : Hp} {p b i : Nat} {gh : Gh} {mm : Ln → Option Nat} {S : Nat → Prop} {o : Ob} {r : Rw} {g : GL} {ga gc : List GL}
/-- A stream whose row is empty: nothing. -/
theorem pass0_s {bs : Nat} {t : Option Nat} (hv : Hv e w h) (hs : h b = some (.st bs r t)) (hr : r.fs = none) : Calls Try.prog 34 #[qptr p, qptr b] w fun en w' => en = .returned (.tuple #[]) ∧ w = w' := by
  have hem : Calls Try.prog 57 #[.pointer (some ⟨b, 1, none⟩)] w fun en w' => en = .returned (.bool true) ∧ w = w' := by
    have := emptyM hv hs (r := r) rfl
    rw [hr] at this
    exact this
  clear hv hs hr
  go_enter Try.func34, Try.ntmps34
  go_wp2_with (go_at_call 57; refine hem.mono ?_; rintro e2 w2' ⟨rfl, rfl⟩)
  refine bodyPost_ret (results_none rfl _ _ _) rfl ?_
  exact ⟨rfl, rfl⟩
set_option maxHeartbeats 8000000 in
theorem pass_s (k : QM e w h p gh mm) (eg : gh.gl = ga ++ g :: gc) (hne : g.ms ≠ []) (had : gh.ad < 4611686018427387904) : Calls Try.prog 34 #[qptr p, qptr g.sb] w fun en w' => ∃ h' nb, en = .returned (.tuple #[]) ∧ QM e w' h' p (passG gh ga gc g nb) mm ∧ Grow h h' w.heap.size ∧ Fr (QG e h) w w' ∧ Msk h h' := by
  have hg : g ∈ gh.gl := by rw [eg]; simp
  have L := k.rep.line g hg
  obtain ⟨rq, hq⟩ := k.rep.q
  obtain ⟨rs, hs⟩ := L.ob
  have hrs := L.row.ob_eq hs
  have hem : Calls Try.prog 57 #[.pointer (some ⟨g.sb, 1, none⟩)] w fun en w' => en = .returned (.bool false) ∧ w = w' := by
    have := emptyM k.hv hs (r := rs) rfl
    have e9 : rs.fs.isNone = false := by
      injection hrs with hrs
      rw [hrs]
      cases hms : g.ms with
      | nil => exact absurd hms hne
      | cons y t => rfl
    rw [e9] at this
    exact this
  have T0 := k.rep.turns
  rw [eg, List.map_append, List.map_cons] at T0
  obtain ⟨c1, c2, c3⟩ := T0.rm_call
  obtain ⟨h1, eh1⟩ : ∃ h1, h1 = rmH h p (lst (ga.map GL.lk)) (hd (gc.map GL.lk)) := ⟨_, rfl⟩
  have T1 : Row h1 true p gh.ad ((ga ++ gc).map GL.lk) := by rw [eh1, List.map_append]; exact T0.remove
  have f1 : Off (fun y => y = p) h h1 := by rw [eh1]; exact Off.rm T0
  have hs1 := f1.at_ hs rfl (k.rep.p_ne hg)
  obtain ⟨o1, ho1, hor⟩ := T1.ob
  have hoff : o1.off = 3 := by
    obtain ⟨r', h8⟩ := T0.rm_ob hq
    rw [← eh1, ho1] at h8
    injection h8 with h8
    rw [h8]
    rfl
  have hrt : Calls Try.prog 58 #[.pointer (some ⟨p, 3, none⟩), qptr g.lb] w.drew fun en w' => en = .returned (.tuple #[]) ∧ Hv e w' h1 ∧ Fr (HG h) w.drew w' := by
    have := rmS k.hv.drew hq (T0.ob_eq hq) c1 c2 c3
    rw [show (GL.lk g).b = g.lb from rfl, ← eh1] at this
    exact this.mono fun en w' ⟨a1, a2, a3⟩ => ⟨a1, a2, a3.mono fun i _ hx => (.inl (by
      rcases hx with rfl | hx | hx
      · rw [hq]; simp
      · obtain ⟨_, _, _, _, _, _, e9⟩ := c2 i hx; rw [e9]; simp
      · obtain ⟨_, _, _, _, _, _, _, e9⟩ := c3 i hx; rw [e9]; simp))⟩
  have cl : w.cell? ⟨g.sb, 4, none⟩ = some (qptr g.lb) := k.hv.cell hs 4
  have HRT := Lib.hid hrt
  have K0 := Lib.hid k
  have HG1 : Hid (Grow h h1 w.heap.size) := by rw [eh1]; exact Grow.rm _ _ _ _ _
  have HQ := Lib.hid hq
  have HS1 := Lib.hid hs1
  have HS := Lib.hid hs
  have HT1 := Lib.hid T1
  have HO := Lib.hid ho1
  have HOR := Lib.hid hor
  have HOF := Lib.hid hoff
  have HE1 := Lib.hid eh1
  have HEG := Lib.hid eg
  have HAD := Lib.hid had
  have HGM := Lib.hid hg
  clear hrt k eh1 f1 hs1 hq hs hrs L T0 c1 c2 c3 T1 ho1 hor hoff eg had hne hg
  go_enter Try.func34, Try.ntmps34
  go_upto_region 1 with (go_at_call 57; refine hem.mono ?_; rintro e2 w2' ⟨rfl, rfl⟩)
  go_still_tail 7, (by kernel_rfl)
  change wpList _ _ _ _ _ w.drew
  obtain ⟨V1, hV1⟩ : ∃ V, V = w.drew := ⟨_, rfl⟩
  have F0 : Hid (Fr (HG h) w V1) := by rw [hV1]; exact (Fr.refl _ w).drew
  rw [← hV1] at HRT ⊢
  clear hV1 cl
  go_upto_region 2 with (go_at_call 58; refine HRT.out.mono ?_; rintro e2 w1 ⟨rfl, hv1, hf1⟩)
  have F1 : Hid (Fr (HG h) w w1) := F0.out.same hf1
  have HV1 := Lib.hid hv1
  obtain ⟨nb, hnb⟩ : ∃ nb, nb = w1.heap.size := ⟨_, rfl⟩
  have hnn : h1 nb = none := hv1.none_ (Nat.le_of_eq hnb.symm)
  have HNN := Lib.hid hnn
  have HNB := Lib.hid hnb
  obtain ⟨h2, eh2⟩ : ∃ h2, h2 = addH h1 true p o1 ⟨hd ((ga ++ gc).map GL.lk), lst ((ga ++ gc).map GL.lk), gh.ad⟩ g.sb nb := ⟨_, rfl⟩
  have HE2 := Lib.hid eh2
  have hadd : Hid (Calls Try.prog 53 #[.pointer (some ⟨p, 3, none⟩), qptr g.sb] w1 fun en w' => en = .returned (qptr nb) ∧ Hv e w' h2 ∧ Fr (HG h1) w1 w') := by
    obtain ⟨c4, c5⟩ := HT1.out.add_call
    have := addS (th := g.sb) hv1 HO.out HOR.out HAD.out c4 c5
    rw [HOF.out, ← hnb, ← eh2] at this
    exact this.mono fun en w' ⟨a1, a2, a3⟩ => ⟨a1, a2, a3.mono fun i _ hx => (.inl (by
      rcases hx with rfl | hx
      · rw [HO.out]; simp
      · obtain ⟨_, _, _, _, e9⟩ := c5 i hx; rw [e9]; simp))⟩
  have HS2 : Hid (h2 g.sb = some (.st (bytesI g.its) rs (some g.lb))) := by
    have f2 : Off (fun y => y = p) h1 h2 := by rw [eh2]; exact Off.add HT1.out hnn
    exact f2.at_ HS1.out rfl (K0.out.rep.p_ne HGM.out)
  clear hv1 hf1 hnn eh2 hnb
  go_wp2_with (go_at_call 53; refine hadd.out.mono ?_; rintro e3 w2 ⟨rfl, hv2, hf2⟩; (have cs2 : w2.cell? ⟨g.sb, 4, none⟩ = some (qptr g.lb) := hv2.cell HS2.out 4); have fs2 := hv2.frz HS2.out 4)
  go_end0
  have h3 : Hv e (w2.setCell ⟨g.sb, 4, none⟩ (qptr nb)) (upd h2 g.sb (.st (bytesI g.its) rs (some nb))) := hv2.set HS2.out rfl rfl (fun x hx => by cases hx)
  have hf3 : Fr (fun i => i = g.sb) w2 (w2.setCell ⟨g.sb, 4, none⟩ (qptr nb)) := fr_set _
  have hsz := F1.out.size
  have G2 : Grow h1 h2 w.heap.size := by rw [HE2.out]; exact Grow.add HO.out HOR.out (by rw [HNB.out]; exact hsz) HNN.out
  have G3 : Grow h2 (upd h2 g.sb (.st (bytesI g.its) rs (some nb))) w.heap.size := Grow.upd _ _ (.inl (by rw [HS2.out]; simp)) fun x hx => by cases hx
  have GG := (HG1.out.trans G2 (Nat.le_refl _)).trans G3 (Nat.le_refl _)
  have hff : Fr (HG h) w (w2.setCell ⟨g.sb, 4, none⟩ (qptr nb)) := (F1.out.trans hf2 fun i hi hx => by
    rcases HG1.out.hg hx with h9 | h9
    · exact h9
    · omega).same (hf3.mono fun i _ hi => .inl (by rw [show i = g.sb from hi, HS.out]; simp))
  obtain ⟨m1, m2, m3⟩ := K0.out.maps hff fun _ h _ => h
  refine ⟨_, nb, rfl, ⟨h3, K0.out.rep.pass K0.out.g HEG.out HE1.out HO.out HNN.out HE2.out HS2.out, K0.out.g.pass HEG.out nb, m1, m2, m3, K0.out.ne⟩, GG, hff.mono fun i _ hi => .inl hi, ?_⟩
  refine ((Keep.rm h p _ _).msk : Msk h (rmH h p (lst (ga.map GL.lk)) (hd (gc.map GL.lk)))).trans ?_
  rw [← HE1.out]
  refine Msk.trans ?_ (Msk.upd HS2.out fun x hx => by cases hx)
  rw [HE2.out]
  exact (Keep.add HO.out HOR.out HNN.out HT1.out.ls_ne).msk
end
end Go.Proofs.Ytkjlmibjpfmfnaa.Sc

set_option linter.unusedVariables false
set_option linter.unusedSimpArgs false
namespace Go.Proofs.Ytkjlmibjpfmfnaa.Sc
open Go.Proofs.Ytkjlmibjpfmfnaa.Words Go.Proofs.Ytkjlmibjpfmfnaa.Chk
/-- What is told of the ghosts, while lines and rows may be empty. -/
structure RepW (gh : Gh) : Prop where
  sbs : (gh.gl.map GL.sb).Nodup
  sts : (gh.gl.map GL.st).Nodup
  inj : ∀ id id' n n', gh.N id = some n → gh.N id' = some n' → n.rb = n'.rb → id = id'
  mn : ∀ g ∈ gh.gl, ∀ x ∈ g.ms, ∃ n pl, gh.N x.it.id = some n ∧ (⟨x.nb, x.mb, pl⟩ : Lk) ∈ n.l
  nm : ∀ id n, gh.N id = some n → ∀ y ∈ n.l, ∃ g ∈ gh.gl, ∃ x ∈ g.ms, x.mb = y.th ∧ x.nb = y.b ∧ x.it.id = id
  sm1 : ∀ g ∈ gh.gl, gh.sm g.st = some g.sb
  sm2 : ∀ st sb, gh.sm st = some sb → ∃ g ∈ gh.gl, g.st = st ∧ g.sb = sb
def putS (sm : Nat → Option Nat) (st sb : Nat) : Nat → Option Nat := fun y => if y = st then some sb else sm y
section
variable {gh : Gh} {g : GL} {x : GM} {ga gc : List GL} {n : NR} {st sb lb rb : Nat} {id : Int}
theorem RepG.w (k : RepG gh) : RepW gh := ⟨k.sbs, k.sts, k.inj, k.mn, k.nm, k.sm1, k.sm2⟩
theorem RepW.full (k : RepW gh) (h1 : ∀ g ∈ gh.gl, g.ms ≠ []) (h2 : ∀ id n, gh.N id = some n → n.l ≠ []) : RepG gh := ⟨h1, k.sbs, k.sts, h2, k.inj, k.mn, k.nm, k.sm1, k.sm2⟩
def lineG (gh : Gh) (st sb lb : Nat) : Gh := { gh with gl := gh.gl ++ [⟨st, sb, lb, gh.ad, 0, []⟩], ad := gh.ad + 1, sm := putS gh.sm st sb }
theorem RepW.line_new (k : RepW gh) (h1 : gh.sm st = none) (h2 : ∀ g ∈ gh.gl, g.sb ≠ sb) : RepW (lineG gh st sb lb) := by
  have hst : ∀ g ∈ gh.gl, g.st ≠ st := fun g hg e => by
    have := k.sm1 g hg
    rw [e, h1] at this
    cases this
  have hin : ∀ g ∈ gh.gl, g ∈ (lineG gh st sb lb).gl := fun g hg => List.mem_append_left _ hg
  refine ⟨?_, ?_, k.inj, fun g hg y hy => ?_, fun id n hn y hy => ?_, fun g hg => ?_, fun s b e => ?_⟩
  · show ((gh.gl ++ [(⟨st, sb, lb, gh.ad, 0, []⟩ : GL)]).map GL.sb).Nodup
    rw [List.map_append, List.nodup_append]
    refine ⟨k.sbs, by simp, fun a ha b hb => ?_⟩
    obtain ⟨g, hg, rfl⟩ := List.mem_map.1 ha
    rw [List.mem_singleton.1 (show b ∈ [sb] from hb)]
    exact h2 g hg
  · show ((gh.gl ++ [(⟨st, sb, lb, gh.ad, 0, []⟩ : GL)]).map GL.st).Nodup
    rw [List.map_append, List.nodup_append]
    refine ⟨k.sts, by simp, fun a ha b hb => ?_⟩
    obtain ⟨g, hg, rfl⟩ := List.mem_map.1 ha
    rw [List.mem_singleton.1 (show b ∈ [st] from hb)]
    exact hst g hg
  · rcases List.mem_append.1 (show g ∈ gh.gl ++ [(⟨st, sb, lb, gh.ad, 0, []⟩ : GL)] from hg) with h9 | h9
    · exact k.mn g h9 y hy
    · rw [List.mem_singleton.1 h9] at hy
      cases hy
  · obtain ⟨g, e1, x, e2⟩ := k.nm id n hn y hy
    exact ⟨g, hin g e1, x, e2⟩
  · show putS gh.sm st sb g.st = _
    unfold putS
    rcases List.mem_append.1 (show g ∈ gh.gl ++ [(⟨st, sb, lb, gh.ad, 0, []⟩ : GL)] from hg) with h9 | h9
    · rw [if_neg (hst g h9)]
      exact k.sm1 g h9
    · rw [List.mem_singleton.1 h9, if_pos rfl]
  · have e' : (if s = st then some sb else gh.sm s) = some b := e
    split at e'
    · rename_i e1
      injection e' with e'
      exact ⟨⟨st, sb, lb, gh.ad, 0, []⟩, List.mem_append_right _ List.mem_cons_self, e1.symm, e'⟩
    · obtain ⟨g, e1, e2⟩ := k.sm2 _ _ e'
      exact ⟨g, hin g e1, e2⟩
def numG (gh : Gh) (id : Int) (rb : Nat) : Gh := { gh with N := putN gh.N id ⟨rb, 0, []⟩ }
theorem RepW.num_new (k : RepW gh) (h1 : gh.N id = none) (h2 : ∀ id' n, gh.N id' = some n → n.rb ≠ rb) : RepW (numG gh id rb) := by
  have key : ∀ i n, (numG gh id rb).N i = some n → (i = id ∧ n = ⟨rb, 0, []⟩) ∨ gh.N i = some n := fun i n e => by
    have e' : (if i = id then some (⟨rb, 0, []⟩ : NR) else gh.N i) = some n := e
    split at e'
    · rename_i e1
      injection e' with e'
      exact .inl ⟨e1, e'.symm⟩
    · exact .inr e'
  refine ⟨k.sbs, k.sts, fun i i' n1 n2 e1 e2 e => ?_, fun g hg y hy => ?_, fun i n hn y hy => ?_, k.sm1, k.sm2⟩
  · rcases key _ _ e1 with ⟨a1, a2⟩ | a1 <;> rcases key _ _ e2 with ⟨b1, b2⟩ | b1
    · rw [a1, b1]
    · rw [a2] at e
      exact absurd e.symm (h2 _ _ b1)
    · rw [b2] at e
      exact absurd e (h2 _ _ a1)
    · exact k.inj _ _ _ _ a1 b1 e
  · obtain ⟨n, pl, e1, e2⟩ := k.mn g hg y hy
    refine ⟨n, pl, ?_, e2⟩
    show (if y.it.id = id then _ else gh.N y.it.id) = _
    rw [if_neg (fun e => by rw [e, h1] at e1; cases e1)]
    exact e1
  · rcases key _ _ hn with ⟨a1, a2⟩ | a1
    · rw [a2] at hy
      cases hy
    · exact k.nm i n a1 y hy
def msgG (gh : Gh) (ga gc : List GL) (g : GL) (x : GM) (n : NR) : Gh := { gh with gl := ga ++ { g with ms := g.ms ++ [x], ad := g.ad + 1 } :: gc, N := putN gh.N x.it.id ⟨n.rb, n.ad + 1, n.l ++ [⟨x.nb, x.mb, n.ad⟩]⟩ }
theorem RepW.msg_add (k : RepW gh) (e : gh.gl = ga ++ g :: gc) (hN : gh.N x.it.id = some n) : RepW (msgG gh ga gc g x n) := by
  have hg : g ∈ gh.gl := by rw [e]; simp
  have key : ∀ i n', (msgG gh ga gc g x n).N i = some n' → (i = x.it.id ∧ n' = ⟨n.rb, n.ad + 1, n.l ++ [⟨x.nb, x.mb, n.ad⟩]⟩) ∨ gh.N i = some n' := fun i n' e => by
    have e' : (if i = x.it.id then some (⟨n.rb, n.ad + 1, n.l ++ [⟨x.nb, x.mb, n.ad⟩]⟩ : NR) else gh.N i) = some n' := e
    split at e'
    · rename_i e1
      injection e' with e'
      exact .inl ⟨e1, e'.symm⟩
    · exact .inr e'
  have hm1 : ∀ g1 ∈ gh.gl, ∃ g2 ∈ (msgG gh ga gc g x n).gl, g2.st = g1.st ∧ g2.sb = g1.sb ∧ g1.ms ⊆ g2.ms := fun g1 h1 => by
    rw [e] at h1
    rcases List.mem_append.1 h1 with h9 | h9
    · exact ⟨g1, by simp [msgG, h9], rfl, rfl, fun _ h => h⟩
    · rcases List.mem_cons.1 h9 with h9 | h9
      · exact ⟨{ g with ms := g.ms ++ [x], ad := g.ad + 1 }, by simp [msgG], by rw [h9], by rw [h9], by rw [h9]; exact fun y hy => List.mem_append_left _ hy⟩
      · exact ⟨g1, by simp [msgG, h9], rfl, rfl, fun _ h => h⟩
  have hm2 : ∀ g2 ∈ (msgG gh ga gc g x n).gl, ∃ g1 ∈ gh.gl, g2.st = g1.st ∧ g2.sb = g1.sb ∧ ∀ y ∈ g2.ms, y ∈ g1.ms ∨ y = x := fun g2 h2 => by
    rw [e]
    have h2' : g2 ∈ ga ++ { g with ms := g.ms ++ [x], ad := g.ad + 1 } :: gc := h2
    rcases List.mem_append.1 h2' with h9 | h9
    · exact ⟨g2, List.mem_append_left _ h9, rfl, rfl, fun y h => .inl h⟩
    · rcases List.mem_cons.1 h9 with h9 | h9
      · rw [h9]
        refine ⟨g, by simp, rfl, rfl, fun y hy => ?_⟩
        rcases List.mem_append.1 (show y ∈ g.ms ++ [x] from hy) with h8 | h8
        · exact .inl h8
        · exact .inr (List.mem_singleton.1 h8)
      · exact ⟨g2, List.mem_append_right _ (List.mem_cons_of_mem _ h9), rfl, rfl, fun y h => .inl h⟩
  have hmap : ∀ f : GL → Nat, f { g with ms := g.ms ++ [x], ad := g.ad + 1 } = f g → (msgG gh ga gc g x n).gl.map f = gh.gl.map f := fun f hf => by
    rw [e]
    show (ga ++ { g with ms := g.ms ++ [x], ad := g.ad + 1 } :: gc).map f = _
    rw [List.map_append, List.map_append, List.map_cons, List.map_cons, hf]
  have hNx : (msgG gh ga gc g x n).N x.it.id = some ⟨n.rb, n.ad + 1, n.l ++ [⟨x.nb, x.mb, n.ad⟩]⟩ := if_pos rfl
  refine ⟨?_, ?_, fun i i' n1 n2 e1 e2 e9 => ?_, fun g2 h2 y hy => ?_, fun i n' hn y hy => ?_, fun g2 h2 => ?_, fun st sb h2 => ?_⟩
  · rw [hmap _ rfl]; exact k.sbs
  · rw [hmap _ rfl]; exact k.sts
  · rcases key _ _ e1 with ⟨a1, a2⟩ | a1 <;> rcases key _ _ e2 with ⟨b1, b2⟩ | b1
    · rw [a1, b1]
    · rw [a2] at e9
      rw [a1]
      exact k.inj _ _ _ _ hN b1 e9
    · rw [b2] at e9
      rw [b1]
      exact k.inj _ _ _ _ a1 hN e9
    · exact k.inj _ _ _ _ a1 b1 e9
  · obtain ⟨g1, h1, _, _, h3⟩ := hm2 g2 h2
    rcases h3 y hy with h9 | rfl
    · obtain ⟨n1, pl, e1, e2⟩ := k.mn g1 h1 y h9
      by_cases hid : y.it.id = x.it.id
      · rw [hid, hN] at e1
        injection e1 with e1
        subst e1
        exact ⟨_, pl, by rw [hid]; exact hNx, List.mem_append_left _ e2⟩
      · refine ⟨n1, pl, ?_, e2⟩
        show (if y.it.id = x.it.id then _ else gh.N y.it.id) = _
        rw [if_neg hid]
        exact e1
    · exact ⟨_, n.ad, hNx, List.mem_append_right _ List.mem_cons_self⟩
  · rcases key _ _ hn with ⟨a1, a2⟩ | a1
    · rw [a2] at hy
      rcases List.mem_append.1 hy with h9 | h9
      · obtain ⟨g1, h1, x1, h3, h4⟩ := k.nm _ _ hN y h9
        obtain ⟨g2, h5, _, _, h6⟩ := hm1 g1 h1
        exact ⟨g2, h5, x1, h6 h3, by rw [a1]; exact h4⟩
      · rw [List.mem_singleton.1 h9]
        exact ⟨{ g with ms := g.ms ++ [x], ad := g.ad + 1 }, by simp [msgG], x, by simp, rfl, rfl, a1.symm⟩
    · obtain ⟨g1, h1, x1, h3, h4⟩ := k.nm _ _ a1 y hy
      obtain ⟨g2, h5, _, _, h6⟩ := hm1 g1 h1
      exact ⟨g2, h5, x1, h6 h3, h4⟩
  · obtain ⟨g1, h1, e1, e2, _⟩ := hm2 g2 h2
    rw [e1, e2]
    exact k.sm1 g1 h1
  · obtain ⟨g1, h1, e1, e2⟩ := k.sm2 st sb h2
    obtain ⟨g2, h5, e3, e4, _⟩ := hm1 g1 h1
    exact ⟨g2, h5, by rw [e3]; exact e1, by rw [e4]; exact e2⟩
end
end Go.Proofs.Ytkjlmibjpfmfnaa.Sc

set_option linter.unusedVariables false
set_option linter.unusedSimpArgs false
set_option maxRecDepth 20000
namespace Go.Proofs.Ytkjlmibjpfmfnaa.Sc
open Go.ChangeShapes Go.WideShapes Go.ChangeAt Go.RowKit Go.Deep Go.Maps Go.Proofs.Ytkjlmibjpfmfnaa.Words Go.Proofs.Ytkjlmibjpfmfnaa.Oct Go.Proofs.Ytkjlmibjpfmfnaa.Par Go.Proofs.Ytkjlmibjpfmfnaa.Chk Go.Proofs.Ytkjlmibjpfmfnaa.Mx Go.Proofs.Ytkjlmibjpfmfnaa.Fl
/-- Where an add stands: the queue, with a message that is not yet in it. -/
structure AdS (e : Ev) (w0 : World) (h0 : Hp) (p mb : Nat) (x0 : Me) (mm : Ln → Option Nat) (W : World) (h : Hp) (gh : Gh) : Prop where
  hv : Hv e W h
  rep : RepH h p gh
  rw : RepW gh
  sm : MapX u16X W e.sm (smF gh)
  nm : MapZ Try.prog 3 W e.nm (nmF gh)
  mm : MapX lnX W e.mm (mmF mm)
  ne : e.sm ≠ e.nm ∧ e.sm ≠ e.mm ∧ e.nm ≠ e.mm
  m : h mb = some (.ms x0)
  s0 : x0.s = none
  gr : Grow h0 h w0.heap.size
  fr : Fr (QG e h0) w0 W
section
variable {e : Ev} {w0 W W' : World} {h0 h h' : Hp} {p mb st : Nat} {x0 : Me} {mm : Ln → Option Nat} {gh : Gh} {S : Nat → Prop}
abbrev z0 : Rw := ⟨none, none, 0⟩
theorem hg_map (hv : Hv e W h) {b : Nat} (hb : kd W b = some 0) : ¬ HG h b := fun hi => by
  rcases hi with hi | ⟨b2, x, e1, ad, e2, rfl⟩
  · cases hh : h b with
    | none => exact hi hh
    | some o => rw [hv.kd hh] at hb; injection hb with hb; cases hb
  · rw [(hv.bod b2 x e1).kd ad e2] at hb
    injection hb with hb
    cases hb
theorem AdS.maps (k : AdS e w0 h0 p mb x0 mm W h gh) (hf : Fr S W W') (hS : ∀ i, S i → i < W.heap.size → HG h i) : MapX u16X W' e.sm (smF gh) ∧ MapZ Try.prog 3 W' e.nm (nmF gh) ∧ MapX lnX W' e.mm (mmF mm) :=
  ⟨k.sm.fr hf fun h1 => hg_map k.hv (kd_mapx k.sm) (hS _ h1 k.sm.lt), k.nm.fr hf fun h1 => hg_map k.hv (kd_mapz k.nm) (hS _ h1 k.nm.lt), k.mm.fr hf fun h1 => hg_map k.hv (kd_mapx k.mm) (hS _ h1 k.mm.lt)⟩
theorem AdS.drew (k : AdS e w0 h0 p mb x0 mm W h gh) : AdS e w0 h0 p mb x0 mm W.drew h gh := ⟨k.hv.drew, k.rep, k.rw, k.sm.drew, k.nm.same rfl, k.mm.drew, k.ne, k.m, k.s0, k.gr, k.fr.drew⟩
/-- A fresh line: its block is made, its link is added, its turn told, the map told of it. -/
theorem AdS.line1 (k : AdS e w0 h0 p mb x0 mm W h gh) (had : gh.ad < 4611686018427387904) : ∃ h1, Hv e (W.alloc (.cells (Ob.cells e (.st 0 z0 none)) (Ob.ty (.st 0 z0 none)))) h1 ∧ h1 = upd h W.heap.size (.st 0 z0 none) ∧
    Calls Try.prog 53 #[.pointer (some ⟨p, 3, none⟩), qptr W.heap.size] (W.alloc (.cells (Ob.cells e (.st 0 z0 none)) (Ob.ty (.st 0 z0 none)))) fun en w' => ∃ lb h2, en = .returned (qptr lb) ∧ Hv e w' h2 ∧ Fr (HG h) W w' ∧ Grow h h2 W.heap.size ∧ h2 W.heap.size = some (.st 0 z0 none) ∧ w0.heap.size ≤ W.heap.size ∧ (∀ sm, RepH (upd h2 W.heap.size (.st 0 z0 (some lb))) p { gh with gl := gh.gl ++ [⟨st, W.heap.size, lb, gh.ad, 0, []⟩], ad := gh.ad + 1, sm := sm }) ∧ h2 mb = some (.ms x0) := by
  have hv1 := k.hv.new (.st 0 z0 none) (fun x hx => by cases hx)
  have hsb : h W.heap.size = none := k.hv.none_ (Nat.le_refl _)
  obtain ⟨rq, hq⟩ := k.rep.q
  have hsp : W.heap.size ≠ p := fun e => by rw [e, hq] at hsb; cases hsb
  have f1 : Off (fun y => y = W.heap.size) h (upd h W.heap.size (.st 0 z0 none)) := Off.upd _ _ _
  have P0 : ∀ b, b = W.heap.size → Plain h b := fun b e s own th pl bf af e9 => by rw [e, hsb] at e9; cases e9
  have T1 : Row (upd h W.heap.size (.st 0 z0 none)) true p gh.ad (gh.gl.map GL.lk) := k.rep.turns.off f1 P0 (Ne.symm hsp)
  have hq1 := f1.at_ hq rfl (Ne.symm hsp)
  refine ⟨_, hv1, rfl, ?_⟩
  obtain ⟨c4, c5⟩ := T1.add_call
  have := addS (th := W.heap.size) hv1 hq1 (T1.ob_eq hq1) had c4 c5
  refine this.mono fun en w' ⟨a1, a2, a3⟩ => ⟨_, _, a1, a2, ?_, ?_, ?_, k.fr.size, fun sm => ?_, ?_⟩
  · refine ((Fr.refl (HG h) W).alloc _).trans a3 fun i hi hx => ?_
    rcases hx with rfl | hx
    · exact .inl (by rw [hq]; simp)
    · obtain ⟨_, _, _, _, e9⟩ := c5 i hx
      rw [upd_ne _ _ (fun e => by omega)] at e9
      exact .inl (by rw [e9]; simp)
  · exact (Grow.upd (B := W.heap.size) _ _ (.inr (Nat.le_refl _)) (fun x hx => by cases hx)).trans (Grow.add hq1 (T1.ob_eq hq1) (by rw [World.size_alloc]; omega) (hv1.none_ (Nat.le_refl _))) (Nat.le_refl _)
  · exact (k.rep.line_new hsb rfl hq1 (hv1.none_ (Nat.le_refl _)) rfl rfl st gh.sm).2
  · exact (k.rep.line_new hsb rfl hq1 (hv1.none_ (Nat.le_refl _)) rfl rfl st sm).1
  · refine (Off.add T1 (hv1.none_ (Nat.le_refl _)) : Off (fun y => y = p) _ _).at_ (f1.at_ k.m rfl fun e => by have := k.hv.lt k.m; omega) rfl fun e => ?_
    have := k.m
    rw [e, hq] at this
    cases this
theorem AdS.line2 (k : AdS e w0 h0 p mb x0 mm W h gh) {W2 W4 : World} {h2 : Hp} {lb : Nat} (hst : gh.sm st = none) (hv2 : Hv e W2 h2) (hf : Fr (HG h) W W2) (gr : Grow h h2 W.heap.size) (hs2 : h2 W.heap.size = some (.st 0 z0 none)) (hB : w0.heap.size ≤ W.heap.size) (rep : ∀ sm, RepH (upd h2 W.heap.size (.st 0 z0 (some lb))) p { gh with gl := gh.gl ++ [⟨st, W.heap.size, lb, gh.ad, 0, []⟩], ad := gh.ad + 1, sm := sm }) (hm : h2 mb = some (.ms x0))
    {W3 : World} (e3 : W3 = W2.setCell ⟨W.heap.size, 4, none⟩ (qptr lb)) (hsm : MapX u16X W4 e.sm (putF (smF gh) st (qptr W.heap.size))) (ht : W3.drew.mapTurned W4 e.sm) : AdS e w0 h0 p mb x0 mm W4 (upd h2 W.heap.size (.st 0 z0 (some lb))) (lineG gh st W.heap.size lb) := by
  have hv3 : Hv e W3 (upd h2 W.heap.size (.st 0 z0 (some lb))) := by rw [e3]; exact hv2.set hs2 rfl rfl (fun x hx => by cases hx)
  have hf3 : Fr (fun i => i = W.heap.size) W2 W3 := by rw [e3]; exact fr_set _
  have hf4 : Fr (fun i => i = e.sm) W3 W4 := ((Fr.refl (fun i => i = e.sm) W3).drew).same ((Fr.of_grown ht.grown).mono (fun i _ e => by injection e))
  have hf03 : Fr (HG h) W W3 := hf.trans hf3 fun i hi hx => by have : i = W.heap.size := hx; omega
  obtain ⟨m1, m2, m3⟩ := k.maps hf03 fun _ h _ => h
  have hm9 : mb ≠ W.heap.size := fun e => by rw [e, hs2] at hm; cases hm
  refine ⟨hv3.fr hf4 fun i hi h1 h2 => ?_, rep _, k.rw.line_new hst fun g hg e9 => ?_, ?_, m2.fr hf4 k.ne.1.symm, m3.fr hf4 k.ne.2.1.symm, k.ne, (upd_ne _ _ hm9).trans hm, k.s0, ?_, ?_⟩
  · have hi' : i = e.sm := hi
    rw [hi'] at h2
    exact hg_map hv3 (kd_mapx m1) h2
  · obtain ⟨r, h7⟩ := (k.rep.line g hg).ob
    have := k.hv.lt h7
    omega
  · refine hsm.as_ fun y => ?_
    unfold putF smF
    show _ = (putS gh.sm st W.heap.size y).map qptr
    unfold putS
    by_cases hy : y = st
    · rw [if_pos hy, if_pos hy]; rfl
    · rw [if_neg hy, if_neg hy]
  · exact (k.gr.trans gr hB).trans (Grow.upd _ _ (.inl (by rw [hs2]; simp)) fun x hx => by cases hx) (Nat.le_refl _)
  · exact (k.fr.trans hf03 fun i hi hx => by
      rcases k.gr.hg hx with h9 | h9
      · exact .inl h9
      · omega).trans hf4 fun i hi hx => .inr (.inl hx)
/-- A fresh row of a number. -/
theorem AdS.num2 (k : AdS e w0 h0 p mb x0 mm W h gh) {W4 W3 : World} {id : Int} (hid : gh.N id = none) (e3 : W3 = W.alloc (.cells (Ob.cells e (.rw z0)) (Ob.ty (.rw z0)))) (hnm : MapZ Try.prog 3 W4 e.nm (putF (nmF gh) id (qptr W.heap.size))) (ht : W3.drew.mapTurned W4 e.nm) : AdS e w0 h0 p mb x0 mm W4 (upd h W.heap.size (.rw z0)) (numG gh id W.heap.size) := by
  have hrb : h W.heap.size = none := k.hv.none_ (Nat.le_refl _)
  have hv3 : Hv e W3 (upd h W.heap.size (.rw z0)) := by rw [e3]; exact k.hv.new _ (fun x hx => by cases hx)
  have hf4 : Fr (fun i => i = e.nm) W3 W4 := ((Fr.refl (fun i => i = e.nm) W3).drew).same ((Fr.of_grown ht.grown).mono (fun i _ e => by injection e))
  have hf03 : Fr (fun _ => False) W W3 := by rw [e3]; exact (Fr.refl _ W).alloc _
  obtain ⟨m1, m2, m3⟩ := k.maps hf03 fun _ h _ => h.elim
  have hm9 : mb ≠ W.heap.size := fun e => by have := k.hv.lt k.m; omega
  refine ⟨hv3.fr hf4 fun i hi h1 h2 => ?_, k.rep.num_new hrb id, k.rw.num_new hid fun id' n hn e9 => ?_, m1.fr hf4 k.ne.1, ?_, m3.fr hf4 k.ne.2.2.symm, k.ne, (upd_ne _ _ hm9).trans k.m, k.s0, ?_, ?_⟩
  · have hi' : i = e.nm := hi
    rw [hi'] at h2
    exact hg_map hv3 (kd_mapz m2) h2
  · obtain ⟨⟨r, h7⟩, _⟩ := k.rep.num _ _ hn
    have := k.hv.lt h7
    omega
  · refine hnm.as_ fun y => ?_
    unfold putF nmF
    show _ = (putN gh.N id ⟨W.heap.size, 0, []⟩ y).map _
    unfold putN
    by_cases hy : y = id
    · rw [if_pos hy, if_pos hy]; rfl
    · rw [if_neg hy, if_neg hy]
  · exact k.gr.trans (Grow.upd _ _ (.inr k.fr.size) fun x hx => by cases hx) (Nat.le_refl _)
  · exact (k.fr.trans hf03 fun i hi hx => hx.elim).trans hf4 fun i hi hx => .inr (.inr (.inl hx))
end
end Go.Proofs.Ytkjlmibjpfmfnaa.Sc

set_option linter.unusedVariables false
set_option linter.unusedSimpArgs false
set_option maxRecDepth 20000
namespace Go.Proofs.Ytkjlmibjpfmfnaa.Sc
open Go.ChangeShapes Go.WideShapes Go.ChangeAt Go.RowKit Go.Deep Go.Maps Go.Proofs.Ytkjlmibjpfmfnaa.Words Go.Proofs.Ytkjlmibjpfmfnaa.Oct Go.Proofs.Ytkjlmibjpfmfnaa.Par Go.Proofs.Ytkjlmibjpfmfnaa.Chk Go.Proofs.Ytkjlmibjpfmfnaa.Mx Go.Proofs.Ytkjlmibjpfmfnaa.Fl
section
variable {e : Ev} {w0 W W' : World} {h0 h h' : Hp} {p mb st lb nb : Nat} {x0 : Me} {mm : Ln → Option Nat} {gh : Gh} {S : Nat → Prop} {g : GL} {ga gc : List GL} {n : NR} {it : It}
structure MsA (e : Ev) (W : World) (h : Hp) (gh : Gh) (g : GL) (n : NR) (mb lb : Nat) (x0 : Me) (W1 : World) (h1 : Hp) : Prop where
  hv : Hv e W1 h1
  ex : ∃ os, h g.sb = some os ∧ h1 = addH h false g.sb os ⟨hd (g.ms.map GM.lk), lst (g.ms.map GM.lk), g.ad⟩ mb lb
  hl : h lb = none
  fr : Fr (HG h) W W1
  gr : Grow h h1 W.heap.size
  R1 : Row h1 false n.rb n.ad n.l
  n1 : ∃ r, h1 n.rb = some (.rw r)
theorem AdS.msg_a (k : AdS e w0 h0 p mb x0 mm W h gh) (eg : gh.gl = ga ++ g :: gc) (hN : gh.N it.id = some n) (h1 : g.ad < 4611686018427387904) :
    Calls Try.prog 54 #[.pointer (some ⟨g.sb, 1, none⟩), qptr mb] W fun en w' => ∃ lb h1, en = .returned (qptr lb) ∧ MsA e W h gh g n mb lb x0 w' h1 := by
  have hg : g ∈ gh.gl := by rw [eg]; simp
  have L := k.rep.line g hg
  obtain ⟨rs, hs⟩ := L.ob
  obtain ⟨⟨rn, hr⟩, R⟩ := k.rep.num _ _ hN
  have hns : n.rb ≠ g.sb := fun e => by rw [e, hs] at hr; cases hr
  obtain ⟨c4, c5⟩ := L.row.add_call
  have hnn : h W.heap.size = none := k.hv.none_ (Nat.le_refl _)
  have := addM (th := mb) k.hv hs (L.row.ob_eq hs) h1 c4 c5
  refine this.mono fun en w' ⟨a1, a2, a3⟩ => ⟨_, _, a1, a2, ⟨_, hs, rfl⟩, hnn, a3.mono fun i hi hx => .inl ?_, Grow.add hs (L.row.ob_eq hs) (Nat.le_refl _) hnn, R.off (Off.add L.row hnn) (fun b e => by rw [show b = g.sb from e]; exact plain_of hs rfl) hns, rn, (Off.add L.row hnn : Off (fun y => y = g.sb) _ _).at_ hr rfl hns⟩
  rcases hx with rfl | hx
  · rw [hs]; simp
  · obtain ⟨_, _, _, _, e9⟩ := c5 i hx; rw [e9]; simp
structure MsB (e : Ev) (W1 : World) (h1 : Hp) (n : NR) (mb nb : Nat) (W2 : World) (h2 : Hp) : Prop where
  hv : Hv e W2 h2
  ex : ∃ on, h1 n.rb = some on ∧ h2 = addH h1 false n.rb on ⟨hd n.l, lst n.l, n.ad⟩ mb nb
  hn : h1 nb = none
  fr : Fr (HG h1) W1 W2
  gr : Grow h1 h2 W1.heap.size
theorem MsA.msg_b {W1 : World} {h1 : Hp} (k : MsA e W h gh g n mb lb x0 W1 h1) (h2 : n.ad < 4611686018427387904) :
    Calls Try.prog 54 #[qptr n.rb, qptr mb] W1 fun en w' => ∃ nb h2, en = .returned (qptr nb) ∧ MsB e W1 h1 n mb nb w' h2 := by
  obtain ⟨r, hr⟩ := k.n1
  obtain ⟨c4, c5⟩ := k.R1.add_call
  have hnn : h1 W1.heap.size = none := k.hv.none_ (Nat.le_refl _)
  have := addM (th := mb) k.hv hr (k.R1.ob_eq hr) h2 c4 c5
  refine this.mono fun en w' ⟨a1, a2, a3⟩ => ⟨_, _, a1, a2, ⟨_, hr, rfl⟩, hnn, a3.mono fun i hi hx => .inl ?_, Grow.add hr (k.R1.ob_eq hr) (Nat.le_refl _) hnn⟩
  rcases hx with rfl | hx
  · rw [hr]; simp
  · obtain ⟨_, _, _, _, e9⟩ := c5 i hx; rw [e9]; simp
/-- The message's own cells are told. -/
theorem AdS.msg_c (k : AdS e w0 h0 p mb x0 mm W h gh) (hx0 : x0 = ⟨it, x0.A, x0.cp, none, none, none⟩) (eg : gh.gl = ga ++ g :: gc) (hN : gh.N it.id = some n) {W1 W2 W3 : World} {h1 h2 : Hp} (ka : MsA e W h gh g n mb lb x0 W1 h1) (kb : MsB e W1 h1 n mb nb W2 h2)
    (e3 : W3 = ((W2.setCell ⟨mb, 9, none⟩ (qptr g.sb)).setCell ⟨mb, 10, none⟩ (qptr lb)).setCell ⟨mb, 11, none⟩ (qptr nb)) (hgn : ∀ g' ∈ gh.gl, g'.ms = [] → g' = g) (hnn : ∀ id n', gh.N id = some n' → n'.l = [] → id = it.id) (hbt : bytesG gh.gl + it.m.body.length ≤ 1000000) :
    h2 mb = some (.ms x0) ∧ W3.cell? ⟨mb, 7, none⟩ = some (.slice x0.A it.m.body.length x0.cp) ∧ Calls Try.prog 32 #[qptr p, qptr g.sb, .int .i64 (it.m.body.length : Int)] W3 fun en w' => ∃ h4, en = .returned (.tuple #[]) ∧ QM e w' h4 p (msgG gh ga gc g ⟨it, mb, lb, g.ad, nb, x0.A, x0.cp⟩ n) mm ∧ Grow h0 h4 w0.heap.size ∧ Fr (QG e h0) w0 w' := by
  have hg : g ∈ gh.gl := by rw [eg]; simp
  obtain ⟨os, eo, e1⟩ := ka.ex
  obtain ⟨on, en, e2⟩ := kb.ex
  have hle : bytesI g.its ≤ bytesG gh.gl := by rw [eg, bytesG_app, bytesG_cons]; omega
  have hid' : ∀ id' n', gh.N id' = some n' → n'.rb = n.rb → id' = it.id := fun id' n' h9 e9 => k.rw.inj _ _ _ _ h9 hN e9
  have main := fun h3 h4 e3 e4 => k.rep.msg_add (x := ⟨it, mb, lb, g.ad, nb, x0.A, x0.cp⟩) (h3 := h3) (h4 := h4) k.rw.sbs hid' eg hN k.m k.s0 eo ka.hl e1 en kb.hn e2 e3 e4 rfl
  obtain ⟨_, ⟨rq, hq3⟩, ⟨rs, ts, hs3⟩, hm2⟩ := main _ _ rfl rfl
  have hv3 : Hv e W3 (upd h2 mb (.ms (GM.me g.sb ⟨it, mb, lb, g.ad, nb, x0.A, x0.cp⟩))) := by
    have s1 : Hv e (W2.setCell ⟨mb, 9, none⟩ (qptr g.sb)) (upd h2 mb (.ms ⟨it, x0.A, x0.cp, some g.sb, none, none⟩)) := kb.hv.set hm2 rfl (by rw [hx0]; rfl) (fun x hx => by injection hx with hx; subst hx; exact ⟨x0, rfl, rfl, rfl, by rw [hx0]⟩)
    have s2 : Hv e ((W2.setCell ⟨mb, 9, none⟩ (qptr g.sb)).setCell ⟨mb, 10, none⟩ (qptr lb)) (upd (upd h2 mb (.ms ⟨it, x0.A, x0.cp, some g.sb, none, none⟩)) mb (.ms ⟨it, x0.A, x0.cp, some g.sb, some lb, none⟩)) := s1.set (upd_same _ _ _) rfl rfl (fun x hx => by injection hx with hx; subst hx; exact ⟨_, rfl, rfl, rfl, rfl⟩)
    have s3 : Hv e W3 (upd (upd (upd h2 mb (.ms ⟨it, x0.A, x0.cp, some g.sb, none, none⟩)) mb (.ms ⟨it, x0.A, x0.cp, some g.sb, some lb, none⟩)) mb (.ms (GM.me g.sb ⟨it, mb, lb, g.ad, nb, x0.A, x0.cp⟩))) := by
      rw [e3]
      exact s2.set (upd_same _ _ _) rfl rfl (fun x hx => by injection hx with hx; subst hx; exact ⟨_, rfl, rfl, rfl, rfl⟩)
    refine s3.as_ fun x => ?_
    unfold upd
    split <;> rfl
  have hf3 : Fr (fun i => i = mb) W2 W3 := by rw [e3]; exact (((Fr.refl (fun i => i = mb) W2).setCell (p := ⟨mb, 9, none⟩) (.inl rfl) _).setCell (p := ⟨mb, 10, none⟩) (.inl rfl) _).setCell (p := ⟨mb, 11, none⟩) (.inl rfl) _
  refine ⟨hm2, hv3.cell (upd_same _ _ _) 7, ?_⟩
  refine (count_s (bs' := bytesI g.its + it.m.body.length) (bq' := bytesG gh.gl + it.m.body.length) hv3 hq3 hs3 (by omega) (by omega) (by omega) (by omega) (by omega)).mono fun en w' ⟨a1, a2, a3⟩ => ?_
  obtain ⟨hrep, _⟩ := main _ _ rfl rfl
  have hmn : h mb ≠ none := by rw [k.m]; simp
  have hf02 : Fr (HG h) W W2 := ka.fr.trans kb.fr fun i hi hx => by
    rcases ka.gr.hg hx with h9 | h9
    · exact h9
    · omega
  have hf03 : Fr (HG h) W W3 := hf02.same (hf3.mono fun i _ hx => .inl (by rw [show i = mb from hx]; exact hmn))
  have hf04 : Fr (HG h) W w' := hf03.same (a3.mono fun i _ hx => .inl (by
    obtain ⟨rq0, hq0⟩ := k.rep.q
    obtain ⟨rs0, hs0⟩ := (k.rep.line g hg).ob
    rcases hx with rfl | rfl
    · rw [hq0]; simp
    · rw [hs0]; simp))
  obtain ⟨m1, m2, m3⟩ := k.maps hf04 fun _ h _ => h
  have hN9 : ∀ y, nmF (msgG gh ga gc g ⟨it, mb, lb, g.ad, nb, x0.A, x0.cp⟩ n) y = nmF gh y := fun y => by
    show (putN gh.N it.id ⟨n.rb, n.ad + 1, n.l ++ [⟨nb, mb, n.ad⟩]⟩ y).map _ = (gh.N y).map _
    unfold putN
    by_cases hy : y = it.id
    · rw [if_pos hy, hy, hN]; rfl
    · rw [if_neg hy]
  refine ⟨_, a1, ⟨a2, hrep, (k.rw.msg_add eg hN).full (fun g2 h9 => ?_) (fun id n' h9 => ?_), m1, m2.as_ fun y => (hN9 y).symm, m3, k.ne⟩, ?_, k.fr.trans hf04 fun i hi hx => ?_⟩
  · have h9' : g2 ∈ ga ++ { g with ms := g.ms ++ [(⟨it, mb, lb, g.ad, nb, x0.A, x0.cp⟩ : GM)], ad := g.ad + 1 } :: gc := h9
    have hoth : (g2 ∈ ga ∨ g2 ∈ gc) → g2.ms ≠ [] := fun h8 e9 => by
      have hm : g2 ∈ gh.gl := by
        rw [eg]
        rcases h8 with h7 | h7
        · exact List.mem_append_left _ h7
        · exact List.mem_append_right _ (List.mem_cons_of_mem _ h7)
      have := hgn g2 hm e9
      subst this
      have hnd := k.rw.sbs
      rw [eg, List.map_append, List.map_cons, List.nodup_append, List.nodup_cons] at hnd
      rcases h8 with h7 | h7
      · exact hnd.2.2 _ (List.mem_map_of_mem h7) _ List.mem_cons_self rfl
      · exact hnd.2.1.1 (List.mem_map_of_mem h7)
    rcases List.mem_append.1 h9' with h8 | h8
    · exact hoth (.inl h8)
    · rcases List.mem_cons.1 h8 with h8 | h8
      · rw [h8]; simp
      · exact hoth (.inr h8)
  · have h9' : (if id = it.id then some (⟨n.rb, n.ad + 1, n.l ++ [⟨nb, mb, n.ad⟩]⟩ : NR) else gh.N id) = some n' := h9
    split at h9'
    · injection h9' with h9'
      rw [← h9']
      simp
    · rename_i hid
      exact fun e9 => hid (hnn id n' h9' e9)
  · refine (k.gr.trans ((ka.gr.trans kb.gr ka.fr.size).trans ?_ (Nat.le_refl _)) k.fr.size)
    exact (Grow.upd (B := W.heap.size) _ _ (.inl (by rw [hm2]; simp)) fun x hx => by injection hx with hx; subst hx; exact ⟨x0, hm2, rfl⟩).trans (Grow.cnt _ _ _ _ _ _) (Nat.le_refl _)
  · rcases k.gr.hg hx with h9 | h9
    · exact .inl h9
    · omega
end
end Go.Proofs.Ytkjlmibjpfmfnaa.Sc
