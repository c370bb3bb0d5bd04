/-
  The document's answers of layer 6 (flumeref06): Copy; what is got of what was put is the chunk without the fields that its kind hasn't.
-/
import Derived.Test.YtapccgnhlgkimaaChRf1
set_option linter.unusedVariables false
set_option linter.unusedSimpArgs false
namespace Go.Proofs.Ytapccgnhlgkimaa.Chk
open Go.ChangeShapes Go.WideShapes Go.ChangeAt Go.RowKit Go.Deep Go.Proofs.Ytapccgnhlgkimaa.Words Go.Proofs.Ytapccgnhlgkimaa.Oct Go.Proofs.Ytapccgnhlgkimaa.Par

theorem fill_strip {c : Ck} (h : known c.kind = true) : fillD (flagged c.kind (flagsN c)) c = strip c := by
  obtain ⟨k, bg, en, lo, ba, tsn, st, mid, pp, fr, tag, win, out, inn, gaps, dups, skips, ps, body⟩ := c
  simp only at h
  rcases kinds h with rfl | rfl | rfl | rfl | rfl | rfl | rfl | rfl | rfl | rfl | rfl | rfl | rfl | rfl | rfl | rfl | rfl <;> first | rfl | (cases ba <;> simp [fillD, flagged, flagsN, hasBody, hasPs, loN, strip, zeroC] <;> done) | (cases bg <;> cases en <;> cases lo <;> simp [fillD, flagged, flagsN, hasBody, loN, strip, zeroC] <;> done)
theorem own_emptyN (w : World) (e : TypeId) (size : Nat) : (w.alloc (.cells #[] e)).ownsRow w.heap.size e size (.slice (some ⟨w.heap.size, 0, none⟩) 0 0) 0 [] := by
  have := World.ownsRow_made (base := w.heap.size) (e := e) (size := size) w #[] 0 (Nat.le_refl _) (by unfold maxLen; omega) (by simp)
  simpa using this
theorem dupC_one (l : List Nat) : ∀ u ∈ dupC l, u.oneCell' = true := by
  intro u hu
  simp only [dupC, List.mem_map] at hu
  obtain ⟨b, _, rfl⟩ := hu
  rfl
theorem gapC_one (l : List Gp) : ∀ u ∈ gapC l, u.oneCell' = true := by
  intro u hu
  simp only [gapC, List.mem_flatten, List.mem_map] at hu
  obtain ⟨b, ⟨g, _, rfl⟩, hu⟩ := hu
  simp only [List.mem_cons, List.not_mem_nil, or_false] at hu
  rcases hu with rfl | rfl <;> rfl
theorem skC_one (l : List Skp) : ∀ u ∈ skC l, u.oneCell' = true := by
  intro u hu
  simp only [skC, List.mem_flatten, List.mem_map] at hu
  obtain ⟨b, ⟨g, _, rfl⟩, hu⟩ := hu
  simp only [List.mem_cons, List.not_mem_nil, or_false] at hu
  rcases hu with rfl | rfl | rfl <;> rfl
/-- What one more copied list leaves: behind the append and its store. -/
theorem copied_list {V V1 : World} {g0 i n size : Nat} {e : TypeId} {v : Value} {xs : List Value} {arr : Array Value} (hb : CkBlk V g0 arr) (he : e ≠ 31) (ho : V1.ownsRow V.heap.size e size v (0 + n) ([] ++ xs))
    (hg : (V.alloc (.cells #[] e)).grownBy V1 (Value.slice (some ⟨V.heap.size, 0, none⟩) 0 0).ownBlock) :
    ∃ A cp, v = .slice A n cp ∧ CkBlk V1 g0 arr ∧ CkBlk (V1.setCell ⟨g0, i, none⟩ v) g0 (arr.setIfInBounds i v) ∧ (V1.setCell ⟨g0, i, none⟩ v).ownsRow V.heap.size e size v n xs ∧ Fr (fun k => k = g0) V (V1.setCell ⟨g0, i, none⟩ v) := by
  simp only [Nat.zero_add, List.nil_append] at ho
  have hb1 : CkBlk V1 g0 arr := (Blk.alloc hb _).grown hg (by have := hb.lt; simp [Value.ownBlock]; omega)
  obtain ⟨A, cp, hv, _, _⟩ := own_slice ho
  refine ⟨A, cp, hv, hb1, Blk.set_ hb1 i v, ((Fr.refl (fun k => k = g0) V1).setCell (p := ⟨g0, i, none⟩) (.inl rfl) _).own ho (fun g hg e' => own_blk_ne ho hb1 he (by rw [hg, e'])), ?_⟩
  have hb2 : Below V.heap.size V V1 := ((Below.refl V.heap.size V).alloc (Nat.le_refl _) _).grown hg (by simp) (fun b e => by simp [Value.ownBlock] at e; omega)
  exact Fr.setCell (S := fun k => k = g0) (Fr.grows (Fr.refl (fun k => k = g0) V) hb2) (p := ⟨g0, i, none⟩) (.inl rfl) _
theorem parts_eq' {w : World} {B : Nat} {cs : Array Value} {c : Ck} (h : CkAt w B cs c) : ∃ g d s p b : Hd, cs = ckArr c (.slice g.A c.gaps.length g.cap) (.slice d.A c.dups.length d.cap) (.slice s.A c.skips.length s.cap) (.slice p.A c.ps.length p.cap) (.slice b.A c.body.length b.cap) ∧ Cells cs c g d s p b ∧ Lists w B c g d s p b := by
  obtain ⟨_, g, d, s, p, b, rfl, h1, h2, h3, h4, h5, r1, r2, r3, r4, r5⟩ := h
  exact ⟨g, d, s, p, b, rfl, ⟨rfl, rfl, rfl, rfl, rfl, rfl, rfl, rfl, rfl, rfl, rfl, rfl, rfl, rfl, rfl, rfl, rfl, rfl, rfl, rfl⟩, ⟨h1, h2, h3, h4, h5, r1, r2, r3, r4, r5⟩⟩
set_option maxHeartbeats 8000000 in
set_option maxRecDepth 100000 in
theorem rcopy_k {w : World} {B : Nat} {cs : Array Value} {c : Ck} (hB : B ≤ w.heap.size) (h : CkAt w B cs c) (hs : sizeC c ≤ 1000000) :
    Calls Try.prog 14 #[.agg cs] w fun e w' => (∃ cs', e = .returned (.agg cs') ∧ CkAt w' w'.heap.size cs' c) ∧ Below w.heap.size w w' := by
  have HCOK := Lib.hid h.ok
  have HSC := Lib.hid hs
  obtain ⟨cg, cd, csk, cpp, cb, hcs, hcc, hcl⟩ := parts_eq' h
  have HCL := Lib.hid hcl
  have HBW := Lib.hid hB
  obtain ⟨i1, hi1, hz11, hz12, hz13⟩ := info_parts3 gap_info
  obtain ⟨i2, hi2, hz21, hz22, hz23⟩ := info_parts3 u32_info
  obtain ⟨i3, hi3, hz31, hz32, hz33⟩ := info_parts3 skip_info
  obtain ⟨i0, hi0, hz01, hz02, hz03⟩ := info_parts3 u8_info
  obtain ⟨ng, hng⟩ : ∃ n, n = c.gaps.length := ⟨_, rfl⟩
  obtain ⟨nd, hnd⟩ : ∃ n, n = c.dups.length := ⟨_, rfl⟩
  obtain ⟨ns, hns⟩ : ∃ n, n = c.skips.length := ⟨_, rfl⟩
  obtain ⟨np, hnp⟩ : ∃ n, n = c.ps.length := ⟨_, rfl⟩
  obtain ⟨nb, hnb⟩ : ∃ n, n = c.body.length := ⟨_, rfl⟩
  rw [← hng, ← hnd, ← hns, ← hnp, ← hnb] at hcs
  have hnn : ng ≤ 250000 ∧ nd ≤ 250000 ∧ ns ≤ 125000 ∧ nb ≤ 1000000 := by
    unfold sizeC at hs
    omega
  obtain ⟨hng9, hnd9, hns9, hnb9⟩ := hnn
  have HCS := Lib.hid hcs
  clear hcs
  have HNG := Lib.hid hng
  have HND := Lib.hid hnd
  have HNS := Lib.hid hns
  have HNP := Lib.hid hnp
  have HNB := Lib.hid hnb
  have HSP : Hid (sizeL c.ps ≤ 1000000) := by have := HSC.out; unfold sizeC at this; show _ ≤ _; omega
  have GR : Hid (∀ V, Below w.heap.size w V → Reads V B 2 cg.A ng (gapC c.gaps)) := fun V hb => by rw [HNG.out]; exact HCL.out.gaps.keep (fun q hq => hb.cell (Nat.lt_of_lt_of_le hq HBW.out))
  have DR : Hid (∀ V, Below w.heap.size w V → Reads V B 1 cd.A nd (dupC c.dups)) := fun V hb => by rw [HND.out]; exact HCL.out.dups.keep (fun q hq => hb.cell (Nat.lt_of_lt_of_le hq HBW.out))
  have SR : Hid (∀ V, Below w.heap.size w V → Reads V B 3 csk.A ns (skC c.skips)) := fun V hb => by rw [HNS.out]; exact HCL.out.skips.keep (fun q hq => hb.cell (Nat.lt_of_lt_of_le hq HBW.out))
  have BR : Hid (∀ V, Below w.heap.size w V → Reads V B 1 cb.A nb (u8s c.body)) := fun V hb => by rw [HNB.out]; exact HCL.out.body.keep (fun q hq => hb.cell (Nat.lt_of_lt_of_le hq HBW.out))
  clear h hs hcc hcl hB hng hnd hns hnp hnb
  go_enter Try.func14, Try.ntmps14
  go_upto_region 1 with fail
  have HZ : Hid (CkBlk ((w.alloc (.cells cs 31)).alloc (.cells zeroA 31)) w.heap.size cs ∧ CkBlk ((w.alloc (.cells cs 31)).alloc (.cells zeroA 31)) (w.heap.size + 1) zeroA ∧ Below w.heap.size w ((w.alloc (.cells cs 31)).alloc (.cells zeroA 31)) ∧ ((w.alloc (.cells cs 31)).alloc (.cells zeroA 31)).heap.size = w.heap.size + 2) :=
    ⟨(Blk.new w 31 cs).below ((Below.refl (w.alloc (.cells cs 31)).heap.size _).alloc (Nat.le_refl _) _) (Blk.new w 31 cs).lt, by simpa using Blk.new (w.alloc (.cells cs 31)) 31 zeroA, ((Below.refl w.heap.size w).alloc (Nat.le_refl _) _).alloc (((Below.refl w.heap.size w).alloc (Nat.le_refl _) (.cells cs 31)).size) _, by simp⟩
  obtain ⟨W0, hW0⟩ : ∃ W0, W0 = (w.alloc (.cells cs 31)).alloc (.cells zeroA 31) := ⟨_, rfl⟩
  have hW0' : W0 = (w.alloc (.cells cs 31)).alloc (.cells #[.int .u8 0, .bool false, .bool false, .bool false, .bool false, .int .u32 0, .int .u16 0, .int .u32 0, .int .u32 0, .int .u32 0, .int .u32 0, .int .u32 0, .int .u16 0, .int .u16 0, .slice none 0 0, .slice none 0 0, .slice none 0 0, .slice none 0 0, .slice none 0 0] 31) := hW0
  rw [← hW0] at HZ
  rw [← hW0']
  obtain ⟨g0, hg0⟩ : ∃ g0, g0 = w.heap.size := ⟨_, rfl⟩
  obtain ⟨g2, hg2⟩ : ∃ g2, g2 = w.heap.size + 1 := ⟨_, rfl⟩
  rw [← hg2, ← hg0]
  have HG0 : Hid (CkBlk W0 g0 (ckArr c (.slice cg.A ng cg.cap) (.slice cd.A nd cd.cap) (.slice csk.A ns csk.cap) (.slice cpp.A np cpp.cap) (.slice cb.A nb cb.cap))) := by rw [hg0]; have := HZ.out.1; rw [HCS.out] at this; exact this
  have HG2 : Hid (CkBlk W0 g2 zeroA) := by rw [hg2]; exact HZ.out.2.1
  have HB0 : Hid (Below w.heap.size w W0) := HZ.out.2.2.1
  have hlo0 : w.heap.size ≤ g0 := by omega
  have hlo2 : w.heap.size ≤ g2 := by omega
  have hne : g2 ≠ g0 := by omega
  clear hW0 hW0' hg0 hg2 HZ HCS
  have o14 := CkBlk.at (i := 14) (v := .slice cg.A ng cg.cap) (Blk.alloc HG0.out (.cells #[] 95)) rfl
  go_upto_region 2 with (at_builtin; refine wpList_append_any _ rfl (.tmp 3) (.tmp 5) _ rfl W0.heap.size 95 i1 _ 2 4 Try.underlying25 hi1 hz11 hz12 hz13 rfl (by omega) (.slice (some ⟨W0.heap.size, 0, none⟩) 0 0) 0 [] rfl (own_emptyN W0 _ _) B cg.A ng cg.cap (gapC c.gaps) rfl (((GR.out W0 HB0.out).keep (fun q hq => World.cell?_alloc_lt W0 _ q (Nat.lt_of_lt_of_le hq (Nat.le_trans HBW.out HB0.out.size))))) (gapC_one _) (by simp only [maxLen]; omega) (by omega) (by simp) ?_; intro v14 V14 hown hgr hat; obtain ⟨A14, c14, rfl, hl14⟩ := copied_list (i := 14) HG0.out (by decide) hown hgr; have x14 : V14.cell? ⟨g0, 14, none⟩ = some (.slice cg.A ng cg.cap) := CkBlk.at hl14.1 rfl; have z14 := Blk.frozen hl14.1 14; have HL14 := Lib.hid hl14; clear hown hgr hat hl14)
  obtain ⟨W1, hW⟩ : ∃ W, W = V14.setCell ⟨g0, 14, none⟩ (.slice A14 ng c14) := ⟨_, rfl⟩
  have HG10 : Hid (CkBlk W1 g0 (ckArr c (.slice A14 ng c14) (.slice cd.A nd cd.cap) (.slice csk.A ns csk.cap) (.slice cpp.A np cpp.cap) (.slice cb.A nb cb.cap))) := by rw [hW]; exact HL14.out.2.1
  have HO14 : Hid (W1.ownsRow W0.heap.size 95 2 (.slice A14 ng c14) ng (gapC c.gaps)) := by rw [hW]; exact HL14.out.2.2.1
  have HFR1 : Hid (Fr (fun k => k = g0) W0 W1) := by rw [hW]; exact HL14.out.2.2.2
  rw [← hW]
  have HG12 : Hid (CkBlk W1 g2 zeroA) := HFR1.out.blk HG2.out (fun e => hne e)
  have HB1 : Hid (Below w.heap.size w W1) := below_fr HB0.out HFR1.out (Nat.le_refl _) (fun i e => by have e' : i = g0 := e; omega)
  clear HFR1 HG2 HB0
  clear hW o14 x14 z14 HL14 HG0
  have o15 := CkBlk.at (i := 15) (v := .slice cd.A nd cd.cap) (Blk.alloc HG10.out (.cells #[] 23)) rfl
  go_upto_region 3 with (at_builtin; refine wpList_append_any _ rfl (.tmp 8) (.tmp 10) _ rfl W1.heap.size 23 i2 _ 1 4 Try.underlying26 hi2 hz21 hz22 hz23 rfl (by omega) (.slice (some ⟨W1.heap.size, 0, none⟩) 0 0) 0 [] rfl (own_emptyN W1 _ _) B cd.A nd cd.cap (dupC c.dups) rfl (((DR.out W1 HB1.out).keep (fun q hq => World.cell?_alloc_lt W1 _ q (Nat.lt_of_lt_of_le hq (Nat.le_trans HBW.out HB1.out.size))))) (dupC_one _) (by simp only [maxLen]; omega) (by omega) (by simp) ?_; intro v15 V15 hown hgr hat; obtain ⟨A15, c15, rfl, hl15⟩ := copied_list (i := 15) HG10.out (by decide) hown hgr; have x15 : V15.cell? ⟨g0, 15, none⟩ = some (.slice cd.A nd cd.cap) := CkBlk.at hl15.1 rfl; have z15 := Blk.frozen hl15.1 15; have HL15 := Lib.hid hl15; clear hown hgr hat hl15)
  obtain ⟨W2, hW⟩ : ∃ W, W = V15.setCell ⟨g0, 15, none⟩ (.slice A15 nd c15) := ⟨_, rfl⟩
  have HG20 : Hid (CkBlk W2 g0 (ckArr c (.slice A14 ng c14) (.slice A15 nd c15) (.slice csk.A ns csk.cap) (.slice cpp.A np cpp.cap) (.slice cb.A nb cb.cap))) := by rw [hW]; exact HL15.out.2.1
  have HO15 : Hid (W2.ownsRow W1.heap.size 23 1 (.slice A15 nd c15) nd (dupC c.dups)) := by rw [hW]; exact HL15.out.2.2.1
  have HFR2 : Hid (Fr (fun k => k = g0) W1 W2) := by rw [hW]; exact HL15.out.2.2.2
  rw [← hW]
  have HG22 : Hid (CkBlk W2 g2 zeroA) := HFR2.out.blk HG12.out (fun e => hne e)
  have HB2 : Hid (Below w.heap.size w W2) := below_fr HB1.out HFR2.out (Nat.le_refl _) (fun i e => by have e' : i = g0 := e; omega)
  have HO14 : Hid (W2.ownsRow W0.heap.size 95 2 (.slice A14 ng c14) ng (gapC c.gaps)) := HFR2.out.own HO14.out (fun g hg e => own_blk_ne HO14.out HG10.out (by decide) (by rw [hg]; exact congrArg some e))
  clear HFR2 HG12 HB1
  clear hW o15 x15 z15 HL15 HG10
  have o16 := CkBlk.at (i := 16) (v := .slice csk.A ns csk.cap) (Blk.alloc HG20.out (.cells #[] 97)) rfl
  go_upto_region 4 with (at_builtin; refine wpList_append_any _ rfl (.tmp 13) (.tmp 15) _ rfl W2.heap.size 97 i3 _ 3 8 Try.underlying27 hi3 hz31 hz32 hz33 rfl (by omega) (.slice (some ⟨W2.heap.size, 0, none⟩) 0 0) 0 [] rfl (own_emptyN W2 _ _) B csk.A ns csk.cap (skC c.skips) rfl (((SR.out W2 HB2.out).keep (fun q hq => World.cell?_alloc_lt W2 _ q (Nat.lt_of_lt_of_le hq (Nat.le_trans HBW.out HB2.out.size))))) (skC_one _) (by simp only [maxLen]; omega) (by omega) (by simp) ?_; intro v16 V16 hown hgr hat; obtain ⟨A16, c16, rfl, hl16⟩ := copied_list (i := 16) HG20.out (by decide) hown hgr; have x16 : V16.cell? ⟨g0, 16, none⟩ = some (.slice csk.A ns csk.cap) := CkBlk.at hl16.1 rfl; have z16 := Blk.frozen hl16.1 16; have HL16 := Lib.hid hl16; clear hown hgr hat hl16)
  obtain ⟨W3, hW⟩ : ∃ W, W = V16.setCell ⟨g0, 16, none⟩ (.slice A16 ns c16) := ⟨_, rfl⟩
  have HG30 : Hid (CkBlk W3 g0 (ckArr c (.slice A14 ng c14) (.slice A15 nd c15) (.slice A16 ns c16) (.slice cpp.A np cpp.cap) (.slice cb.A nb cb.cap))) := by rw [hW]; exact HL16.out.2.1
  have HO16 : Hid (W3.ownsRow W2.heap.size 97 3 (.slice A16 ns c16) ns (skC c.skips)) := by rw [hW]; exact HL16.out.2.2.1
  have HFR3 : Hid (Fr (fun k => k = g0) W2 W3) := by rw [hW]; exact HL16.out.2.2.2
  rw [← hW]
  have HG32 : Hid (CkBlk W3 g2 zeroA) := HFR3.out.blk HG22.out (fun e => hne e)
  have HB3 : Hid (Below w.heap.size w W3) := below_fr HB2.out HFR3.out (Nat.le_refl _) (fun i e => by have e' : i = g0 := e; omega)
  have HO14 : Hid (W3.ownsRow W0.heap.size 95 2 (.slice A14 ng c14) ng (gapC c.gaps)) := HFR3.out.own HO14.out (fun g hg e => own_blk_ne HO14.out HG20.out (by decide) (by rw [hg]; exact congrArg some e))
  have HO15 : Hid (W3.ownsRow W1.heap.size 23 1 (.slice A15 nd c15) nd (dupC c.dups)) := HFR3.out.own HO15.out (fun g hg e => own_blk_ne HO15.out HG20.out (by decide) (by rw [hg]; exact congrArg some e))
  clear HFR3 HG22 HB2
  clear hW o16 x16 z16 HL16 HG20
  have o17 := CkBlk.at (i := 17) (v := .slice cpp.A np cpp.cap) HG30.out rfl
  go_wp2_with fail
  refine (copy_any cpp.A c.ps np cpp.cap W3 HNP.out HSP.out ((HCL.out.ps.keep (fun q hq => HB3.out.cell (Nat.lt_of_lt_of_le hq HBW.out))).more (Nat.le_trans HBW.out HB3.out.size))).mono ?_
  rintro e V17 ⟨⟨v17, rfl, ho17⟩, hb17⟩
  obtain ⟨A17, c17, he17, _, _⟩ := ho17.slice
  rw [← HNP.out] at he17
  subst he17
  have HG30b : Hid (CkBlk V17 g0 (ckArr c (.slice A14 ng c14) (.slice A15 nd c15) (.slice A16 ns c16) (.slice cpp.A np cpp.cap) (.slice cb.A nb cb.cap))) := HG30.out.below hb17 HG30.out.lt
  have hg0lt : g0 < W3.heap.size := HG30.out.lt
  have hg2lt : g2 < W3.heap.size := HG32.out.lt
  have x17 : V17.cell? ⟨g0, 17, none⟩ = some (.slice cpp.A np cpp.cap) := CkBlk.at HG30b.out rfl
  have z17 := Blk.frozen HG30b.out 17
  have HOP := Lib.hid ho17
  have HBP := Lib.hid hb17
  clear ho17 hb17 o17
  go_upto_region 5 with fail
  obtain ⟨W4, hW⟩ : ∃ W, W = V17.setCell ⟨g0, 17, none⟩ (.slice A17 np c17) := ⟨_, rfl⟩
  have HG40 : Hid (CkBlk W4 g0 (ckArr c (.slice A14 ng c14) (.slice A15 nd c15) (.slice A16 ns c16) (.slice A17 np c17) (.slice cb.A nb cb.cap))) := by rw [hW]; exact Blk.set_ HG30b.out 17 _
  have HF17 : Hid (Fr (fun k => k = g0) V17 W4) := by rw [hW]; exact (Fr.refl (fun k => k = g0) V17).setCell (p := ⟨g0, 17, none⟩) (.inl rfl) _
  have HFR4 : Hid (Fr (fun k => k = g0) W3 W4) := by rw [hW]; exact Fr.setCell (S := fun k => k = g0) (Fr.grows (Fr.refl (fun k => k = g0) W3) HBP.out) (p := ⟨g0, 17, none⟩) (.inl rfl) _
  have HO17 : Hid (OwnPs W4 W3.heap.size (.slice A17 np c17) c.ps) := HOP.out.fr HF17.out (fun i e _ => by have e' : i = g0 := e; omega)
  rw [← hW]
  have HG42 : Hid (CkBlk W4 g2 zeroA) := HFR4.out.blk HG32.out (fun e => hne e)
  have HB4 : Hid (Below w.heap.size w W4) := below_fr HB3.out HFR4.out (Nat.le_refl _) (fun i e => by have e' : i = g0 := e; omega)
  have HO14 : Hid (W4.ownsRow W0.heap.size 95 2 (.slice A14 ng c14) ng (gapC c.gaps)) := HFR4.out.own HO14.out (fun g hg e => own_blk_ne HO14.out HG30.out (by decide) (by rw [hg]; exact congrArg some e))
  have HO15 : Hid (W4.ownsRow W1.heap.size 23 1 (.slice A15 nd c15) nd (dupC c.dups)) := HFR4.out.own HO15.out (fun g hg e => own_blk_ne HO15.out HG30.out (by decide) (by rw [hg]; exact congrArg some e))
  have HO16 : Hid (W4.ownsRow W2.heap.size 97 3 (.slice A16 ns c16) ns (skC c.skips)) := HFR4.out.own HO16.out (fun g hg e => own_blk_ne HO16.out HG30.out (by decide) (by rw [hg]; exact congrArg some e))
  clear HFR4 HG32 HB3
  clear hW x17 z17 HOP HBP HG30b HF17 HG30
  have o18 := CkBlk.at (i := 18) (v := .slice cb.A nb cb.cap) (Blk.alloc HG40.out (.cells #[] 5)) rfl
  go_upto_region 6 with (at_builtin; refine wpList_append_any _ rfl (.tmp 22) (.tmp 24) _ rfl W4.heap.size 5 i0 _ 1 1 Try.underlying29 hi0 hz01 hz02 hz03 rfl (by omega) (.slice (some ⟨W4.heap.size, 0, none⟩) 0 0) 0 [] rfl (own_emptyN W4 _ _) B cb.A nb cb.cap (u8s c.body) rfl (((BR.out W4 HB4.out).keep (fun q hq => World.cell?_alloc_lt W4 _ q (Nat.lt_of_lt_of_le hq (Nat.le_trans HBW.out HB4.out.size))))) (u8s_one _) (by simp only [maxLen]; omega) (by omega) (by simp) ?_; intro v18 V18 hown hgr hat; obtain ⟨A18, c18, rfl, hl18⟩ := copied_list (i := 18) HG40.out (by decide) hown hgr; have x18 : V18.cell? ⟨g0, 18, none⟩ = some (.slice cb.A nb cb.cap) := CkBlk.at hl18.1 rfl; have z18 := Blk.frozen hl18.1 18; have HL18 := Lib.hid hl18; clear hown hgr hat hl18)
  obtain ⟨W5, hW⟩ : ∃ W, W = V18.setCell ⟨g0, 18, none⟩ (.slice A18 nb c18) := ⟨_, rfl⟩
  have HG50 : Hid (CkBlk W5 g0 (ckArr c (.slice A14 ng c14) (.slice A15 nd c15) (.slice A16 ns c16) (.slice A17 np c17) (.slice A18 nb c18))) := by rw [hW]; exact HL18.out.2.1
  have HO18 : Hid (W5.ownsRow W4.heap.size 5 1 (.slice A18 nb c18) nb (u8s c.body)) := by rw [hW]; exact HL18.out.2.2.1
  have HFR5 : Hid (Fr (fun k => k = g0) W4 W5) := by rw [hW]; exact HL18.out.2.2.2
  rw [← hW]
  have HG52 : Hid (CkBlk W5 g2 zeroA) := HFR5.out.blk HG42.out (fun e => hne e)
  have HB5 : Hid (Below w.heap.size w W5) := below_fr HB4.out HFR5.out (Nat.le_refl _) (fun i e => by have e' : i = g0 := e; omega)
  have HO14 : Hid (W5.ownsRow W0.heap.size 95 2 (.slice A14 ng c14) ng (gapC c.gaps)) := HFR5.out.own HO14.out (fun g hg e => own_blk_ne HO14.out HG40.out (by decide) (by rw [hg]; exact congrArg some e))
  have HO15 : Hid (W5.ownsRow W1.heap.size 23 1 (.slice A15 nd c15) nd (dupC c.dups)) := HFR5.out.own HO15.out (fun g hg e => own_blk_ne HO15.out HG40.out (by decide) (by rw [hg]; exact congrArg some e))
  have HO16 : Hid (W5.ownsRow W2.heap.size 97 3 (.slice A16 ns c16) ns (skC c.skips)) := HFR5.out.own HO16.out (fun g hg e => own_blk_ne HO16.out HG40.out (by decide) (by rw [hg]; exact congrArg some e))
  have HO17 : Hid (OwnPs W5 W3.heap.size (.slice A17 np c17) c.ps) := HO17.out.fr HFR5.out (fun i e _ => by have e' : i = g0 := e; have := hg0lt; omega)
  clear HFR5 HG42 HB4
  clear hW o18 x18 z18 HL18 HG40
  obtain ⟨cs1, hcs1⟩ : ∃ a, a = ckArr c (.slice A14 ng c14) (.slice A15 nd c15) (.slice A16 ns c16) (.slice A17 np c17) (.slice A18 nb c18) := ⟨_, rfl⟩
  rw [← hcs1] at HG50
  have HAT : Hid (∀ V, Fr (fun k => k = g2) W5 V → W5.heap.size ≤ V.heap.size → CkAt V V.heap.size cs1 c) := fun V hf hsz => by
    obtain ⟨a1, c1, e1, p1, q1⟩ := own_slice HO14.out
    obtain ⟨a2, c2, e2, p2, q2⟩ := own_slice HO15.out
    obtain ⟨a3, c3, e3, p3, q3⟩ := own_slice HO16.out
    obtain ⟨a4, c4, e4, p4, q4⟩ := HO17.out.slice
    obtain ⟨a5, c5, e5, p5, q5⟩ := own_slice HO18.out
    have k1 := hf.own HO14.out (fun g hg e => own_blk_ne HO14.out HG52.out (by decide) (by rw [hg]; exact congrArg some e))
    have k2 := hf.own HO15.out (fun g hg e => own_blk_ne HO15.out HG52.out (by decide) (by rw [hg]; exact congrArg some e))
    have k3 := hf.own HO16.out (fun g hg e => own_blk_ne HO16.out HG52.out (by decide) (by rw [hg]; exact congrArg some e))
    have k5 := hf.own HO18.out (fun g hg e => own_blk_ne HO18.out HG52.out (by decide) (by rw [hg]; exact congrArg some e))
    have k4 := HO17.out.fr hf (fun i e _ => by have e' : i = g2 := e; omega)
    injection e1 with e1a _ e1c
    injection e2 with e2a _ e2c
    injection e3 with e3a _ e3c
    injection e4 with e4a _ e4c
    injection e5 with e5a _ e5c
    subst e1a e1c e2a e2c e3a e3c e4a e4c e5a e5c
    refine ⟨HCOK.out, ⟨A14, c14⟩, ⟨A15, c15⟩, ⟨A16, c16⟩, ⟨A17, c17⟩, ⟨A18, c18⟩, ?_, ?_, ?_, ?_, ⟨p4, q4⟩, ?_, ?_, ?_, ?_, ?_, ?_⟩
    · rw [hcs1, HNG.out, HND.out, HNS.out, HNP.out, HNB.out]; rfl
    · rw [← HNG.out]; exact ⟨p1, q1⟩
    · rw [← HND.out]; exact ⟨p2, q2⟩
    · rw [← HNS.out]; exact ⟨p3, q3⟩
    · rw [← HNB.out]; exact ⟨p5, q5⟩
    · rw [← HNG.out]; exact Reads.of_own k1
    · rw [← HND.out]; exact Reads.of_own k2
    · rw [← HNS.out]; exact Reads.of_own k3
    · exact k4.ps
    · unfold Byt; rw [← HNB.out]; exact Reads.of_own k5
  have HSZ1 : Hid (cs1.size = 19) := by rw [hcs1]; rfl
  have HONE : Hid (cs1.all (·.oneCell') = true) := (HAT.out W5 (Fr.refl _ _) (Nat.le_refl _)).one
  clear hcs1 HO14 HO15 HO16 HO17 HO18
  go_wp2_with (first | refine wpList_load_row rfl 31 _ rfl g0 rfl 31 cs1 (0, 0) _ HG50.out Try.underlying31 rfl (by rw [HSZ1.out]; exact chunk_info) ?_ | refine wpList_store_row rfl 31 _ _ rfl g2 cs1 rfl rfl 31 _ HG52.out (by rw [HSZ1.out]; exact chunk_info) (by rw [HSZ1.out]; rfl) HONE.out ?_)
  (try simp only [Exit.inBlock, Exit.then])
  refine bodyPost_ret (results_cell_row rfl _ _ g2 31 cs1 (0, 0) _ rfl (setRow_blk HG52.out) Try.underlying31 rfl (by rw [HSZ1.out]; exact chunk_info)) rfl ?_
  exact ⟨⟨cs1, rfl, HAT.out _ (setRow_fr W5 g2 cs1) (by simp)⟩, below_fr HB5.out (setRow_fr W5 g2 cs1) (Nat.le_refl _) (fun i e => by have e' : i = g2 := e; omega)⟩
end Go.Proofs.Ytapccgnhlgkimaa.Chk
