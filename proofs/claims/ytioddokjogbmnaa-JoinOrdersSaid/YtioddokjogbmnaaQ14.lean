/-
  Of the texts Jp24, Jp25: what the laws reach.
-/
import Derived.Test.YtioddokjogbmnaaQ13

set_option linter.unusedVariables false
set_option linter.unusedSimpArgs false
set_option maxRecDepth 20000
namespace Go.Proofs.Ytioddokjogbmnaa.Chk
open Go.ChangeShapes Go.WideShapes Go.ChangeAt Go.RowKit Go.Deep Go.Maps Go.Proofs.Ytioddokjogbmnaa.Words Go.Proofs.Ytioddokjogbmnaa.Oct Go.Proofs.Ytioddokjogbmnaa.Par Go.Proofs.Ytioddokjogbmnaa.Mx
section
variable {w w' : World} {T T' : Nat → Nat} {p bl bo h h' : Nat} {inter : Bool} {rv : Value} {F : Gk → Option Nat} {xs : List Mg} {Om : Nat → Option Nat} {Wb next : Nat → Nat} {wait wait' : List Jo.Ms} {S G : Nat → Prop} {s : Jo.JS} {pcs : List Jo.Pc}
theorem reachB_iff {mid x : Nat} : reachB inter mid x = true ↔ (x = mid ∨ Jo.lessN inter x mid) := by
  unfold reachB
  rw [Bool.or_eq_true, decide_eq_true_eq, ltB_eq]
theorem distM_N {nx x : Nat} (hn : MidOk inter nx) (hx : MidOk inter x) : distM inter nx x = Jo.distN inter nx x := by
  unfold distM midN Jo.distN Jo.modN
  unfold MidOk Jo.modN at hn hx
  cases inter
  · simp at hn hx ⊢; omega
  · simp at hn hx ⊢
theorem mid_next {mid : Nat} (hm : MidOk inter mid) : midN inter ((mid + 1) % 4294967296) = (mid + 1) % Jo.modN inter := by
  unfold midN Jo.modN
  unfold MidOk Jo.modN at hm
  cases inter
  · show (mid + 1) % 4294967296 % 65536 = (mid + 1) % 65536
    omega
  · rfl
theorem sizeP_split (r : Jo.Pc → Bool) : ∀ l : List Jo.Pc, Jo.sizeP (l.filter fun q => !r q) + Jo.sizeP (l.filter r) = Jo.sizeP l
  | [] => rfl
  | a :: t => by
    have ih := sizeP_split r t
    have ec : ∀ (z : Jo.Pc) (l : List Jo.Pc), Jo.sizeP (z :: l) = z.body.length + Jo.sizeP l := fun z l => by simp [Jo.sizeP]
    cases hr : r a <;> simp [hr, ec] <;> omega
/-- What leap leaves is what is asked. -/
theorem leap_plain {pcs0 : List Jo.Pc} {st mid : Nat} {e : Ending} {xs0 : List Mg} {wait0 : List Jo.Ms} {next0 : Nat → Nat} {Om0 : Nat → Option Nat} {Wb0 : Nat → Nat} {h0 : Nat} (hm : MidOk inter mid) (hj : JO w T p inter bl bo rv h0 xs0 Om0 Wb0 next0 wait0) (hl : LinesR w T bl inter F pcs0) (hh : h0 = Jo.sizeP pcs0 + Jo.sizeM wait0 + Jo.sizeM (xs0.map fun x => msOf x.m)) (hz : h0 ≤ 2000000000) (hp : ∀ q ∈ pcs0, PcOk inter q)
    (hd : LeapDone w T p inter bl bo h0 xs0 Om0 Wb0 next0 wait0 st mid e w') :
    ∃ s' T', e = .returned (.tuple #[]) ∧ s'.pcs = pcs0 ∧ (∃ rv' xs', JRp w' T' p bl bo inter rv' F Om0 Wb0 xs' s') ∧ Fr (ownS w T) w w' ∧ Ext w w' T T' ∧ ∃ ms w1, wait0.Perm (ms ++ w1) ∧ (∀ m ∈ ms, m.st = st ∧ (m.mid = mid ∨ Jo.lessN inter m.mid mid)) ∧ (∀ m ∈ w1, ¬ (m.st = st ∧ (m.mid = mid ∨ Jo.lessN inter m.mid mid))) ∧
      ms.Pairwise (fun a b => Jo.distN inter (next0 st) a.mid < Jo.distN inter (next0 st) b.mid) ∧ Jo.Goes inter st w1 s'.wait (xs0.map (fun x => msOf x.m) ++ ms) s'.ready ((mid + 1) % Jo.modN inter) (s'.next st) := by
  obtain ⟨T', rv', xs', wait', nx', ms, w1, rfl, d1, d2, d3, d4, d5, d6, d7, d8, d9⟩ := hd
  have hsz : Jo.held ⟨pcs0, wait', xs'.map fun x => msOf x.m, setN next0 st nx'⟩ = h0 := by
    have e1 := d5.size
    have e2 := sizeM_perm d1
    rw [Jo.sizeM_append] at e2
    rw [List.map_append, Jo.sizeM_append] at e1
    show Jo.sizeP pcs0 + Jo.sizeM wait' + Jo.sizeM (xs'.map fun x => msOf x.m) = h0
    omega
  have hmid : ∀ x ∈ ms, MidOk inter x.m.mid := fun x hx => (hj.ord.wok _ (d1.mem_iff.2 (List.mem_append.2 (.inl (List.mem_map.2 ⟨x, hx, rfl⟩))))).2.1
  refine ⟨⟨pcs0, wait', xs'.map fun x => msOf x.m, setN next0 st nx'⟩, T', rfl, rfl, ⟨rv', xs', by rw [hsz]; exact d7, hl.fr d8 (fun i hi e hx => ?_) (fun i hi e hx => ?_) d9.old, rfl, by rw [hsz]; exact hz, hp⟩, d8, d9, ms.map (fun x => msOf x.m), w1, d1, fun m hm' => ?_, fun m hm' hx => ?_, ?_, ?_⟩
  · rcases hx.2 with h | h | h <;> (rw [e] at h; cases h)
  · rcases hx.2 with h | h | h <;> (rw [e] at h; cases h)
  · obtain ⟨x, hx, rfl⟩ := List.mem_map.1 hm'
    exact ⟨(d2 x hx).1, reachB_iff.1 (d2 x hx).2⟩
  · have := d3 m hm' hx.1
    rw [reachB_iff.2 hx.2] at this; cases this
  · rw [List.pairwise_map]
    refine List.Pairwise.imp_of_mem (fun {a b} ha hb hab => ?_) d4
    show Jo.distN inter (next0 st) a.m.mid < Jo.distN inter (next0 st) b.m.mid
    rw [← distM_N (hj.ord.nx st) (hmid a ha), ← distM_N (hj.ord.nx st) (hmid b hb)]
    exact hab
  · have h1 := d5.goes d6
    rw [mid_next hm, List.map_append] at h1
    show Jo.Goes inter st w1 wait' _ _ _ (setN next0 st nx' st)
    rw [setN_at]
    exact h1
def SkipDone (w : World) (G : Nat → Prop) (p : Nat) (inter : Bool) (s : Jo.JS) (st : Nat) (lo : Bool) (mid : Nat) (e : Ending) (w' : World) : Prop :=
  ∃ s' G', e = .returned (.tuple #[]) ∧ JRep w' G' p inter s' ∧ Jo.SkipR inter s st lo mid s' ∧ (∀ i, G' i → G i ∨ w.heap.size ≤ i) ∧ Fr G w w'
/-- Behind the drop. -/
structure SkD (w W : World) (T : Nat → Nat) (p bl bo : Nat) (inter : Bool) (rv : Value) (F : Gk → Option Nat) (Om : Nat → Option Nat) (Wb : Nat → Nat) (xs : List Mg) (s : Jo.JS) (h1 : Nat) (pcs1 : List Jo.Pc) : Prop where
  jo : JO W T p inter bl bo rv h1 xs Om Wb s.next s.wait
  ln : LinesR W T bl inter F pcs1
  sub : ∀ q ∈ pcs1, q ∈ s.pcs
  hh : h1 = Jo.sizeP pcs1 + Jo.sizeM s.wait + Jo.sizeM s.ready
  fr : Fr (fun i => i < w.heap.size ∧ T i ≠ 0) w W
  le : h1 ≤ 2000000000
theorem SkD.rest (k : JRp w T p bl bo inter rv F Om Wb xs s) {W : World} {F' : Gk → Option Nat} {h1 : Nat} {pcs1 : List Jo.Pc} (d : SkD w W T p bl bo inter rv F' Om Wb xs s h1 pcs1) {W' : World} (hb : Below W.heap.size W W') {st mid : Nat} {lo : Bool} (hc : lo = true ∨ Jo.lessN inter mid (s.next st)) :
    SkipDone w (fun i => T i ≠ 0) p inter s st lo mid (.returned (.tuple #[])) W' := by
  refine ⟨⟨pcs1, s.wait, s.ready, s.next⟩, fun i => T i ≠ 0, rfl, ⟨T, bl, bo, rv, F', Om, Wb, xs, fun i => Iff.rfl, ?_, ?_, k.rd, ?_, fun q hq => k.pok q (d.sub q hq)⟩, ⟨d.sub, .inl ⟨hc, ⟨List.Perm.refl _, rfl, rfl⟩⟩⟩, fun i hi => .inl hi, ?_⟩
  · have e : Jo.held ⟨pcs1, s.wait, s.ready, s.next⟩ = h1 := d.hh.symm
    rw [e]
    exact d.jo.grows hb
  · exact d.ln.fr (Fr.of_below hb) (fun i hi _ e => by have e' : W.heap.size ≤ i := e; omega) (fun i hi _ e => by have e' : W.heap.size ≤ i := e; omega) (fun _ _ => rfl)
  · have e : Jo.held ⟨pcs1, s.wait, s.ready, s.next⟩ = h1 := d.hh.symm
    rw [e]; exact d.le
  · exact (d.fr.trans (Fr.of_below hb) (fun i hi e => by have e' : W.heap.size ≤ i := e; have := d.fr.size; omega)).mono (fun i hi e => e.2)
/-- A stream's order, found or made. -/
def OrdP (W : World) (T : Nat → Nat) (p : Nat) (inter : Bool) (bl bo : Nat) (rv : Value) (h : Nat) (xs : List Mg) (next : Nat → Nat) (wait : List Jo.Ms) (st : Nat) (v : Value) (V : World) : Prop :=
  ∃ b T' Om' Wb', v = optr b ∧ Om' st = some b ∧ JO V T' p inter bl bo rv h xs Om' Wb' next wait ∧ Fr (fun i => i < W.heap.size ∧ T i = 3) W V ∧ Ext W V T T'
theorem ordP_of {W V0 V : World} {st b : Nat} {Om' : Nat → Option Nat} {Wb' : Nat → Nat} (e : V0 = W) (h1 : Om' st = some b) (h2 : JO V T' p inter bl bo rv h xs Om' Wb' next wait) (h3 : Fr (fun i => i < V0.heap.size ∧ T i = 3) V0 V) (h4 : Ext V0 V T T') : OrdP W T p inter bl bo rv h xs next wait st (optr b) V := by subst e; exact ⟨b, T', Om', Wb', rfl, h1, h2, h3, h4⟩
set_option maxHeartbeats 8000000 in
theorem skip_any {st mid : Nat} {lo : Bool} (k : JRp w T p bl bo inter rv F Om Wb xs s) (hst : st < 65536) (hmid : mid < 4294967296) :
    Calls Try.prog 18 #[jptr p, .agg #[.int .u16 (st : Int), .bool lo, .int .u32 (mid : Int)]] w (SkipDone w (fun i => T i ≠ 0) p inter s st lo (midN inter mid)) := by
  have HK := Lib.hid k
  have hnum := fun (W : World) (hW : W.cell? ⟨p, 0, none⟩ = some (.bool inter)) => number_any hW hmid
  obtain ⟨z, hz⟩ : ∃ z, z = midN inter mid := ⟨_, rfl⟩
  have HZM : Hid (MidOk inter z) := by rw [hz]; exact mid_small inter hmid
  rw [← hz] at hnum ⊢
  have HNUM := Lib.hid hnum
  clear hnum hz
  obtain ⟨W2, hW2⟩ : ∃ W2, W2 = (w.alloc (.cells #[jptr p] 28)).alloc (.cells #[.int .u16 (st : Int), .bool lo, .int .u32 (mid : Int)] 53) := ⟨_, rfl⟩
  obtain ⟨gj, hgj⟩ : ∃ gj, gj = w.heap.size := ⟨_, rfl⟩
  obtain ⟨gs, hgs⟩ : ∃ gs, gs = w.heap.size + 1 := ⟨_, rfl⟩
  have HB2 : Hid (Below w.heap.size w W2) := by rw [hW2]; exact below_two w _ _
  have HBJ : Hid (Blk W2 gj 28 #[jptr p]) := by rw [hW2, hgj]; exact (Blk.new w _ _).alloc _
  have HBS : Hid (Blk W2 gs 53 #[.int .u16 (st : Int), .bool lo, .int .u32 (mid : Int)]) := by
    have := Blk.new (w.alloc (.cells #[jptr p] 28)) 53 #[.int .u16 (st : Int), .bool lo, .int .u32 (mid : Int)]
    rw [World.size_alloc] at this
    rw [hW2, hgs]; exact this
  have HJ2 := Lib.hid (k.jo.grows HB2.out)
  have HL2 : Hid (LinesR W2 T bl inter F s.pcs) := k.ln.fr (Fr.of_below HB2.out) (fun i hi _ e => by have e' : w.heap.size ≤ i := e; omega) (fun i hi _ e => by have e' : w.heap.size ≤ i := e; omega) (fun _ _ => rfl)
  have cj := HBJ.out.cell 0
  have s2 := HBS.out.cell 2
  simp only [List.getElem?_toArray, List.getElem?_cons_succ, List.getElem?_cons_zero] at cj s2
  have HS2 : Hid (W2.heap.size = w.heap.size + 2) := by rw [hW2]; show _ = _; simp
  have HGJ := Lib.hid hgj
  have HGS := Lib.hid hgs
  clear k
  go_enter Try.func18, Try.ntmps18
  go_upto_region 1 with (fail)
  rw [← hW2, ← hgs, ← hgj]
  clear hW2 hgj hgs
  go_wp2_with fail
  refine (HNUM.out W2 HJ2.out.jb.c0).mono ?_
  rintro e w3 ⟨rfl, rfl⟩
  obtain ⟨W3, hW3⟩ : ∃ W3, W3 = W2.alloc (.cells #[.int .u32 (z : Int)] 33) := ⟨_, rfl⟩
  obtain ⟨gm, hgm⟩ : ∃ gm, gm = W2.heap.size := ⟨_, rfl⟩
  go_upto_region 2 with (fail)
  rw [← hW3, ← hgm]
  have hf23 : Fr (fun _ => False) W2 W3 := by rw [hW3]; exact (Fr.refl _ W2).alloc _
  have HBM3 : Hid (Blk W3 gm 33 #[.int .u32 (z : Int)]) := by rw [hW3, hgm]; exact Blk.new _ _ _
  have HBJ3 := Lib.hid (hf23.blk HBJ.out (fun h => h))
  have HBS3 := Lib.hid (hf23.blk HBS.out (fun h => h))
  have HJ3 := Lib.hid (HJ2.out.fr hf23 (fun _ _ _ h => h) (Ext.same HJ2.out.out hf23.size))
  have HL3 := Lib.hid (HL2.out.fr (T' := T) hf23 (fun _ _ _ h => h) (fun _ _ _ h => h) (fun _ _ => rfl))
  have HB3 : Hid (Below w.heap.size w W3) := below_fr HB2.out hf23 (Nat.le_refl _) (fun _ h => h.elim)
  have HGT : Hid (∀ i, w.heap.size ≤ i → T i = 0) := HK.out.jo.out
  have HGE : Hid (w.heap.size ≤ gj ∧ w.heap.size ≤ gs ∧ w.heap.size ≤ gm ∧ p < w.heap.size) := by
    refine ⟨?_, ?_, ?_, Blk.lt HK.out.jo.jb⟩
    · rw [HGJ.out]; exact Nat.le_refl _
    · rw [HGS.out]; omega
    · rw [hgm, HS2.out]; omega
  have HSP : Hid (Jo.sizeP s.pcs ≤ Jo.held s) := by unfold Hid Jo.held; omega
  have cj := HBJ3.out.cell 0
  have s1 := HBS3.out.cell 1
  have cm := HBM3.out.cell 0
  have c0 := HJ3.out.jb.c0
  simp only [List.getElem?_toArray, List.getElem?_cons_succ, List.getElem?_cons_zero] at cj s1 cm
  have hrule : RuleJ W3 T p 38 #[.pointer (some ⟨gs, 0, none⟩), .pointer (some ⟨gj, 0, none⟩), .pointer (some ⟨gm, 0, none⟩)] inter s.pcs (skR inter st lo z) := fun W q v hf hc hq => by
    have hn : ∀ i, w.heap.size ≤ i → ¬ (i < W3.heap.size ∧ (T i = 2 ∨ i = p)) := fun i hi e => by
      rcases e.2 with e2 | e2
      · rw [HGT.out i hi] at e2; cases e2
      · have := HGE.out.2.2.2; omega
    have h1 := (hf.blk HBJ3.out (hn gj HGE.out.1)).cell 0
    have h2 := (hf.blk HBM3.out (hn gm HGE.out.2.2.1)).cell 0
    simp only [List.getElem?_toArray, List.getElem?_cons_zero] at h1 h2
    exact skip1_any (hf.blk HBS3.out (hn gs HGE.out.2.1)) h1 h2 hc HZM.out (m := pcM q) (HK.out.pok q hq).mid _ _
  have hdrop := jdrop_any HJ3.out.jb HJ3.out.tp HL3.out HJ3.out.out HSP.out HK.out.small skip1_enters hrule
  have HD0 : Hid (SkD w W3 T p bl bo inter rv F Om Wb xs s (Jo.held s) s.pcs) := ⟨HJ3.out, HL3.out, fun _ h => h, rfl, (Fr.of_below HB3.out).mono (fun i hi e => by have e' : w.heap.size ≤ i := e; omega), HK.out.small⟩
  have HD1 : Hid (∀ e w4, DropJ W3 T p inter bl bo rv (Jo.held s) s.pcs (skR inter st lo z) e w4 → ∃ F', e = .returned (.tuple #[]) ∧ SkD w w4 T p bl bo inter rv F' Om Wb xs s (Jo.held s - Jo.sizeP (s.pcs.filter (skR inter st lo z))) (s.pcs.filter fun q => !skR inter st lo z q) ∧ Blk w4 gj 28 #[jptr p] ∧ Blk w4 gs 53 #[.int .u16 (st : Int), .bool lo, .int .u32 (mid : Int)] ∧ Blk w4 gm 33 #[.int .u32 (z : Int)]) := fun e w4 hd => by
    obtain ⟨F', rfl, h1, h2, h3⟩ := hd
    have hn : ∀ i, w.heap.size ≤ i → ¬ (i < W3.heap.size ∧ (T i = 2 ∨ i = p)) := fun i hi e => by
      rcases e.2 with e2 | e2
      · rw [HGT.out i hi] at e2; cases e2
      · have := HGE.out.2.2.2; omega
    have hsp := sizeP_split (skR inter st lo z) s.pcs
    refine ⟨F', rfl, ⟨HJ3.out.reheld h3 h2, h1, fun q hq => (List.mem_filter.1 hq).1, ?_, ((Fr.of_below HB3.out).mono (T := fun i => i < w.heap.size ∧ T i ≠ 0) (fun i hi e => by have e' : w.heap.size ≤ i := e; omega)).trans h3 (fun i hi e => ⟨hi, ?_⟩), by have := HK.out.small; omega⟩, h3.blk HBJ3.out (hn gj HGE.out.1), h3.blk HBS3.out (hn gs HGE.out.2.1), h3.blk HBM3.out (hn gm HGE.out.2.2.1)⟩
    · unfold Jo.held; omega
    · rcases e.2 with e2 | e2
      · rw [e2]; decide
      · rw [e2, HK.out.jo.tp]; decide
  have hz32 := small32 HZM.out
  clear hW3 hgm hf23 hrule HBJ HBS HBJ3 HBS3 HBM3 HJ3 HL3 HJ2 HL2 HB2 HS2 HGJ HGS HNUM s2
  cases inter
  · cases lo
    · go_wp2_with fail
      refine hdrop.mono ?_
      clear hdrop cj s1 cm c0
      rintro e w4 hd
      obtain ⟨F', rfl, hd, hbj, hbs, hbm⟩ := HD1.out e w4 hd
      have HD := Lib.hid hd
      have HBJ := Lib.hid hbj
      have HBS := Lib.hid hbs
      have HBM := Lib.hid hbm
      have s0 := hbs.cell 0
      have s1 := hbs.cell 1
      have cj := hbj.cell 0
      have cm := hbm.cell 0
      simp only [List.getElem?_toArray, List.getElem?_cons_succ, List.getElem?_cons_zero] at s0 s1 cj cm
      clear hd hbj hbs hbm HD0 HD1
      have hpass := passed_any HD.out.jo hst HZM.out
      obtain ⟨pb, hpb⟩ : ∃ pb, pb = ltB z (s.next st) (Jo.modN false) := ⟨_, rfl⟩
      rw [← hpb] at hpass
      have HPB := Lib.hid hpb
      clear hpb
      go_wp2_with fail
      refine hpass.mono ?_
      rintro e w5 ⟨rfl, rfl⟩
      clear hpass
      cases pb
      · have HLF : Hid (¬ Jo.lessN false z (s.next st)) := fun h => by
          have h1 := (ltB_eq (inter := false) z (s.next st)).2 h
          have h2 := HPB.out
          rw [h1] at h2; cases h2
        have HCD : Hid (∀ V, Fr (fun i => i < w4.heap.size ∧ T i = 3) w4.drew V → V.cell? ⟨gj, 0, none⟩ = some (jptr p) ∧ V.cell? ⟨gs, 0, none⟩ = some (.int .u16 (st : Int)) ∧ V.cell? ⟨gm, 0, none⟩ = some (.int .u32 (z : Int))) := fun V hV => by
          have hn : ∀ i, w.heap.size ≤ i → ¬ (i < w4.heap.size ∧ T i = 3) := fun i hi e => by have := e.2; rw [HGT.out i hi] at this; cases this
          have h1 := (hV.blk (show Blk w4.drew gj _ _ from HBJ.out) (hn gj HGE.out.1)).cell 0
          have h2 := (hV.blk (show Blk w4.drew gs _ _ from HBS.out) (hn gs HGE.out.2.1)).cell 0
          have h3 := (hV.blk (show Blk w4.drew gm _ _ from HBM.out) (hn gm HGE.out.2.2.1)).cell 0
          simp only [List.getElem?_toArray, List.getElem?_cons_zero] at h1 h2 h3
          exact ⟨h1, h2, h3⟩
        clear s0 s1 cj cm
        go_upto_region 5 with (fail)
        refine wp_region_stage_tail 6 (fun m V V' => 1 ≤ m → V = V') (fun m V => Hid ((m = 0 → V = w4.drew) ∧ Fr (fun i => i < w4.heap.size ∧ T i = 3) w4.drew V)) [(false, .exact (.pointer (some ⟨p, 0, none⟩))),
            (false, .exact (.pointer (some ⟨p, 0, none⟩))),
            (false, .exact (.pointer (some ⟨gs, 0, none⟩))),
            (false, .exact (.int .u16 (st : Int))),
            (true, .grows (OrdP w4.drew T p false bl bo rv (Jo.held s - Jo.sizeP (s.pcs.filter (skR false st false z))) xs s.next s.wait st)),
            (false, .exact (.int .u32 (z : Int)))] (by kernel_rfl) (by kernel_rfl) (by kernel_rfl) rfl (of_decide_eq_true (by kernel_rfl)) (by kernel_rfl) (by kernel_rfl) ?lasts ?start ?walk
        case lasts => exact ⟨fun m v V V' hm h k => by rw [← k (Nat.lt_of_le_of_lt (Nat.zero_le _) (hm rfl))]; exact h, trivial⟩
        case start => exact ⟨fun _ => rfl, Fr.refl _ _⟩
        case walk =>
          simp only [List.take_succ_cons, List.take_zero, List.drop_succ_cons, List.drop_zero]
          refine stageT_pure rfl (fun _ _ _ => rfl) (fun V m hS hl => by
              have hc := (HCD.out V hS.out.2).1
              go_simp) ?_
          simp only [Act.put, List.setIfInBounds_toArray, List.set_cons_zero, List.set_cons_succ, List.cons_append, List.nil_append]
          refine stageT_pure rfl (fun _ _ _ => rfl) (fun V m hS hl => by
              have hc := (HCD.out V hS.out.2).1
              go_simp) ?_
          simp only [Act.put, List.setIfInBounds_toArray, List.set_cons_zero, List.set_cons_succ, List.cons_append, List.nil_append]
          refine stageT_pure rfl (fun _ _ _ => rfl) (fun V m hS hl => by go_simp) ?_
          simp only [Act.put, List.setIfInBounds_toArray, List.set_cons_zero, List.set_cons_succ, List.cons_append, List.nil_append]
          refine stageT_pure rfl (fun _ _ _ => rfl) (fun V m hS hl => by
              have hc := (HCD.out V hS.out.2).2.1
              go_simp) ?_
          simp only [Act.put, List.setIfInBounds_toArray, List.set_cons_zero, List.set_cons_succ, List.cons_append, List.nil_append]
          refine stageT_move_grows rfl (fun V hS hl => by
              go_simp
              refine Calls.mono (order_any (show JO V T p false bl bo rv (Jo.held s - Jo.sizeP (s.pcs.filter (skR false st false z))) xs Om Wb s.next s.wait from by rw [hS.out.1 rfl]; exact HD.out.jo.drewN 1) hst) ?_
              rintro e V' ⟨b, T', Om', Wb', rfl, h1, h2, h3, h4⟩
              exact ⟨_, rfl, ordP_of (hS.out.1 rfl) h1 h2 h3 h4, by have h5 := h3; rw [hS.out.1 rfl] at h5; exact h5⟩) (fun v36 => ?_)
          simp only [Act.put, List.setIfInBounds_toArray, List.set_cons_zero, List.set_cons_succ, List.cons_append, List.nil_append]
          refine stageT_pure rfl (fun _ _ _ => rfl) (fun V m hS hl => by
              have hc := (HCD.out V hS.out.2).2.2
              go_simp) ?_
          simp only [Act.put, List.setIfInBounds_toArray, List.set_cons_zero, List.set_cons_succ, List.cons_append, List.nil_append]
          refine stageT_nil (fun V2 hS hF => ?_)
          have hF1 : OrdP w4.drew T p false bl bo rv (Jo.held s - Jo.sizeP (s.pcs.filter (skR false st false z))) xs s.next s.wait st v36 V2 := hF.1
          clear hS hF
          obtain ⟨b, T', Om', Wb', rfl, ho, hjo, hfr, hext⟩ := hF1
          have HJO := Lib.hid hjo
          have HFR := Lib.hid hfr
          have HEXT := Lib.hid hext
          have hrd : s.ready = xs.map (fun x => msOf x.m) := HK.out.rd
          have hleap := leap_any hjo (by
            have h1 := hjo.xlen
            have h2 := hjo.wlen
            have h3 := HD.out.hh
            have h4 := HD.out.le
            rw [hrd] at h3
            omega) ho HZM.out
          clear ho hjo hfr hext
          go_wp2_with fail
          refine hleap.mono ?_
          clear hleap
          intro e w6 hd
          have hl5 : LinesR V2 T' bl false F' (s.pcs.filter fun q => !skR false st false z q) := (show LinesR w4.drew T bl false F' _ from HD.out.ln.fr ((Fr.refl (fun _ => False) w4).drew) (fun _ _ _ h => h) (fun _ _ _ h => h) (fun _ _ => rfl)).fr HFR.out (fun i hi e hx => by have := hx.2; rw [e] at this; cases this) (fun i hi e hx => by have := hx.2; rw [e] at this; cases this) HEXT.out.old
          obtain ⟨s', T6, rfl, q1, ⟨rv6, xs6, q2⟩, q3, q4, ms, w1, q5, q6, q7, q8, q9⟩ := leap_plain HZM.out HJO.out hl5 (by rw [← hrd]; exact HD.out.hh) HD.out.le (fun q hq => HK.out.pok q (List.mem_filter.1 hq).1) hd
          have HEND : Hid (SkipDone w (fun i => T i ≠ 0) p false s st false z (.returned (.tuple #[])) w6) := by
            have hfa : Fr (fun i => i < w.heap.size ∧ T i ≠ 0) w V2 := HD.out.fr.drew.trans HFR.out (fun i hi e => ⟨hi, by have := e.2; rw [this]; decide⟩)
            have hea : Ext w V2 T T' := ⟨fun i hi => HEXT.out.old i (by have := HD.out.fr.size; show i < w4.heap.size; omega), HEXT.out.out⟩
            refine ⟨s', fun i => T6 i ≠ 0, rfl, ⟨T6, bl, bo, rv6, F', Om', Wb', xs6, fun i => Iff.rfl, q2⟩, ⟨fun q hq => by rw [q1] at hq; exact (List.mem_filter.1 hq).1, .inr ⟨rfl, HLF.out, ms, w1, q5, q6, q7, q8, by rw [hrd]; exact q9⟩⟩, fun i hi => ?_, (hfa.trans q3 (fun i hi e => ⟨hi, ?_⟩)).mono (fun i hi e => e.2)⟩
            · rcases Nat.lt_or_ge i w.heap.size with h | h
              · have e1 := q4.old i (by have := hfa.size; omega)
                have e2 := hea.old i h
                have hi' : T6 i ≠ 0 := hi
                rw [e1, e2] at hi'
                exact .inl hi'
              · exact .inr h
            · have e2 := hea.old i hi
              rw [← e2]
              rcases e.2 with h | h | h <;> (rw [h]; decide)
          clear hd q1 q2 q3 q4 q5 q6 q7 q8 q9 hl5
          go_wp2_with fail
          go_end0
          exact HEND.out
      · go_wp2_with fail
        go_end0
        exact HD.out.rest HK.out (Below.refl _ _) (.inr (ltB_eq _ _ |>.1 HPB.out.symm))
    · go_wp2_with fail
      go_end0
      exact HD0.out.rest HK.out (Below.refl _ _) (.inl rfl)
  · cases lo
    · go_wp2_with fail
      refine hdrop.mono ?_
      clear hdrop cj s1 cm c0
      rintro e w4 hd
      obtain ⟨F', rfl, hd, hbj, hbs, hbm⟩ := HD1.out e w4 hd
      have HD := Lib.hid hd
      have HBJ := Lib.hid hbj
      have HBS := Lib.hid hbs
      have HBM := Lib.hid hbm
      have s0 := hbs.cell 0
      have s1 := hbs.cell 1
      have cj := hbj.cell 0
      have cm := hbm.cell 0
      simp only [List.getElem?_toArray, List.getElem?_cons_succ, List.getElem?_cons_zero] at s0 s1 cj cm
      clear hd hbj hbs hbm HD0 HD1
      have hpass := passed_any HD.out.jo hst HZM.out
      obtain ⟨pb, hpb⟩ : ∃ pb, pb = ltB z (s.next st) (Jo.modN true) := ⟨_, rfl⟩
      rw [← hpb] at hpass
      have HPB := Lib.hid hpb
      clear hpb
      go_wp2_with fail
      refine hpass.mono ?_
      rintro e w5 ⟨rfl, rfl⟩
      clear hpass
      cases pb
      · have HLF : Hid (¬ Jo.lessN true z (s.next st)) := fun h => by
          have h1 := (ltB_eq (inter := true) z (s.next st)).2 h
          have h2 := HPB.out
          rw [h1] at h2; cases h2
        have HCD : Hid (∀ V, Fr (fun i => i < w4.heap.size ∧ T i = 3) w4.drew V → V.cell? ⟨gj, 0, none⟩ = some (jptr p) ∧ V.cell? ⟨gs, 0, none⟩ = some (.int .u16 (st : Int)) ∧ V.cell? ⟨gm, 0, none⟩ = some (.int .u32 (z : Int))) := fun V hV => by
          have hn : ∀ i, w.heap.size ≤ i → ¬ (i < w4.heap.size ∧ T i = 3) := fun i hi e => by have := e.2; rw [HGT.out i hi] at this; cases this
          have h1 := (hV.blk (show Blk w4.drew gj _ _ from HBJ.out) (hn gj HGE.out.1)).cell 0
          have h2 := (hV.blk (show Blk w4.drew gs _ _ from HBS.out) (hn gs HGE.out.2.1)).cell 0
          have h3 := (hV.blk (show Blk w4.drew gm _ _ from HBM.out) (hn gm HGE.out.2.2.1)).cell 0
          simp only [List.getElem?_toArray, List.getElem?_cons_zero] at h1 h2 h3
          exact ⟨h1, h2, h3⟩
        clear s0 s1 cj cm
        go_upto_region 5 with (fail)
        refine wp_region_stage_tail 6 (fun m V V' => 1 ≤ m → V = V') (fun m V => Hid ((m = 0 → V = w4.drew) ∧ Fr (fun i => i < w4.heap.size ∧ T i = 3) w4.drew V)) [(false, .exact (.pointer (some ⟨p, 0, none⟩))),
            (false, .exact (.pointer (some ⟨p, 0, none⟩))),
            (false, .exact (.pointer (some ⟨gs, 0, none⟩))),
            (false, .exact (.int .u16 (st : Int))),
            (true, .grows (OrdP w4.drew T p true bl bo rv (Jo.held s - Jo.sizeP (s.pcs.filter (skR true st false z))) xs s.next s.wait st)),
            (false, .exact (.int .u32 (z : Int)))] (by kernel_rfl) (by kernel_rfl) (by kernel_rfl) rfl (of_decide_eq_true (by kernel_rfl)) (by kernel_rfl) (by kernel_rfl) ?lasts ?start ?walk
        case lasts => exact ⟨fun m v V V' hm h k => by rw [← k (Nat.lt_of_le_of_lt (Nat.zero_le _) (hm rfl))]; exact h, trivial⟩
        case start => exact ⟨fun _ => rfl, Fr.refl _ _⟩
        case walk =>
          simp only [List.take_succ_cons, List.take_zero, List.drop_succ_cons, List.drop_zero]
          refine stageT_pure rfl (fun _ _ _ => rfl) (fun V m hS hl => by
              have hc := (HCD.out V hS.out.2).1
              go_simp) ?_
          simp only [Act.put, List.setIfInBounds_toArray, List.set_cons_zero, List.set_cons_succ, List.cons_append, List.nil_append]
          refine stageT_pure rfl (fun _ _ _ => rfl) (fun V m hS hl => by
              have hc := (HCD.out V hS.out.2).1
              go_simp) ?_
          simp only [Act.put, List.setIfInBounds_toArray, List.set_cons_zero, List.set_cons_succ, List.cons_append, List.nil_append]
          refine stageT_pure rfl (fun _ _ _ => rfl) (fun V m hS hl => by go_simp) ?_
          simp only [Act.put, List.setIfInBounds_toArray, List.set_cons_zero, List.set_cons_succ, List.cons_append, List.nil_append]
          refine stageT_pure rfl (fun _ _ _ => rfl) (fun V m hS hl => by
              have hc := (HCD.out V hS.out.2).2.1
              go_simp) ?_
          simp only [Act.put, List.setIfInBounds_toArray, List.set_cons_zero, List.set_cons_succ, List.cons_append, List.nil_append]
          refine stageT_move_grows rfl (fun V hS hl => by
              go_simp
              refine Calls.mono (order_any (show JO V T p true bl bo rv (Jo.held s - Jo.sizeP (s.pcs.filter (skR true st false z))) xs Om Wb s.next s.wait from by rw [hS.out.1 rfl]; exact HD.out.jo.drewN 1) hst) ?_
              rintro e V' ⟨b, T', Om', Wb', rfl, h1, h2, h3, h4⟩
              exact ⟨_, rfl, ordP_of (hS.out.1 rfl) h1 h2 h3 h4, by have h5 := h3; rw [hS.out.1 rfl] at h5; exact h5⟩) (fun v36 => ?_)
          simp only [Act.put, List.setIfInBounds_toArray, List.set_cons_zero, List.set_cons_succ, List.cons_append, List.nil_append]
          refine stageT_pure rfl (fun _ _ _ => rfl) (fun V m hS hl => by
              have hc := (HCD.out V hS.out.2).2.2
              go_simp) ?_
          simp only [Act.put, List.setIfInBounds_toArray, List.set_cons_zero, List.set_cons_succ, List.cons_append, List.nil_append]
          refine stageT_nil (fun V2 hS hF => ?_)
          have hF1 : OrdP w4.drew T p true bl bo rv (Jo.held s - Jo.sizeP (s.pcs.filter (skR true st false z))) xs s.next s.wait st v36 V2 := hF.1
          clear hS hF
          obtain ⟨b, T', Om', Wb', rfl, ho, hjo, hfr, hext⟩ := hF1
          have HJO := Lib.hid hjo
          have HFR := Lib.hid hfr
          have HEXT := Lib.hid hext
          have hrd : s.ready = xs.map (fun x => msOf x.m) := HK.out.rd
          have hleap := leap_any hjo (by
            have h1 := hjo.xlen
            have h2 := hjo.wlen
            have h3 := HD.out.hh
            have h4 := HD.out.le
            rw [hrd] at h3
            omega) ho HZM.out
          clear ho hjo hfr hext
          go_wp2_with fail
          refine hleap.mono ?_
          clear hleap
          intro e w6 hd
          have hl5 : LinesR V2 T' bl true F' (s.pcs.filter fun q => !skR true st false z q) := (show LinesR w4.drew T bl true F' _ from HD.out.ln.fr ((Fr.refl (fun _ => False) w4).drew) (fun _ _ _ h => h) (fun _ _ _ h => h) (fun _ _ => rfl)).fr HFR.out (fun i hi e hx => by have := hx.2; rw [e] at this; cases this) (fun i hi e hx => by have := hx.2; rw [e] at this; cases this) HEXT.out.old
          obtain ⟨s', T6, rfl, q1, ⟨rv6, xs6, q2⟩, q3, q4, ms, w1, q5, q6, q7, q8, q9⟩ := leap_plain HZM.out HJO.out hl5 (by rw [← hrd]; exact HD.out.hh) HD.out.le (fun q hq => HK.out.pok q (List.mem_filter.1 hq).1) hd
          have HEND : Hid (SkipDone w (fun i => T i ≠ 0) p true s st false z (.returned (.tuple #[])) w6) := by
            have hfa : Fr (fun i => i < w.heap.size ∧ T i ≠ 0) w V2 := HD.out.fr.drew.trans HFR.out (fun i hi e => ⟨hi, by have := e.2; rw [this]; decide⟩)
            have hea : Ext w V2 T T' := ⟨fun i hi => HEXT.out.old i (by have := HD.out.fr.size; show i < w4.heap.size; omega), HEXT.out.out⟩
            refine ⟨s', fun i => T6 i ≠ 0, rfl, ⟨T6, bl, bo, rv6, F', Om', Wb', xs6, fun i => Iff.rfl, q2⟩, ⟨fun q hq => by rw [q1] at hq; exact (List.mem_filter.1 hq).1, .inr ⟨rfl, HLF.out, ms, w1, q5, q6, q7, q8, by rw [hrd]; exact q9⟩⟩, fun i hi => ?_, (hfa.trans q3 (fun i hi e => ⟨hi, ?_⟩)).mono (fun i hi e => e.2)⟩
            · rcases Nat.lt_or_ge i w.heap.size with h | h
              · have e1 := q4.old i (by have := hfa.size; omega)
                have e2 := hea.old i h
                have hi' : T6 i ≠ 0 := hi
                rw [e1, e2] at hi'
                exact .inl hi'
              · exact .inr h
            · have e2 := hea.old i hi
              rw [← e2]
              rcases e.2 with h | h | h <;> (rw [h]; decide)
          clear hd q1 q2 q3 q4 q5 q6 q7 q8 q9 hl5
          go_wp2_with fail
          go_end0
          exact HEND.out
      · go_wp2_with fail
        go_end0
        exact HD.out.rest HK.out (Below.refl _ _) (.inr (ltB_eq _ _ |>.1 HPB.out.symm))
    · go_wp2_with fail
      refine hdrop.mono ?_
      clear hdrop cj s1 cm c0
      rintro e w4 hd
      obtain ⟨F', rfl, hd, hbj, hbs, hbm⟩ := HD1.out e w4 hd
      have HD := Lib.hid hd
      have HBJ := Lib.hid hbj
      have HBS := Lib.hid hbs
      have HBM := Lib.hid hbm
      have s0 := hbs.cell 0
      have s1 := hbs.cell 1
      have cj := hbj.cell 0
      have cm := hbm.cell 0
      simp only [List.getElem?_toArray, List.getElem?_cons_succ, List.getElem?_cons_zero] at s0 s1 cj cm
      clear hd hbj hbs hbm HD0 HD1
      go_wp2_with fail
      go_end0
      exact HD.out.rest HK.out (Below.refl _ _) (.inl rfl)
end
end Go.Proofs.Ytioddokjogbmnaa.Chk

set_option linter.unusedVariables false
set_option linter.unusedSimpArgs false
set_option maxRecDepth 20000
namespace Go.Proofs.Ytioddokjogbmnaa.Chk
open Go.ChangeShapes Go.WideShapes Go.ChangeAt Go.RowKit Go.Deep Go.Maps Go.Proofs.Ytioddokjogbmnaa.Words Go.Proofs.Ytioddokjogbmnaa.Oct Go.Proofs.Ytioddokjogbmnaa.Par Go.Proofs.Ytioddokjogbmnaa.Mx
section
variable {w w' : World} {T T' : Nat → Nat} {p bl bo h h' : Nat} {inter : Bool} {rv : Value} {F : Gk → Option Nat} {xs : List Mg} {Om : Nat → Option Nat} {Wb next : Nat → Nat} {wait wait' : List Jo.Ms} {S G : Nat → Prop} {s : Jo.JS} {pcs : List Jo.Pc}
def TakeDone (w : World) (G : Nat → Prop) (p : Nat) (inter : Bool) (s : Jo.JS) (e : Ending) (w' : World) : Prop :=
  ∃ (m : Msg) (A : Option Addr) (n cp : Nat) (t : Bool) (s' : Jo.JS) (G' : Nat → Prop), e = .returned (.tuple #[.agg (mCells m (.slice A n cp)), .bool t]) ∧ JRep w' G' p inter s' ∧ TakeJ s m t s' ∧ n = m.body.length ∧ n ≤ cp ∧ cp ≤ 9223372036854775807 ∧ Byt w' w'.heap.size A m.body ∧ (∀ i, G' i → G i ∨ w.heap.size ≤ i) ∧ Fr G w w'
theorem msg_built0 : Try.prog.built 43 [] = some #[.int .u16 0, .bool false, .int .u32 0, .int .u32 0, .slice none 0 0] := by kernel_rfl
theorem res_msg {fn : Func} {p u : Tmp} (h : fn.results = #[.cell p 43, .tmp u]) (tmps : Array Value) (w : World) (g : Nat) (cs : Array Value) (hc : cs.size = 5) (hp : tmps.getD p undef = .pointer (some ⟨g, 0, none⟩)) (hb : Blk w g 43 cs) :
    (results fn tmps).run Try.prog w = .ok (.tuple #[.agg cs, tmps.getD u undef]) w := by
  rw [results_cell_tmp h, hp]
  have := run_loadVar_row (P := Try.prog) w g 43 43 cs (0, 0) _ hb Try.underlying43 rfl (by rw [hc]; kernel_rfl)
  simp [asAddr, Result.andThen, this]
theorem take_end {X : Mg} {t : List Mg} {rv' : Value} {g h2 : Nat} (k : JRp w T p bl bo inter rv F Om Wb (X :: t) s) (h4 : T g = 4) (hf : Fr (fun i => i < w.heap.size ∧ (i = g ∨ i = p)) w w') (hj : JB w' p inter bl bo rv' h2) (hr : ReadyR w' T rv' t) (hh : h2 = Jo.held s - X.m.body.length) :
    TakeDone w (fun i => T i ≠ 0) p inter s (.returned (.tuple #[.agg (mCells X.m (.slice X.A X.m.body.length X.cp)), .bool true])) w' := by
  have hn : ∀ i, i < w.heap.size → (T i = 2 ∨ T i = 3 ∨ T i = 5) → ¬ (i < w.heap.size ∧ (i = g ∨ i = p)) := fun i hi e hx => by
    rcases hx.2 with h | h
    · rw [h, h4] at e; rcases e with e | e | e <;> cases e
    · rw [h, k.jo.tp] at e; rcases e with e | e | e <;> cases e
  have hok := k.jo.rok X List.mem_cons_self
  have hmg : ∀ y, MgOk w T y → MgOk w' T y := fun y hy => hy.fr hf (fun i hi e => hn i hi (.inr (.inr e))) (fun _ _ => rfl)
  have hheld : Jo.held ⟨s.pcs, s.wait, t.map fun x => msOf x.m, s.next⟩ = h2 := by
    have e1 : Jo.held s = Jo.sizeP s.pcs + Jo.sizeM s.wait + (X.m.body.length + Jo.sizeM (t.map fun x => msOf x.m)) := by
      unfold Jo.held
      rw [k.rd]
      have ec : Jo.sizeM ((X :: t).map fun x => msOf x.m) = X.m.body.length + Jo.sizeM (t.map fun x => msOf x.m) := by simp [Jo.sizeM, msOf]
      rw [ec]
    show Jo.sizeP s.pcs + Jo.sizeM s.wait + Jo.sizeM (t.map fun x => msOf x.m) = h2
    omega
  refine ⟨X.m, X.A, _, X.cp, true, ⟨s.pcs, s.wait, t.map fun x => msOf x.m, s.next⟩, fun i => T i ≠ 0, rfl, ⟨T, bl, bo, rv', F, Om, Wb, t, fun i => Iff.rfl, ⟨hheld ▸ hj, k.jo.tp, k.jo.ord.fr hf (fun i hi e => hn i hi (.inr (.inl e))) (fun i hi e => hn i hi (.inr (.inr e))) (fun _ _ => rfl), hr, fun y hy => hmg y (k.jo.rok y (List.mem_cons_of_mem _ hy)), fun i hi => k.jo.out i (by have := hf.size; omega)⟩, k.ln.fr hf (fun i hi e => hn i hi (.inl e)) (fun i hi e => hn i hi (.inr (.inr e))) (fun _ _ => rfl), rfl, by rw [hheld, hh]; have := k.small; omega, k.pok⟩, ⟨List.Perm.refl _, List.Perm.refl _, rfl, by rw [k.rd]; rfl, .inr ⟨by rw [k.rd]; rfl, rfl⟩⟩, rfl, hok.bod.le, hok.bod.cap, (hmg X hok).bod.rd, fun i hi => .inl hi, hf.mono (fun i hi e => ?_)⟩
  rcases e.2 with e | e
  · rw [e, h4]; decide
  · rw [e, k.jo.tp]; decide
set_option maxHeartbeats 8000000 in
theorem take_any (k : JRp w T p bl bo inter rv F Om Wb xs s) : Calls Try.prog 16 #[jptr p] w (TakeDone w (fun i => T i ≠ 0) p inter s) := by
  obtain ⟨W1, hW1⟩ : ∃ W1, W1 = w.alloc (.cells #[.int .u16 0, .bool false, .int .u32 0, .int .u32 0, .slice none 0 0] 43) := ⟨_, rfl⟩
  obtain ⟨gr, hgr⟩ : ∃ gr, gr = w.heap.size := ⟨_, rfl⟩
  have HB1 : Hid (Below w.heap.size w W1) := by rw [hW1]; exact below_one w _
  have HR1 : Hid (Blk W1 gr 43 #[.int .u16 0, .bool false, .int .u32 0, .int .u32 0, .slice none 0 0]) := by rw [hW1, hgr]; exact Blk.new _ _ _
  have HJ1 := Lib.hid (k.jo.grows HB1.out)
  have HK := Lib.hid k
  have c3 := HJ1.out.jb.c3
  have HGR : Hid (w.heap.size ≤ gr) := by unfold Hid; omega
  have hready := k.jo.rdy
  rcases hready with ⟨rfl, rfl⟩ | ⟨g, o, c, cs, rfl, hne, hblk, hT4, hsz, hlc, hcm, hrow⟩
  · clear k
    go_enter Try.func16, Try.ntmps16
    go_upto_region 1 with (fail)
    rw [← hW1, ← hgr]
    clear hW1 hgr
    have z0 := HR1.out.cell 0
    have z1 := HR1.out.cell 1
    have z2 := HR1.out.cell 2
    have z3 := HR1.out.cell 3
    have z4 := HR1.out.cell 4
    have y0 := HR1.out.frozen 0
    have y1 := HR1.out.frozen 1
    have y2 := HR1.out.frozen 2
    have y3 := HR1.out.frozen 3
    have y4 := HR1.out.frozen 4
    simp only [List.getElem?_toArray, List.getElem?_cons_succ, List.getElem?_cons_zero] at z0 z1 z2 z3 z4
    go_wp2_with (refine wpList_build_as rfl 43 _ rfl _ msg_built0 ?_)
    obtain ⟨W2, hW2⟩ : ∃ W2, W2 = ((((W1.setCell ⟨gr, 0, none⟩ (.int .u16 0)).setCell ⟨gr, 1, none⟩ (.bool false)).setCell ⟨gr, 2, none⟩ (.int .u32 0)).setCell ⟨gr, 3, none⟩ (.int .u32 0)).setCell ⟨gr, 4, none⟩ (.slice none 0 0) := ⟨_, rfl⟩
    have hb2 : Blk W2 gr 43 #[.int .u16 0, .bool false, .int .u32 0, .int .u32 0, .slice none 0 0] := by rw [hW2]; exact ((((HR1.out.set_ 0 _).set_ 1 _).set_ 2 _).set_ 3 _).set_ 4 _
    have hf2 : Fr (fun i => i = gr) W1 W2 := by rw [hW2]; exact ((((((Fr.refl (fun i => i = gr) W1).setCell (p := ⟨gr, 0, none⟩) (.inl rfl) _).setCell (p := ⟨gr, 1, none⟩) (.inl rfl) _).setCell (p := ⟨gr, 2, none⟩) (.inl rfl) _).setCell (p := ⟨gr, 3, none⟩) (.inl rfl) _).setCell (p := ⟨gr, 4, none⟩) (.inl rfl) _)
    rw [← hW2]
    clear hW2
    (try simp only [Exit.inBlock, Exit.then])
    refine bodyPost_ret (res_msg rfl _ _ gr _ rfl rfl hb2) rfl ?_
    have hb : Below w.heap.size w W2 := below_fr HB1.out hf2 (Nat.le_refl _) (fun x e => by rw [show x = gr from e]; exact HGR.out)
    refine ⟨⟨0, false, 0, 0, []⟩, none, 0, 0, false, s, fun i => T i ≠ 0, rfl, JRep.fr ⟨T, bl, bo, _, F, Om, Wb, _, fun i => Iff.rfl, HK.out⟩ (Fr.of_below hb) (fun i h1 h2 => by have e' : w.heap.size ≤ i := h1; omega), ⟨List.Perm.refl _, List.Perm.refl _, rfl, by rw [HK.out.rd]; rfl, .inl ⟨by rw [HK.out.rd]; rfl, rfl, rfl⟩⟩, rfl, Nat.le_refl _, by omega, ⟨rfl, fun h => absurd h (by simp)⟩, fun i hi => .inl hi, (Fr.of_below hb).mono (fun i h1 h2 => by have e' : w.heap.size ≤ i := h2; omega)⟩
  · obtain ⟨x, t, rfl⟩ : ∃ x t, xs = x :: t := by
      cases xs with
      | nil => exact absurd rfl hne
      | cons x t => exact ⟨x, t, rfl⟩
    have hrow0 := hrow 0 x rfl
    have hok := HJ1.out.rok x List.mem_cons_self
    obtain ⟨⟨x1, x2, x3, x4, x5⟩, xA, xc⟩ := x
    obtain ⟨X, hX⟩ : ∃ X : Mg, X = ⟨⟨x1, x2, x3, x4, x5⟩, xA, xc⟩ := ⟨_, rfl⟩
    rw [← hX] at HK HJ1 hok hrow hrow0 hlc c3
    have hmc : (mgCells X).toArray = #[.int .u16 (x1 : Int), .bool x2, .int .u32 (x3 : Int), .int .u32 (x4 : Int), .slice xA x5.length xc] := by rw [hX]; rfl
    obtain ⟨xn, hxn⟩ : ∃ xn, xn = x5.length := ⟨_, rfl⟩
    rw [← hxn] at hmc
    have HMC := Lib.hid hmc
    have HXE := Lib.hid hX
    have HXN := Lib.hid hxn
    have HB1b : Hid (Blk W1 g 43 cs) := (Fr.of_below HB1.out).blk hblk (fun e => by have e' : w.heap.size ≤ g := e; have := Blk.lt hblk; omega)
    have HOK := Lib.hid hok
    have HROW := Lib.hid hrow
    obtain ⟨l, hl⟩ : ∃ l, l = t.length := ⟨_, rfl⟩
    have hlen : (X :: t).length = l + 1 := by rw [hl]; rfl
    rw [hlen] at hlc c3
    have hld : ∀ j v, (#[.int .u16 (x1 : Int), .bool x2, .int .u32 (x3 : Int), .int .u32 (x4 : Int), .slice xA xn xc] : Array Value)[j]? = some v → W1.cell? ((⟨g, o, none⟩ : Addr).add j) = some v := fun j v hv => by
      rw [← hmc] at hv
      rw [Addr.add_lit, HB1b.out.cell (o + j)]
      have h1 := hrow0 j v (by simpa using hv)
      simpa using h1
    have HT4 := Lib.hid hT4
    have HSZ := Lib.hid hsz
    have HLL := Lib.hid hl
    clear k hX hxn hmc hrow hrow0 hok hne hblk hT4 hsz hlen hl
    go_enter Try.func16, Try.ntmps16
    go_upto_region 1 with (fail)
    rw [← hW1, ← hgr]
    clear hW1 hgr
    go_upto_region 4 with (refine wpList_load_any rfl 43 _ rfl ⟨g, o, none⟩ (by first | rfl | simp) #[.int .u16 (x1 : Int), .bool x2, .int .u32 (x3 : Int), .int .u32 (x4 : Int), .slice xA xn xc] _ hld Try.underlying43 rfl msg_sz ?_)
    obtain ⟨W2, hW2⟩ : ∃ W2, W2 = W1.alloc (.cells #[.int .u16 (x1 : Int), .bool x2, .int .u32 (x3 : Int), .int .u32 (x4 : Int), .slice xA xn xc] 43) := ⟨_, rfl⟩
    obtain ⟨gm, hgm⟩ : ∃ gm, gm = W1.heap.size := ⟨_, rfl⟩
    rw [← hW2, ← hgm]
    have hf12 : Fr (fun _ => False) W1 W2 := by rw [hW2]; exact (Fr.refl _ W1).alloc _
    have HF12 := Lib.hid hf12
    have HBM2 : Hid (Blk W2 gm 43 #[.int .u16 (x1 : Int), .bool x2, .int .u32 (x3 : Int), .int .u32 (x4 : Int), .slice xA xn xc]) := by rw [hW2, hgm]; exact Blk.new _ _ _
    have HBC2 := Lib.hid (hf12.blk HB1b.out (fun h => h))
    have HBR2 := Lib.hid (hf12.blk HR1.out (fun h => h))
    have HJ2 : Hid (JB W2 p inter bl bo (.slice (some ⟨g, o, none⟩) (l + 1) c) (Jo.held s)) := by
      have h1 := HJ1.out.jb.fr hf12 (fun h => h)
      have h2 : (X :: t).length = l + 1 := by rw [HLL.out]; rfl
      rw [h2] at h1; exact h1
    have HGM : Hid (gm = W1.heap.size) := hgm
    have hold : ∀ j, j < 5 → ∃ v, W2.cell? ⟨g, o + j, none⟩ = some v := fun j hj => by
      have h1 := HBC2.out.cell (o + j)
      have h2 := HSZ.out
      exact ⟨_, h1.trans (Array.getElem?_eq_getElem (by have := hlc; omega))⟩
    obtain ⟨v0, z0⟩ := hold 0 (by omega)
    obtain ⟨v1, z1⟩ := hold 1 (by omega)
    obtain ⟨v2, z2⟩ := hold 2 (by omega)
    obtain ⟨v3, z3⟩ := hold 3 (by omega)
    obtain ⟨v4, z4⟩ := hold 4 (by omega)
    have y0 := HBC2.out.frozen (o + 0)
    have y1 := HBC2.out.frozen (o + 1)
    have y2 := HBC2.out.frozen (o + 2)
    have y3 := HBC2.out.frozen (o + 3)
    have y4 := HBC2.out.frozen (o + 4)
    have c3 := HJ2.out.c3
    rw [Nat.add_zero] at z0 y0
    clear hld hold hW2 hgm hf12
    go_upto_region 5 with (refine wpList_build_as rfl 43 _ rfl _ msg_built0 ?_)
    obtain ⟨W3, hW3⟩ : ∃ W3, W3 = ((((W2.setCell ⟨g, o, none⟩ (.int .u16 0)).setCell ⟨g, o + 1, none⟩ (.bool false)).setCell ⟨g, o + 2, none⟩ (.int .u32 0)).setCell ⟨g, o + 3, none⟩ (.int .u32 0)).setCell ⟨g, o + 4, none⟩ (.slice none 0 0) := ⟨_, rfl⟩
    have hf23 : Fr (fun i => i = g) W2 W3 := by rw [hW3]; exact ((((((Fr.refl (fun i => i = g) W2).setCell (p := ⟨g, o, none⟩) (.inl rfl) _).setCell (p := ⟨g, o + 1, none⟩) (.inl rfl) _).setCell (p := ⟨g, o + 2, none⟩) (.inl rfl) _).setCell (p := ⟨g, o + 3, none⟩) (.inl rfl) _).setCell (p := ⟨g, o + 4, none⟩) (.inl rfl) _)
    obtain ⟨cs3, HBC3, hcs3, hcs4⟩ : ∃ cs3, Hid (Blk W3 g 43 cs3) ∧ cs3.size = cs.size ∧ ∀ k, o + 5 ≤ k → cs3[k]? = cs[k]? := by
      refine ⟨_, by rw [hW3]; exact ((((HBC2.out.set_ o _).set_ (o + 1) _).set_ (o + 2) _).set_ (o + 3) _).set_ (o + 4) _, by simp, fun k hk => ?_⟩
      simp only [Array.getElem?_setIfInBounds]
      rw [if_neg (by omega), if_neg (by omega), if_neg (by omega), if_neg (by omega), if_neg (by omega)]
    rw [← hW3]
    have hgw : g < w.heap.size := by
      rcases Nat.lt_or_ge g w.heap.size with h | h
      · exact h
      · have := HK.out.jo.out g h; rw [HT4.out] at this; cases this
    have hpw : p < w.heap.size := Blk.lt HK.out.jo.jb
    have hpg : ¬ p = g := fun e => by have := HK.out.jo.tp; rw [e, HT4.out] at this; cases this
    have HW1S : Hid (w.heap.size ≤ gm) := by rw [HGM.out]; exact HB1.out.size
    have HBM3 := Lib.hid (hf23.blk HBM2.out (by have := HW1S.out; omega))
    have HBR3 := Lib.hid (hf23.blk HBR2.out (by have := HGR.out; omega))
    have HJ3 : Hid (JB W3 p inter bl bo (.slice (some ⟨g, o, none⟩) (l + 1) c) (Jo.held s)) := HJ2.out.fr hf23 hpg
    have HF3 : Hid (Fr (fun i => i < w.heap.size ∧ (i = g ∨ i = p)) w W3) := by
      have h1 : Fr (fun i => i < w.heap.size ∧ (i = g ∨ i = p)) w W2 := ((Fr.of_below HB1.out).mono (T := fun i => i < w.heap.size ∧ (i = g ∨ i = p)) (fun i hi e => by have e' : w.heap.size ≤ i := e; omega)).trans HF12.out (fun _ _ e => e.elim)
      exact h1.trans hf23 (fun i hi e => ⟨hi, .inl e⟩)
    have HC4 : Hid (∀ k, o + 5 ≤ k → cs3[k]? = cs[k]?) := hcs4
    have HC3 : Hid (cs3.size = cs.size) := hcs3
    have HP := Lib.hid hpg
    have HGW := Lib.hid hgw
    have HPW := Lib.hid hpw
    have c3 := HJ3.out.c3
    have f3 := Blk.frozen HJ3.out 3
    clear z0 z1 z2 z3 z4 y0 y1 y2 y3 y4 hW3 hf23 hcs3 hcs4 hgw hpw hpg HBC2 HBM2 HBR2 HJ2
    have HLE : Hid (xn ≤ Jo.held s) := by
      unfold Hid Jo.held
      rw [HK.out.rd, HXN.out, HXE.out]
      have ec : Jo.sizeM (((⟨⟨x1, x2, x3, x4, x5⟩, xA, xc⟩ : Mg) :: t).map fun x => msOf x.m) = x5.length + Jo.sizeM (t.map fun x => msOf x.m) := by simp [Jo.sizeM, msOf]
      rw [ec]; omega
    obtain ⟨A4, hA4⟩ : ∃ A4 : Option Addr, A4 = if c = 1 then some ⟨g, o, none⟩ else some ⟨g, o + 5, none⟩ := ⟨_, rfl⟩
    obtain ⟨W4, hW4⟩ : ∃ W4, W4 = W3.setCell ⟨p, 3, none⟩ (.slice A4 l (c - 1)) := ⟨_, rfl⟩
    go_upto_region 6 with (fail)
    rw [← hA4, ← hW4]
    have hf34 : Fr (fun i => i = p) W3 W4 := by rw [hW4]; exact (Fr.refl (fun i => i = p) W3).setCell (p := ⟨p, 3, none⟩) (.inl rfl) _
    have HJ4 : Hid (JB W4 p inter bl bo (.slice A4 l (c - 1)) (Jo.held s)) := by rw [hW4]; exact HJ3.out.ready _
    have HBC4 := Lib.hid (hf34.blk HBC3.out (fun e => HP.out e.symm))
    have HF34 := Lib.hid hf34
    have c3 := HJ4.out.c3
    have f3 := Blk.frozen HJ4.out 3
    have HA4 := Lib.hid hA4
    clear hW4 hf34 hA4
    by_cases hl0 : l = 0
    · subst hl0
      have ht : t = [] := List.eq_nil_of_length_eq_zero HLL.out.symm
      subst ht
      obtain ⟨W5, hW5⟩ : ∃ W5, W5 = W4.setCell ⟨p, 3, none⟩ (.slice none 0 0) := ⟨_, rfl⟩
      have HFW : Hid (Fr (fun i => i = p) W3 W5) := HF34.out.same (by rw [hW5]; exact (Fr.refl (fun i => i = p) W4).setCell (p := ⟨p, 3, none⟩) (.inl rfl) _)
      have HJV0 : Hid (JB W5 p inter bl bo (.slice none 0 0) (Jo.held s)) := by rw [hW5]; exact HJ4.out.ready _
      have HJV : Hid (JB W5 p inter bl bo (.slice none 0 0) (Jo.held s)) := HJV0.out
      have HBM := Lib.hid (HFW.out.blk HBM3.out (by have := HW1S.out; have := HPW.out; omega))
      have HBR := Lib.hid (HFW.out.blk HBR3.out (by have := HGR.out; have := HPW.out; omega))
      have c4 := HJV.out.c4
      have f4 := Blk.frozen HJV.out 4
      have m4 := HBM.out.cell 4
      simp only [List.getElem?_toArray, List.getElem?_cons_succ, List.getElem?_cons_zero] at m4
      obtain ⟨hh, hhh⟩ : ∃ hh, hh = Jo.held s := ⟨_, rfl⟩
      obtain ⟨h2, hh2⟩ : ∃ h2, h2 = hh - xn := ⟨_, rfl⟩
      have hle : xn ≤ hh := by rw [hhh]; exact HLE.out
      have hz : hh ≤ 2000000000 := by rw [hhh]; exact HK.out.small
      have hsub : (hh : Int) - (xn : Int) = (h2 : Int) := by omega
      have hwr : IntKind.i64.wrap (h2 : Int) = (h2 : Int) := IntWalk.i64_in _ (by omega)
      rw [← hhh] at c4
      have HHH := Lib.hid hhh
      have HH2 := Lib.hid hh2
      have ne1 : ¬ gm = p := by have := HW1S.out; have := HPW.out; omega
      have ne2 : ¬ p = gm := fun e => ne1 e.symm
      clear hhh hh2
      go_upto_region 8 with (fail)
      rw [← hW5]
      clear hW5
      go_region
      obtain ⟨W6, hW6⟩ : ∃ W6, W6 = (W5.setCell ⟨p, 4, none⟩ (.int .i64 (h2 : Int))).drew := ⟨_, rfl⟩
      have hf6 : Fr (fun i => i = p) W5 W6 := by rw [hW6]; exact (((Fr.refl (fun i => i = p) W5).setCell (p := ⟨p, 4, none⟩) (.inl rfl) _).drew)
      have HJ6 : Hid (JB W6 p inter bl bo (.slice none 0 0) h2) := by rw [hW6]; exact HJV.out.held h2
      have HBM6 := Lib.hid (hf6.blk HBM.out ne1)
      have HBR6 := Lib.hid (hf6.blk HBR.out (by have := HGR.out; have := HPW.out; omega))
      have HF6 : Hid (Fr (fun i => i = p) W3 W6) := HFW.out.same hf6
      rw [← hW6]
      clear hW6 hf6 c4 f4 m4 hle hz hsub hwr
      have hld : ∀ j v, (#[.int .u16 (x1 : Int), .bool x2, .int .u32 (x3 : Int), .int .u32 (x4 : Int), .slice xA xn xc] : Array Value)[j]? = some v → W6.cell? ((⟨gm, 0, none⟩ : Addr).add j) = some v := fun j v hv => by rw [HBM6.out.cellAdd]; exact hv
      have z0 := HBR6.out.cell 0
      have z1 := HBR6.out.cell 1
      have z2 := HBR6.out.cell 2
      have z3 := HBR6.out.cell 3
      have z4 := HBR6.out.cell 4
      have y0 := HBR6.out.frozen 0
      have y1 := HBR6.out.frozen 1
      have y2 := HBR6.out.frozen 2
      have y3 := HBR6.out.frozen 3
      have y4 := HBR6.out.frozen 4
      simp only [List.getElem?_toArray, List.getElem?_cons_succ, List.getElem?_cons_zero] at z0 z1 z2 z3 z4
      go_upto_region 9 with (fail)
      go_wp2_with (refine wpList_load_any rfl 43 _ rfl ⟨gm, 0, none⟩ (by first | rfl | simp) #[.int .u16 (x1 : Int), .bool x2, .int .u32 (x3 : Int), .int .u32 (x4 : Int), .slice xA xn xc] _ hld Try.underlying43 rfl msg_sz ?_)
      obtain ⟨W7, hW7⟩ : ∃ W7, W7 = ((((W6.setCell ⟨gr, 0, none⟩ (.int .u16 (x1 : Int))).setCell ⟨gr, 1, none⟩ (.bool x2)).setCell ⟨gr, 2, none⟩ (.int .u32 (x3 : Int))).setCell ⟨gr, 3, none⟩ (.int .u32 (x4 : Int))).setCell ⟨gr, 4, none⟩ (.slice xA xn xc) := ⟨_, rfl⟩
      have hb7 : Blk W7 gr 43 #[.int .u16 (x1 : Int), .bool x2, .int .u32 (x3 : Int), .int .u32 (x4 : Int), .slice xA xn xc] := by rw [hW7]; exact ((((HBR6.out.set_ 0 _).set_ 1 _).set_ 2 _).set_ 3 _).set_ 4 _
      have hf7 : Fr (fun i => i = gr) W6 W7 := by rw [hW7]; exact ((((((Fr.refl (fun i => i = gr) W6).setCell (p := ⟨gr, 0, none⟩) (.inl rfl) _).setCell (p := ⟨gr, 1, none⟩) (.inl rfl) _).setCell (p := ⟨gr, 2, none⟩) (.inl rfl) _).setCell (p := ⟨gr, 3, none⟩) (.inl rfl) _).setCell (p := ⟨gr, 4, none⟩) (.inl rfl) _)
      rw [← hW7]
      clear hW7
      (try simp only [Exit.inBlock, Exit.then])
      refine bodyPost_ret (res_msg rfl _ _ gr _ rfl rfl hb7) rfl ?_
      have hfa : Fr (fun i => i = p ∨ i = gr) W3 W7 := (HF6.out.mono (fun i hi e => .inl e)).trans hf7 (fun i hi e => .inr e)
      have hft : Fr (fun i => i < w.heap.size ∧ (i = g ∨ i = p)) w W7 := HF3.out.trans hfa (fun i hi e => ⟨hi, e.elim .inr (fun e => by have := HGR.out; omega)⟩)
      have hend := take_end HK.out (X := X) (rv' := (.slice none 0 0)) (w' := W7) (g := g) HT4.out hft (HJ6.out.fr hf7 (by have := HGR.out; have := HPW.out; omega)) (.inl ⟨rfl, rfl⟩) (by rw [HH2.out, HHH.out, HXN.out, HXE.out])
      rw [HXE.out] at hend
      rw [HXN.out]
      exact hend
    · have hc1 : ¬ c = 1 := by omega
      have hA := HA4.out
      rw [if_neg hc1] at hA
      subst hA
      have HFW := HF34
      have HJV0 := HJ4
      have hl1 : ¬ ((l : Int) = 0) := by omega
      have HJV : Hid (JB W4 p inter bl bo (.slice (some ⟨g, o + 5, none⟩) l (c - 1)) (Jo.held s)) := HJV0.out
      have HBM := Lib.hid (HFW.out.blk HBM3.out (by have := HW1S.out; have := HPW.out; omega))
      have HBR := Lib.hid (HFW.out.blk HBR3.out (by have := HGR.out; have := HPW.out; omega))
      have c4 := HJV.out.c4
      have f4 := Blk.frozen HJV.out 4
      have m4 := HBM.out.cell 4
      simp only [List.getElem?_toArray, List.getElem?_cons_succ, List.getElem?_cons_zero] at m4
      obtain ⟨hh, hhh⟩ : ∃ hh, hh = Jo.held s := ⟨_, rfl⟩
      obtain ⟨h2, hh2⟩ : ∃ h2, h2 = hh - xn := ⟨_, rfl⟩
      have hle : xn ≤ hh := by rw [hhh]; exact HLE.out
      have hz : hh ≤ 2000000000 := by rw [hhh]; exact HK.out.small
      have hsub : (hh : Int) - (xn : Int) = (h2 : Int) := by omega
      have hwr : IntKind.i64.wrap (h2 : Int) = (h2 : Int) := IntWalk.i64_in _ (by omega)
      rw [← hhh] at c4
      have HHH := Lib.hid hhh
      have HH2 := Lib.hid hh2
      have ne1 : ¬ gm = p := by have := HW1S.out; have := HPW.out; omega
      have ne2 : ¬ p = gm := fun e => ne1 e.symm
      clear hhh hh2
      go_upto_region 8 with (fail)
      go_region
      obtain ⟨W6, hW6⟩ : ∃ W6, W6 = (W4.setCell ⟨p, 4, none⟩ (.int .i64 (h2 : Int))).drew := ⟨_, rfl⟩
      have hf6 : Fr (fun i => i = p) W4 W6 := by rw [hW6]; exact (((Fr.refl (fun i => i = p) W4).setCell (p := ⟨p, 4, none⟩) (.inl rfl) _).drew)
      have HJ6 : Hid (JB W6 p inter bl bo (.slice (some ⟨g, o + 5, none⟩) l (c - 1)) h2) := by rw [hW6]; exact HJV.out.held h2
      have HBM6 := Lib.hid (hf6.blk HBM.out ne1)
      have HBR6 := Lib.hid (hf6.blk HBR.out (by have := HGR.out; have := HPW.out; omega))
      have HF6 : Hid (Fr (fun i => i = p) W3 W6) := HFW.out.same hf6
      rw [← hW6]
      clear hW6 hf6 c4 f4 m4 hle hz hsub hwr
      have hld : ∀ j v, (#[.int .u16 (x1 : Int), .bool x2, .int .u32 (x3 : Int), .int .u32 (x4 : Int), .slice xA xn xc] : Array Value)[j]? = some v → W6.cell? ((⟨gm, 0, none⟩ : Addr).add j) = some v := fun j v hv => by rw [HBM6.out.cellAdd]; exact hv
      have z0 := HBR6.out.cell 0
      have z1 := HBR6.out.cell 1
      have z2 := HBR6.out.cell 2
      have z3 := HBR6.out.cell 3
      have z4 := HBR6.out.cell 4
      have y0 := HBR6.out.frozen 0
      have y1 := HBR6.out.frozen 1
      have y2 := HBR6.out.frozen 2
      have y3 := HBR6.out.frozen 3
      have y4 := HBR6.out.frozen 4
      simp only [List.getElem?_toArray, List.getElem?_cons_succ, List.getElem?_cons_zero] at z0 z1 z2 z3 z4
      go_upto_region 9 with (fail)
      go_wp2_with (refine wpList_load_any rfl 43 _ rfl ⟨gm, 0, none⟩ (by first | rfl | simp) #[.int .u16 (x1 : Int), .bool x2, .int .u32 (x3 : Int), .int .u32 (x4 : Int), .slice xA xn xc] _ hld Try.underlying43 rfl msg_sz ?_)
      obtain ⟨W7, hW7⟩ : ∃ W7, W7 = ((((W6.setCell ⟨gr, 0, none⟩ (.int .u16 (x1 : Int))).setCell ⟨gr, 1, none⟩ (.bool x2)).setCell ⟨gr, 2, none⟩ (.int .u32 (x3 : Int))).setCell ⟨gr, 3, none⟩ (.int .u32 (x4 : Int))).setCell ⟨gr, 4, none⟩ (.slice xA xn xc) := ⟨_, rfl⟩
      have hb7 : Blk W7 gr 43 #[.int .u16 (x1 : Int), .bool x2, .int .u32 (x3 : Int), .int .u32 (x4 : Int), .slice xA xn xc] := by rw [hW7]; exact ((((HBR6.out.set_ 0 _).set_ 1 _).set_ 2 _).set_ 3 _).set_ 4 _
      have hf7 : Fr (fun i => i = gr) W6 W7 := by rw [hW7]; exact ((((((Fr.refl (fun i => i = gr) W6).setCell (p := ⟨gr, 0, none⟩) (.inl rfl) _).setCell (p := ⟨gr, 1, none⟩) (.inl rfl) _).setCell (p := ⟨gr, 2, none⟩) (.inl rfl) _).setCell (p := ⟨gr, 3, none⟩) (.inl rfl) _).setCell (p := ⟨gr, 4, none⟩) (.inl rfl) _)
      rw [← hW7]
      clear hW7
      (try simp only [Exit.inBlock, Exit.then])
      refine bodyPost_ret (res_msg rfl _ _ gr _ rfl rfl hb7) rfl ?_
      have hfa : Fr (fun i => i = p ∨ i = gr) W3 W7 := (HF6.out.mono (fun i hi e => .inl e)).trans hf7 (fun i hi e => .inr e)
      have hft : Fr (fun i => i < w.heap.size ∧ (i = g ∨ i = p)) w W7 := HF3.out.trans hfa (fun i hi e => ⟨hi, e.elim .inr (fun e => by have := HGR.out; omega)⟩)
      have hend := take_end HK.out (X := X) (rv' := (.slice (some ⟨g, o + 5, none⟩) l (c - 1))) (w' := W7) (g := g) HT4.out hft (HJ6.out.fr hf7 (by have := HGR.out; have := HPW.out; omega)) (.inr ⟨g, o + 5, c - 1, cs3, by rw [← HLL.out], (fun e => hl0 (by rw [HLL.out, e]; rfl)), (hf7.blk (HF6.out.blk HBC3.out (fun e => HP.out e.symm)) (by have := HGR.out; have := HGW.out; omega)), HT4.out, by have := HSZ.out; have := HC3.out; omega, by rw [← HLL.out]; omega, by omega, fun i y hy j u hu => by rw [HC4.out _ (by omega)]; have h9 := HROW.out (i + 1) y hy j u hu; rw [← h9]; congr 1; omega⟩) (by rw [HH2.out, HHH.out, HXN.out, HXE.out])
      rw [HXE.out] at hend
      rw [HXN.out]
      exact hend
end
end Go.Proofs.Ytioddokjogbmnaa.Chk
