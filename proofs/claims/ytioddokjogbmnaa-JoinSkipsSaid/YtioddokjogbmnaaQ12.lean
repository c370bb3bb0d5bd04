/-
  Of the texts Jp18, Jp19, Jp20, Jp21: what the laws reach.
-/
import Derived.Test.YtioddokjogbmnaaQ11
import Derived.Shelf.SlSortCmp.NoneTotal

set_option linter.unusedVariables false
set_option linter.unusedSimpArgs false
set_option maxRecDepth 20000
namespace Go.Proofs.Ytioddokjogbmnaa.Chk
open Go.ChangeShapes Go.WideShapes Go.ChangeAt Go.RowKit Go.Deep Go.Maps Go.Proofs.Ytioddokjogbmnaa.Words Go.Proofs.Ytioddokjogbmnaa.Oct Go.Proofs.Ytioddokjogbmnaa.Par Go.Proofs.Ytioddokjogbmnaa.Mx
section
variable {w w' : World} {T T' : Nat → Nat} {p bl bo h : Nat} {inter : Bool} {rv : Value} {S : Nat → Prop} {F F' : Gk → Option Nat} {pcs pcs' : List Jo.Pc} {r : Jo.Pc → Bool}
theorem line_zero (w : World) : (zeroValue 83).run Try.prog w = .ok (.map none) w := by kernel_rfl
theorem LinesR.look (k : LinesR w T bl inter F pcs) {g : Gk} (hd : grpX.dom g) (n : Nat) : (Instr.lookup 72 (.map (some bl)) (gkV g) false).run Try.prog (w.drewN n) = .ok (.map (F g)) (w.drewN n) := by
  have h1 := MapX.look (k.map.drewN n) (t := 72) Try.underlying72 (line_zero _) (x := g) hd
  have e : (((F g).map lptr).getD (.map none)) = .map (F g) := by cases F g <;> rfl
  rw [e] at h1
  exact h1
theorem alltrue_any (i : Value) (m : Array Value) (w : World) : Calls Try.prog 61 #[i, .agg m] w fun e w' => e = .returned (.bool true) ∧ Below w.heap.size w w' := by
  go_enter Try.func61, Try.ntmps61
  go_wp2
  go_ret
  exact ⟨rfl, below_one w _⟩
theorem alltrue_enters : ∀ args W, (callFunc 61 args).run Try.prog W = .ok (.enter 61 args) W := enters_of Try.func61 (by kernel_rfl) rfl
def TidyDone (w : World) (T : Nat → Nat) (p : Nat) (inter : Bool) (bl bo : Nat) (rv : Value) (h : Nat) (pcs : List Jo.Pc) (g : Gk) (e : Ending) (w' : World) : Prop :=
  ∃ F', e = .returned (.tuple #[]) ∧ LinesR w' T bl inter F' (if inter = true then dropK inter g (fun _ => true) pcs else pcs) ∧ JB w' p inter bl bo rv (h - if inter = true then Jo.sizeP (atK inter g pcs) else 0) ∧ Fr (fun i => i < w.heap.size ∧ (T i = 2 ∨ i = p)) w w'
set_option maxHeartbeats 8000000 in
theorem tidy_any (kj : JB w p inter bl bo rv h) (tp : T p = 1) (k : LinesR w T bl inter F pcs) (out : ∀ i, w.heap.size ≤ i → T i = 0) (hh : Jo.sizeP pcs ≤ h) (hz : h ≤ 2000000000) {g : Gk} {b : Nat} (hFb : F g = some b) (hd : grpX.dom g) :
    Calls Try.prog 35 #[jptr p, gkV g] w (TidyDone w T p inter bl bo rv h pcs g) := by
  obtain ⟨W1, hW1⟩ : ∃ W1, W1 = w.alloc (.cells #[.int .u16 (g.st : Int), .bool g.lo, .int .u32 (g.mid : Int)] 79) := ⟨_, rfl⟩
  obtain ⟨gg, hgg⟩ : ∃ gg, gg = w.heap.size := ⟨_, rfl⟩
  have HBG : Hid (Blk W1 gg 79 #[.int .u16 (g.st : Int), .bool g.lo, .int .u32 (g.mid : Int)]) := by rw [hW1, hgg]; exact Blk.new _ _ _
  have hfn : Fr (fun _ => False) w W1 := by rw [hW1]; exact (Fr.refl _ w).alloc _
  have HK1 : Hid (LinesR W1 T bl inter F pcs) := k.fr hfn (fun _ _ _ h => h) (fun _ _ _ h => h) (fun _ _ => rfl)
  have HJ1 : Hid (JB W1 p inter bl bo rv h) := kj.fr hfn (fun h => h)
  have HF1 : Hid (Fr (fun i => i < w.heap.size ∧ (T i = 2 ∨ i = p)) w W1) := hfn.mono (fun _ _ h => h.elim)
  have c1 := HJ1.out.c1
  have c0 := HJ1.out.c0
  have e0 := HBG.out.cell 0
  have e1 := HBG.out.cell 1
  have e2 := HBG.out.cell 2
  simp only [List.getElem?_toArray, List.getElem?_cons_succ, List.getElem?_cons_zero] at e0 e1 e2
  obtain ⟨hb2, hbne, L, hL1, hL2, hL3⟩ := HK1.out.lns.line g b hFb
  have hlk := HK1.out.look hd
  rw [hFb] at hlk
  simp only [gkV] at hlk ⊢
  have HTB : Hid (T bl = 2) := k.tbl
  have HGG : Hid (w.heap.size ≤ gg) := by unfold Hid; omega
  have HPL : Hid (p < w.heap.size) := Blk.lt kj
  have HBW : Hid (b < w.heap.size) := k.lns.lt hFb
  have HOUT := Lib.hid out
  have HTP := Lib.hid tp
  have HD := Lib.hid hd
  have HFB := Lib.hid hFb
  have HL1 := Lib.hid hL1
  have HL2 := Lib.hid hL2
  have HL3 := Lib.hid hL3
  have HB2 := Lib.hid hb2
  have HBN := Lib.hid hbne
  have hps : Jo.sizeP (atK inter g pcs) ≤ Jo.sizeP pcs := sizeP_filter_le _ _
  have HPS : Hid (Jo.sizeP (atK inter g pcs) ≤ 2000000000) := by unfold Hid; omega
  have HPH : Hid (Jo.sizeP (atK inter g pcs) ≤ h) := by unfold Hid; omega
  have HHZ : Hid (h ≤ 2000000000) := hz
  clear k kj hfn hd hFb hL1 hL2 hL3 hb2 hbne hps hh out tp
  obtain ⟨g1, hg1⟩ : ∃ x, x = g.st := ⟨_, rfl⟩
  obtain ⟨g2, hg2⟩ : ∃ x, x = g.lo := ⟨_, rfl⟩
  obtain ⟨g3, hg3⟩ : ∃ x, x = g.mid := ⟨_, rfl⟩
  rw [← hg1, ← hg2, ← hg3] at hW1 HBG hlk ⊢
  rw [← hg1] at e0
  rw [← hg2] at e1
  rw [← hg3] at e2
  have HGE : Hid (gkV g = .agg #[.int .u16 (g1 : Int), .bool g2, .int .u32 (g3 : Int)]) := by rw [hg1, hg2, hg3]; rfl
  clear hg1 hg2 hg3
  go_enter Try.func35, Try.ntmps35
  go_upto_region 1 with (fail)
  rw [← hW1, ← hgg]
  clear hW1 hgg
  go_quiet (fail)
  obtain ⟨W2, hW2⟩ : ∃ W2, W2 = W1.drewN nq := ⟨_, rfl⟩
  have hf12 : Fr (fun _ => False) W1 W2 := by rw [hW2]; exact (Fr.refl _ W1).drewN nq
  rw [← hW2]
  have HK2 := Lib.hid (HK1.out.fr hf12 (fun _ _ _ h => h) (fun _ _ _ h => h) (fun _ _ => rfl))
  have HJ2 : Hid (JB W2 p inter bl bo rv h) := HJ1.out.fr hf12 (fun h => h)
  have HF2 := Lib.hid (HF1.out.trans hf12 (fun _ _ h => h.elim))
  have HLA2 : Hid (LineAt W2 b L) := HL1.out.fr hf12 (fun h => h)
  have HLB2 : Hid (∀ i x, L i = some x → BodT W2 T x.A x.cp x.m.body ∧ x.m.body ≠ []) := fun i x hx => ⟨(HL3.out i x hx).1.fr hf12 (fun _ _ _ h => h) (fun _ _ => rfl) (HL3.out i x hx).2, (HL3.out i x hx).2⟩
  have HBG2 := Lib.hid (hf12.blk HBG.out (fun h => h))
  have c0 := HJ2.out.c0
  clear hW2 hf12 HK1 HJ1 HF1 HL1 HL3 HBG hlk e0 e1 e2 c1
  cases inter
  · have HLA4 := HLA2
    have HLN4 := HL2
    have HJ4 := HJ2
    have HL4 : Hid (LnsR W2 T bl false F pcs) := HK2.out.lns
    have HM4 : Hid (MapX grpX W2 bl fun g => (F g).map lptr) := HK2.out.map
    have HF4 := HF2
    have HBG4 := HBG2
    obtain ⟨n', hlen, hn'1, hn'2⟩ := MapX.len HLA4.out (t := 83) Try.underlying83 3
    have HEM : Hid (n' = 0 → atK false g pcs = []) := fun h0 => HLN4.out.empty.1 (fun i => by
      have h8 := hn'2.1 h0 i
      cases hx : (L) i with
      | none => rfl
      | some x => rw [hx] at h8; cases h8)
    go_upto_region 4 with (fail)
    skip
    by_cases hn0 : n' = 0
    · subst hn0
      have he0 := HEM.out rfl
      have HST := Lib.hid (HL4.out.strike he0)
      obtain ⟨w5, hdel, hm5, hturn5⟩ := HM4.out.drew.del (t := 72) Try.underlying72 (x := g) HD.out 0
      rw [show grpX.enc g = _ from HGE.out] at hdel
      have c1 := HJ4.out.c1
      have e0 := HBG4.out.cell 0
      have e1 := HBG4.out.cell 1
      have e2 := HBG4.out.cell 2
      simp only [List.getElem?_toArray, List.getElem?_cons_succ, List.getElem?_cons_zero] at e0 e1 e2
      have hfd : Fr (fun i => i = bl) W2 w5 := ((Fr.refl (fun i => i = bl) W2).drew).same ((Fr.of_grown hturn5.grown).mono (fun i hi e => by injection e))
      have HFD := Lib.hid hfd
      have HM5 := Lib.hid hm5
      clear hm5 hturn5 hfd he0
      go_upto_region 5 with (fail)
      go_region
      go_wp2_with fail
      go_end0
      refine ⟨fun z => if z = g then none else F z, rfl, ⟨HTB.out, ?_, HST.out.fr HFD.out (fun i _ _ hne e => hne e) (fun i _ h5 e => by rw [show i = bl from e, HTB.out] at h5; cases h5) (fun _ _ => rfl)⟩, HJ4.out.fr HFD.out (fun e => by have h3 := HTP.out; rw [show p = bl from e, HTB.out] at h3; cases h3), HF4.out.trans HFD.out (fun i hi e => ⟨hi, .inl (by rw [show i = bl from e]; exact HTB.out)⟩)⟩
      exact HM5.out.as_ (fun y => by unfold delF; by_cases e : y = g <;> simp [e])
    · have hn1 : ¬ ((n' : Int) = 0) := by omega
      go_wp2_with fail
      go_end0
      exact ⟨F, rfl, ⟨HTB.out, HM4.out, HL4.out⟩, HJ4.out, HF4.out⟩
  · obtain ⟨n, hn⟩ : ∃ n, n = Jo.sizeP (atK true g pcs) := ⟨_, rfl⟩
    have hfil : (atK true g pcs).filter (fun _ => true) = atK true g pcs := List.filter_eq_self.2 (fun _ _ => rfl)
    have HN : Hid (n = Jo.sizeP ((atK true g pcs).filter fun _ => true)) := by rw [hfil]; exact hn
    have h1n : n ≤ h := by rw [hn]; exact HPH.out
    have hz2 := HHZ.out
    have hsub : (h : Int) - (n : Int) = ((h - n : Nat) : Int) := by omega
    obtain ⟨h2, hh2⟩ : ∃ h2, h2 = h - n := ⟨_, rfl⟩
    rw [← hh2] at hsub
    have hwr : IntKind.i64.wrap (h2 : Int) = (h2 : Int) := IntWalk.i64_in _ (by omega)
    have HNN := Lib.hid hn
    have HH2 := Lib.hid hh2
    clear hn hh2 hfil
    have HC4 : Hid (∀ V m, DrS W2.drew b (lineF (idxP true) (atK true g pcs) (fun _ => true) L fun _ => false) m V → JB V p true bl bo rv h) := fun V m hS => JB.fr (w := W2.drew) HJ2.out hS.2.2 (fun e => by have h3 := HTP.out; rw [e] at h3; rw [HB2.out] at h3; cases h3)
    have HRO : Hid (∀ V, RuleOk V b 61 #[] (idxP true) (atK true g pcs) (fun _ => true)) := fun V W z v hW hz' => alltrue_any _ _ W
    go_upto_region 3 with (fail)
    refine wp_region_stage_tail 7 (fun _ _ _ => True) (DrS W2.drew b (lineF (idxP true) (atK true g pcs) (fun _ => true) L fun _ => false)) [(false, .exact (.pointer (some ⟨p, 0, none⟩))),
        (false, .exact (.pointer (some ⟨p, 0, none⟩))),
        (false, .exact (.pointer (some ⟨p, 4, none⟩))),
        (false, .exact (.int .i64 (h : Int))),
        (false, .exact (.map (some b))),
        (true, .exact (.int .i64 (n : Int))),
        (false, .exact (.int .i64 (h2 : Int)))] (by kernel_rfl) (by kernel_rfl) (by kernel_rfl) rfl (of_decide_eq_true (by kernel_rfl)) (by kernel_rfl) (by kernel_rfl) ?lasts ?start ?walk
    case lasts => exact trivial
    case start => exact ⟨fun _ => Fr.refl _ _, fun e => absurd e (by omega), Fr.refl _ _⟩
    case walk =>
      simp only [List.take_succ_cons, List.take_zero, List.drop_succ_cons, List.drop_zero]
      refine stageT_pure rfl (fun _ _ => trivial) (fun V m hS hl => by go_simp) ?_
      simp only [Act.put, List.setIfInBounds_toArray, List.set_cons_zero, List.set_cons_succ, List.cons_append, List.nil_append]
      refine stageT_pure rfl (fun _ _ => trivial) (fun V m hS hl => by go_simp) ?_
      simp only [Act.put, List.setIfInBounds_toArray, List.set_cons_zero, List.set_cons_succ, List.cons_append, List.nil_append]
      refine stageT_pure rfl (fun _ _ => trivial) (fun V m hS hl => by go_simp) ?_
      simp only [Act.put, List.setIfInBounds_toArray, List.set_cons_zero, List.set_cons_succ, List.cons_append, List.nil_append]
      refine stageT_pure rfl (fun _ _ => trivial) (fun V m hS hl => by
          have hc := (HC4.out V m hS).c4
          go_simp) ?_
      simp only [Act.put, List.setIfInBounds_toArray, List.set_cons_zero, List.set_cons_succ, List.cons_append, List.nil_append]
      refine stageT_pure rfl (fun _ _ => trivial) (fun V m hS hl => by go_simp) ?_
      simp only [Act.put, List.setIfInBounds_toArray, List.set_cons_zero, List.set_cons_succ, List.cons_append, List.nil_append]
      refine stageT_move rfl (fun V hS hl => by
          go_simp
          refine (ldrop_any (show LineAt V b L from (show LineAt W2.drew b L from HLA2.out.fr ((Fr.refl (fun _ => False) W2).drew) (fun h => h)).fr (hS.1 rfl) (fun h => h)) HL2.out HPS.out alltrue_enters (HRO.out V)).mono ?_
          rintro e V' ⟨rfl, h5, h6⟩
          rw [← HN.out]
          exact ⟨_, rfl, rfl, ⟨fun e => absurd e (by omega), fun _ => h5.out, hS.2.2.same h6.out⟩⟩) ?_
      simp only [Act.put, List.setIfInBounds_toArray, List.set_cons_zero, List.set_cons_succ, List.cons_append, List.nil_append]
      refine stageT_pure rfl (fun _ _ => trivial) (fun V m hS hl => by go_simp) ?_
      simp only [Act.put, List.setIfInBounds_toArray, List.set_cons_zero, List.set_cons_succ, List.cons_append, List.nil_append]
      refine stageT_nil (fun V2 hS hF => ?_)
      have hjb := HC4.out V2 _ hS
      have c4 := hjb.c4
      have f4 := Blk.frozen hjb 4
      have hla := hS.2.1 (Nat.le_refl _)
      have hfb : Fr (fun i => i = b) W2 V2 := ((Fr.refl (fun i => i = b) W2).drew).same hS.2.2
      clear hF hS
      obtain ⟨W4, hW4⟩ : ∃ W4, W4 = V2.setCell ⟨p, 4, none⟩ (.int .i64 (h2 : Int)) := ⟨_, rfl⟩
      have hfp : Fr (fun i => i = p) V2 W4 := by rw [hW4]; exact (Fr.refl (fun i => i = p) V2).setCell (p := ⟨p, 4, none⟩) (.inl rfl) _
      have hT1 : ∀ i, T i = 2 ∨ T i = 5 → ¬ i = p := fun i e e' => by rw [e', HTP.out] at e; rcases e with e | e <;> cases e
      have HJ4 : Hid (JB W4 p true bl bo rv (h - Jo.sizeP (atK true g pcs))) := by rw [← HNN.out, ← HH2.out, hW4]; exact hjb.held h2
      have hln : LnsR V2 T bl true F (dropK true g (fun _ => true) pcs) := HK2.out.lns.drop1 HFB.out HL2.out HLB2.out hla hfb
      have HL4 : Hid (LnsR W4 T bl true F (dropK true g (fun _ => true) pcs)) := hln.fr hfp (fun i hi e _ => hT1 i (.inl e)) (fun i hi e => hT1 i (.inr e)) (fun _ _ => rfl)
      have HLA4 : Hid (LineAt W4 b (lineF (idxP true) (atK true g pcs) (fun _ => true) L fun _ => false)) := hla.fr hfp (hT1 b (.inl HB2.out))
      have HM4 : Hid (MapX grpX W4 bl fun g => (F g).map lptr) := (HK2.out.map.fr hfb (fun e => HBN.out e.symm)).fr hfp (hT1 bl (.inl HTB.out))
      have HF4 : Hid (Fr (fun i => i < w.heap.size ∧ (T i = 2 ∨ i = p)) w W4) := (HF2.out.trans hfb (fun i hi e => ⟨hi, .inl (by rw [show i = b from e]; exact HB2.out)⟩)).trans hfp (fun i hi e => ⟨hi, .inr e⟩)
      have HBG4 : Hid (Blk W4 gg 79 #[.int .u16 (g1 : Int), .bool g2, .int .u32 (g3 : Int)]) := hfp.blk (hfb.blk HBG2.out (fun e => by have h3 := HGG.out; have h4 := HBW.out; omega)) (fun e => by have h3 := HGG.out; have h4 := HPL.out; omega)
      have HLN4 : Hid (LnOf (idxP true) (lineF (idxP true) (atK true g pcs) (fun _ => true) L fun _ => false) (atK true g (dropK true g (fun _ => true) pcs))) := by rw [dropK_at]; exact HL2.out.dropped _
      obtain ⟨n', hlen, hn'1, hn'2⟩ := MapX.len HLA4.out (t := 83) Try.underlying83 3
      have HEM : Hid (n' = 0 → atK true g (dropK true g (fun _ => true) pcs) = []) := fun h0 => HLN4.out.empty.1 (fun i => by
        have h8 := hn'2.1 h0 i
        cases hx : (lineF (idxP true) (atK true g pcs) (fun _ => true) L fun _ => false) i with
        | none => rfl
        | some x => rw [hx] at h8; cases h8)
      go_upto_region 4 with (fail)
      rw [← hW4]
      clear hW4 hjb c4 f4 hla hfb hfp hln hT1 hsub hwr
      by_cases hn0 : n' = 0
      · subst hn0
        have he0 := HEM.out rfl
        have HST := Lib.hid (HL4.out.strike he0)
        obtain ⟨w5, hdel, hm5, hturn5⟩ := HM4.out.drew.del (t := 72) Try.underlying72 (x := g) HD.out 0
        rw [show grpX.enc g = _ from HGE.out] at hdel
        have c1 := HJ4.out.c1
        have e0 := HBG4.out.cell 0
        have e1 := HBG4.out.cell 1
        have e2 := HBG4.out.cell 2
        simp only [List.getElem?_toArray, List.getElem?_cons_succ, List.getElem?_cons_zero] at e0 e1 e2
        have hfd : Fr (fun i => i = bl) W4 w5 := ((Fr.refl (fun i => i = bl) W4).drew).same ((Fr.of_grown hturn5.grown).mono (fun i hi e => by injection e))
        have HFD := Lib.hid hfd
        have HM5 := Lib.hid hm5
        clear hm5 hturn5 hfd he0
        go_upto_region 5 with (fail)
        go_region
        go_wp2_with fail
        go_end0
        refine ⟨fun z => if z = g then none else F z, rfl, ⟨HTB.out, ?_, HST.out.fr HFD.out (fun i _ _ hne e => hne e) (fun i _ h5 e => by rw [show i = bl from e, HTB.out] at h5; cases h5) (fun _ _ => rfl)⟩, HJ4.out.fr HFD.out (fun e => by have h3 := HTP.out; rw [show p = bl from e, HTB.out] at h3; cases h3), HF4.out.trans HFD.out (fun i hi e => ⟨hi, .inl (by rw [show i = bl from e]; exact HTB.out)⟩)⟩
        exact HM5.out.as_ (fun y => by unfold delF; by_cases e : y = g <;> simp [e])
      · have hn1 : ¬ ((n' : Int) = 0) := by omega
        go_wp2_with fail
        go_end0
        exact ⟨F, rfl, ⟨HTB.out, HM4.out, HL4.out⟩, HJ4.out, HF4.out⟩
end
end Go.Proofs.Ytioddokjogbmnaa.Chk

set_option linter.unusedVariables false
set_option linter.unusedSimpArgs false
set_option maxRecDepth 20000
namespace Go.Proofs.Ytioddokjogbmnaa.Chk
open Go.ChangeShapes Go.WideShapes Go.ChangeAt Go.RowKit Go.Deep Go.Maps Go.Proofs.Ytioddokjogbmnaa.Words Go.Proofs.Ytioddokjogbmnaa.Oct Go.Proofs.Ytioddokjogbmnaa.Par Go.Proofs.Ytioddokjogbmnaa.Mx
def cmpN (a b : Nat) : Int := if a < b then -1 else if b < a then 1 else 0
theorem isnan_any (x : Nat) (w : World) : Calls Try.prog 82 #[.int .u32 (x : Int)] w fun e w' => e = .returned (.bool false) ∧ w = w' := by
  go_enter Try.func82, Try.ntmps82
  go_wp2
  go_ret
  exact ⟨rfl, rfl⟩
set_option maxHeartbeats 1000000 in
theorem compare_any (a b : Nat) (w : World) : Calls Try.prog 66 #[.int .u32 (a : Int), .int .u32 (b : Int)] w fun e w' => e = .returned (.int .i64 (cmpN a b)) ∧ w = w' := by
  obtain ⟨c, hc⟩ : ∃ c, c = cmpN a b := ⟨_, rfl⟩
  rw [← hc]
  have HC := Lib.hid hc
  clear hc
  rcases Nat.lt_trichotomy a b with h | h | h
  · have h1 : (a : Int) < (b : Int) := by omega
    go_enter Try.func66, Try.ntmps66
    go_wp2_with (go_at_call 82; refine (isnan_any _ _).mono ?_; rintro e w' ⟨rfl, rfl⟩)
    go_ret
    exact ⟨ret_int (by rw [HC.out]; unfold cmpN; rw [if_pos h]), rfl⟩
  · subst h
    go_enter Try.func66, Try.ntmps66
    go_wp2_with (go_at_call 82; refine (isnan_any _ _).mono ?_; rintro e w' ⟨rfl, rfl⟩)
    go_ret
    exact ⟨ret_int (by rw [HC.out]; unfold cmpN; simp), rfl⟩
  · have h1 : (b : Int) < (a : Int) := by omega
    have h2 : ¬ (a : Int) < (b : Int) := by omega
    go_enter Try.func66, Try.ntmps66
    go_wp2_with (go_at_call 82; refine (isnan_any _ _).mono ?_; rintro e w' ⟨rfl, rfl⟩)
    go_ret
    exact ⟨ret_int (by rw [HC.out]; unfold cmpN; rw [if_neg (by omega), if_pos h]), rfl⟩
def distM (inter : Bool) (nx x : Nat) : Nat := midN inter ((x + 4294967296 - nx) % 4294967296)
set_option maxHeartbeats 2000000 in
theorem leap1_any {w : World} {p b gj go nx : Nat} {inter : Bool} (cj : w.cell? ⟨gj, 0, none⟩ = some (jptr p)) (co : w.cell? ⟨go, 0, none⟩ = some (optr b)) (c0 : w.cell? ⟨p, 0, none⟩ = some (.bool inter)) (cb : w.cell? ⟨b, 0, none⟩ = some (.int .u32 (nx : Int))) (hn : nx < 4294967296) {x y : Nat} (hx : x < 4294967296) (hy : y < 4294967296) :
    Calls Try.prog 65 #[.int .u32 (x : Int), .int .u32 (y : Int), .pointer (some ⟨gj, 0, none⟩), .pointer (some ⟨go, 0, none⟩)] w fun e w' => e = .returned (.int .i64 (cmpN (distM inter nx x) (distM inter nx y))) ∧ ∃ q, w' = w.drewN q := by
  obtain ⟨dx, hdx⟩ : ∃ d, d = (x + 4294967296 - nx) % 4294967296 := ⟨_, rfl⟩
  obtain ⟨dy, hdy⟩ : ∃ d, d = (y + 4294967296 - nx) % 4294967296 := ⟨_, rfl⟩
  have hdx2 : dx < 4294967296 := by omega
  have hdy2 : dy < 4294967296 := by omega
  have k1 := fun n => dist_any nx x (w.drewN n) hn hx
  have k2 := fun n => dist_any nx y (w.drewN n) hn hy
  have k3 := fun n => number_any (w := w.drewN n) (inter := inter) c0 hdx2
  have k4 := fun n => number_any (w := w.drewN n) (inter := inter) c0 hdy2
  unfold distM
  rw [← hdx, ← hdy]
  simp only [← hdx] at k1
  simp only [← hdy] at k2
  obtain ⟨mx, hmx⟩ : ∃ m, m = midN inter dx := ⟨_, rfl⟩
  obtain ⟨my, hmy⟩ : ∃ m, m = midN inter dy := ⟨_, rfl⟩
  simp only [← hmx] at k3 ⊢
  simp only [← hmy] at k4 ⊢
  have k5 := fun n => compare_any mx my (w.drewN n)
  obtain ⟨c, hc⟩ : ∃ c, c = cmpN mx my := ⟨_, rfl⟩
  simp only [← hc] at k5 ⊢
  clear hdx hdy hdx2 hdy2 hmx hmy hc hn hx hy
  go_enter Try.func65, Try.ntmps65
  go_upto_region 1 with (fail)
  go_quiet (first
    | (with_reducible refine Calls.mono (k1 _) ?_; rintro e w' ⟨rfl, rfl⟩; exact ⟨rfl, _, rfl⟩)
    | (with_reducible refine Calls.mono (k2 _) ?_; rintro e w' ⟨rfl, rfl⟩; exact ⟨rfl, _, rfl⟩)
    | (with_reducible refine Calls.mono (k3 _) ?_; rintro e w' ⟨rfl, rfl⟩; exact ⟨rfl, _, rfl⟩)
    | (with_reducible refine Calls.mono (k4 _) ?_; rintro e w' ⟨rfl, rfl⟩; exact ⟨rfl, _, rfl⟩)
    | (with_reducible refine Calls.mono (k5 _) ?_; rintro e w' ⟨rfl, rfl⟩; exact ⟨rfl, _, rfl⟩))
  go_wp2_with fail
  go_ret
  exact ⟨rfl, _, rfl⟩
end Go.Proofs.Ytioddokjogbmnaa.Chk

set_option linter.unusedVariables false
set_option linter.unusedSimpArgs false
set_option maxRecDepth 20000
namespace Go.Proofs.Ytioddokjogbmnaa.Chk
open Go.ChangeShapes Go.WideShapes Go.ChangeAt Go.RowKit Go.Deep Go.Maps Go.Proofs.Ytioddokjogbmnaa.Words Go.Proofs.Ytioddokjogbmnaa.Oct Go.Proofs.Ytioddokjogbmnaa.Par Go.Proofs.Ytioddokjogbmnaa.Mx
abbrev enc32 (x : UInt32) : Value := .int .u32 (x.toNat : Int)
def cfM (inter : Bool) (nx : Nat) (x y : UInt32) : Int := cmpN (distM inter nx x.toNat) (distM inter nx y.toNat)
theorem cfM_lt (inter : Bool) (nx : Nat) (x y : UInt32) : ltOf (cfM inter nx) x y = decide (distM inter nx x.toNat < distM inter nx y.toNat) := by
  unfold ltOf cfM cmpN
  by_cases h1 : distM inter nx x.toNat < distM inter nx y.toNat
  · simp [h1]
  · by_cases h2 : distM inter nx y.toNat < distM inter nx x.toNat <;> simp [h1, h2]
theorem cfM_swo (inter : Bool) (nx : Nat) : Go.Sort.SWO (ltOf (cfM inter nx)) where
  irrefl x := by rw [cfM_lt]; simp
  trans x y z h1 h2 := by rw [cfM_lt] at *; simp at *; omega
  ntrans x y z h1 h2 := by rw [cfM_lt] at *; simp at *; omega
theorem fr_sort {w : World} {g k : Nat} {d : Array UInt32} {os : Array Obj} : Fr (fun i => i = g) w (sortWorld enc32 w g 0 k d os) := by
  refine ⟨rfl, rfl, rfl, by simp [sortWorld], fun i hi hne => ?_⟩
  unfold sortWorld
  rw [Go.Sort.heap_grow_old _ _ (by simpa using hi)]
  have : ¬ g = i := fun e => hne e.symm
  simp [Go.Sort.putRow, Go.Sort.mapBlock, Go.Sort.ahead, Array.getElem?_modify, this]
theorem leap1_enters : ∀ args W, (callFunc 65 args).run Try.prog W = .ok (.enter 65 args) W := enters_of Try.func65 (by kernel_rfl) rfl
def n32V (ys : List Nat) : List Value := ys.map fun (y : Nat) => Value.int .u32 (y : Int)
theorem toNat32 {y : Nat} (h : y < 4294967296) : (UInt32.ofNat y).toNat = y := by simp [UInt32.toNat_ofNat']; omega
/-- What sorting leaves. -/
def SortDone (w : World) (base : Nat) (v : Value) (n nx : Nat) (inter : Bool) (ys : List Nat) (e : Ending) (w' : World) : Prop :=
  ∃ (zs : List Nat) (A : Option Addr) (c : Nat), e = .returned (.tuple #[]) ∧ v = .slice A n c ∧ n ≤ c ∧ zs.Perm ys ∧ zs.Pairwise (fun a b => distM inter nx a ≤ distM inter nx b) ∧ Reads w' w'.heap.size 1 A n (n32V zs) ∧ Below base w w' ∧ ∀ ad, A = some ad → base ≤ ad.block
set_option maxHeartbeats 1000000 in
theorem sort_row {w : World} {base n nx p b gj go : Nat} {inter : Bool} {v : Value} {ys : List Nat} (hown : w.ownsRow base 33 1 v n (n32V ys)) (hb : base ≤ w.heap.size) (hy : ∀ y ∈ ys, y < 4294967296) (hz : n ≤ 2000000001)
    (cj : w.cell? ⟨gj, 0, none⟩ = some (jptr p)) (co : w.cell? ⟨go, 0, none⟩ = some (optr b)) (c0 : w.cell? ⟨p, 0, none⟩ = some (.bool inter)) (cb : w.cell? ⟨b, 0, none⟩ = some (.int .u32 (nx : Int))) (hn : nx < 4294967296)
    (l1 : gj < base) (l2 : go < base) (l3 : p < base) (l4 : b < base) :
    Calls Try.prog 64 #[v, .func (.func 65) #[] #[.pointer (some ⟨gj, 0, none⟩), .pointer (some ⟨go, 0, none⟩)]] w (SortDone w base v n nx inter ys) := by
  obtain ⟨hlen, h⟩ := hown
  have hl : ys.length = n := by simpa [n32V] using hlen
  rcases Nat.eq_zero_or_pos n with h0 | hpos
  · subst h0
    have hys : ys = [] := List.eq_nil_of_length_eq_zero hl
    subst hys
    obtain ⟨A, c, rfl, hA⟩ : ∃ A c, v = .slice A 0 c ∧ ∀ ad, A = some ad → base ≤ ad.block := by
      rcases h with ⟨rfl, _⟩ | ⟨g, cap, cur, rfl, hg, _⟩
      · exact ⟨none, 0, rfl, fun ad e => by cases e⟩
      · exact ⟨_, cap, rfl, fun ad e => by injection e with e; rw [← e]; exact hg⟩
    have hS := AnyF.slices_SortFunc_none (P := Try.prog) (ρ := Try.sortL_ren) { Try.sortL with } A c (.func (.func 65) #[] #[.pointer (some ⟨gj, 0, none⟩), .pointer (some ⟨go, 0, none⟩)]) w
    change Calls Try.prog 64 _ _ _ at hS
    refine hS.mono ?_
    rintro e w' ⟨rfl, rfl⟩
    exact ⟨[], A, c, rfl, rfl, Nat.zero_le _, List.Perm.refl _, List.Pairwise.nil, ⟨rfl, fun h => absurd h (by omega)⟩, Below.refl _ _, hA⟩
  · rcases h with ⟨_, h⟩ | ⟨g, cap, cur, rfl, hg, hblk, hnc, hcm, hcs, htk⟩
    · omega
    · obtain ⟨d, hd⟩ : ∃ d : Array UInt32, d = (ys.map UInt32.ofNat).toArray := ⟨_, rfl⟩
      have hds : d.size = n := by rw [hd]; simpa using hl
      have hB : Blk w g 33 cur := hblk
      have hdj : ∀ j, (hj : j < ys.length) → d[j]! = UInt32.ofNat ys[j] := fun j hj => by rw [hd]; simp [hj]
      have hH : Go.Sort.Holds enc32 w g 0 d := fun j hj => by
        have hj' : j < ys.length := by omega
        refine ⟨?_, hB.frozen (0 + j)⟩
        have h1 := hB.cell (0 + j)
        rw [h1, hdj j hj', Nat.zero_add]
        have h2 : (cur.toList.take (n * 1))[j]? = (n32V ys)[j]? := by rw [htk]
        rw [List.getElem?_take_of_lt (by omega), Array.getElem?_toList] at h2
        rw [h2]
        unfold n32V
        rw [List.getElem?_map, List.getElem?_eq_getElem hj', Option.map_some]
        show some _ = some (Value.int .u32 _)
        rw [toNat32 (hy _ (List.getElem_mem hj'))]
      have hlt := hB.lt
      have hcmp : CmpReads Try.prog 65 #[.pointer (some ⟨gj, 0, none⟩), .pointer (some ⟨go, 0, none⟩)] enc32 (cfM inter nx) g 0 d.size w := fun m os dk hs x y => by
        have hf : Fr (fun i => i = g) w (sortWorld enc32 w g 0 m dk os) := fr_sort
        have hc : ∀ i u, i < base → w.cell? ⟨i, 0, none⟩ = some u → (sortWorld enc32 w g 0 m dk os).cell? ⟨i, 0, none⟩ = some u := fun i u hi hu => by
          rw [World.cell?_of_block (hf.block i (by omega) (by omega))]; exact hu
        exact leap1_any (hc gj _ l1 cj) (hc go _ l2 co) (hc p _ l3 c0) (hc b _ l4 cb) hn x.toNat_lt y.toNat_lt
      have hS := Any.slices_SortFunc Try.sortL enc32 (fun _ => rfl) (cfM inter nx) (cfM_swo inter nx) 65 #[.pointer (some ⟨gj, 0, none⟩), .pointer (some ⟨go, 0, none⟩)] g 0 cap d w leap1_enters hcmp.lays hH hlt (by omega)
      change Calls Try.prog 64 _ _ _ at hS
      rw [hds] at hS
      refine hS.mono ?_
      rintro e w' ⟨rfl, d', k, os, ⟨p1, p2, p3⟩, hso, rfl⟩
      have hds' : d'.size = n := p1.trans hds
      have hH' := holds_sortWorld enc32 w g 0 k d d' os hlt hH p1
      have hff : Fr (fun i => i = g) w (sortWorld enc32 w g 0 k d' os) := fr_sort
      refine ⟨d'.toList.map UInt32.toNat, _, cap, rfl, rfl, hnc, ?_, ?_, ⟨by simp [n32V]; omega, fun _ => ⟨_, rfl, lt_sortWorld enc32 w g 0 k d' os hlt, fun j u hu => ?_⟩⟩, hff.to_below hb (fun i e => by rw [show i = g from e]; exact hg), fun ad e => by injection e with e; rw [← e]; exact hg⟩
      · have h1 : d'.toList.Perm d.toList := by
          have h2 := p3
          rw [Array.toList_extract, Array.toList_extract, List.extract_eq_take_drop, List.extract_eq_take_drop] at h2
          simp only [List.drop_zero, Nat.sub_zero] at h2
          rw [List.take_of_length_le (by simp; omega), List.take_of_length_le (by simp; omega)] at h2
          exact h2
        have h3 := h1.map UInt32.toNat
        have h4 : d.toList.map UInt32.toNat = ys := by
          rw [hd]
          simp only [List.map_map]
          conv => rhs; rw [← List.map_id ys]
          exact List.map_congr_left (fun y hy' => toNat32 (hy y hy'))
        rw [h4] at h3
        exact h3
      · rw [List.pairwise_map, List.pairwise_iff_getElem]
        intro i j hi hj hij
        have hi' : i < d'.size := by simpa using hi
        have hj' : j < d'.size := by simpa using hj
        have h1 := hso i j (Nat.zero_le _) hij (by omega)
        rw [cfM_lt] at h1
        simp only [decide_eq_false_iff_not, Nat.not_lt] at h1
        rw [getElem!_pos d' i hi', getElem!_pos d' j hj'] at h1
        simpa using h1
      · have hj : j < d'.size := by
          have := (List.getElem?_eq_some_iff.1 hu).1
          simpa [n32V] using this
        have h1 := (hH' j hj).1
        rw [Nat.zero_add] at h1
        rw [cell_add0, h1, ← hu]
        unfold n32V
        rw [getElem!_pos d' j hj]
        simp [hj]
end Go.Proofs.Ytioddokjogbmnaa.Chk

set_option linter.unusedVariables false
set_option linter.unusedSimpArgs false
set_option maxRecDepth 20000
namespace Go.Proofs.Ytioddokjogbmnaa.Chk
open Go.ChangeShapes Go.WideShapes Go.ChangeAt Go.RowKit Go.Deep Go.Maps Go.Proofs.Ytioddokjogbmnaa.Words Go.Proofs.Ytioddokjogbmnaa.Oct Go.Proofs.Ytioddokjogbmnaa.Par Go.Proofs.Ytioddokjogbmnaa.Mx
section
variable {w w' : World} {T T' : Nat → Nat} {p bl bo h : Nat} {inter : Bool} {rv : Value} {xs : List Mg} {Om : Nat → Option Nat} {Wb next : Nat → Nat} {wait wait' : List Jo.Ms} {S : Nat → Prop}
theorem distM_inj {nx x y : Nat} (hn : MidOk inter nx) (hx : MidOk inter x) (hy : MidOk inter y) (h : distM inter nx x = distM inter nx y) : x = y := by
  unfold distM midN at h
  unfold MidOk Jo.modN at hn hx hy
  cases inter
  · simp at h hn hx hy; omega
  · simp at h hn hx hy; omega
def LeapDone (w : World) (T : Nat → Nat) (p : Nat) (inter : Bool) (bl bo h : Nat) (xs : List Mg) (Om : Nat → Option Nat) (Wb next : Nat → Nat) (wait : List Jo.Ms) (st mid : Nat) (e : Ending) (w' : World) : Prop :=
  ∃ T' rv' xs' wait' nx' ms w1, e = .returned (.tuple #[]) ∧ wait.Perm (ms.map (fun x : Mg => msOf x.m) ++ w1) ∧ (∀ x ∈ ms, x.m.st = st ∧ reachB inter mid x.m.mid = true) ∧ (∀ m ∈ w1, m.st = st → reachB inter mid m.mid = false) ∧
    ms.Pairwise (fun a b => distM inter (next st) a.m.mid < distM inter (next st) b.m.mid) ∧ AdvR inter st (midN inter ((mid + 1) % 4294967296)) (xs ++ ms) xs' w1 wait' nx' ∧ waitB wait' st nx' = false ∧
    JO w' T' p inter bl bo rv' h xs' Om Wb (setN next st nx') wait' ∧ Fr (ownS w T) w w' ∧ Ext w w' T T'
/-- What the first loop has gathered. -/
structure GathR (W1 wr : World) (wb q base : Nat) (W : Nat → Option Mg) (inter : Bool) (mid : Nat) (left : Nat → Bool) (cnt : Nat) (ys : List Nat) (v : Value) (n : Nat) : Prop where
  rg : RangeX u32X wr wb q (fun i => (W i).map mgV) left cnt
  own : wr.ownsRow base 33 1 v n (n32V ys)
  nd : ys.Nodup
  mem : ∀ y, y ∈ ys ↔ ((W y).isSome = true ∧ left y = false ∧ reachB inter mid y = true)
  fr : Fr (fun i => i = q) W1 wr
/-- What the second loop has let go. -/
structure LeapR (w2 wr : World) (T : Nat → Nat) (p : Nat) (inter : Bool) (bl bo h : Nat) (xs : List Mg) (Om : Nat → Option Nat) (Wb next : Nat → Nat) (wait : List Jo.Ms) (st : Nat) (zs : List Nat) (kk : Nat) (T1 : Nat → Nat) (rv1 : Value) (ms : List Mg) (wait1 : List Jo.Ms) : Prop where
  jo : JO wr T1 p inter bl bo rv1 h (xs ++ ms) Om Wb next wait1
  perm : wait.Perm (ms.map (fun x : Mg => msOf x.m) ++ wait1)
  mids : ms.map (fun x : Mg => x.m.mid) = zs.take kk
  sts : ∀ x ∈ ms, x.m.st = st
  fr : Fr (ownS w2 T) w2 wr
  ext : Ext w2 wr T T1
set_option maxHeartbeats 8000000 in
theorem leap_any (k : JO w T p inter bl bo rv h xs Om Wb next wait) (hxl : xs.length + wait.length ≤ 2000000000) {st b mid : Nat} (ho : Om st = some b) (hm : MidOk inter mid) :
    Calls Try.prog 41 #[jptr p, optr b, .int .u32 (mid : Int)] w (LeapDone w T p inter bl bo h xs Om Wb next wait st mid) := by
  obtain ⟨W0, hW0⟩ : ∃ W0, W0 = (w.alloc (.cells #[jptr p] 28)).alloc (.cells #[optr b] 98) := ⟨_, rfl⟩
  obtain ⟨gj, hgj⟩ : ∃ gj, gj = w.heap.size := ⟨_, rfl⟩
  obtain ⟨go, hgo⟩ : ∃ go, go = w.heap.size + 1 := ⟨_, rfl⟩
  have HB0 : Hid (Below w.heap.size w W0) := by rw [hW0]; exact below_two w _ _
  have HK0 := Lib.hid (k.grows HB0.out)
  have HBJ : Hid (Blk W0 gj 28 #[jptr p]) := by rw [hW0, hgj]; exact (Blk.new w _ _).alloc _
  have HBO : Hid (Blk W0 go 98 #[optr b]) := by
    have := Blk.new (w.alloc (.cells #[jptr p] 28)) 98 #[optr b]
    rw [World.size_alloc] at this
    rw [hW0, hgo]; exact this
  obtain ⟨W, hW1, hW2, hW3⟩ := (HK0.out.ord.ord st b ho).ws
  obtain ⟨w1, cnt, hrun, hrg, hgr, hsz⟩ := MapX.range hW1 (t := 105) Try.underlying105
  have hs0 : W0.heap.size = w.heap.size + 2 := by rw [hW0]; simp
  obtain ⟨q, hq⟩ : ∃ q, q = W0.heap.size := ⟨_, rfl⟩
  rw [← hq] at hrg hrun
  have cb := (HK0.out.ord.ord st b ho).blk.cell 1
  simp only [List.getElem?_toArray, List.getElem?_cons_succ, List.getElem?_cons_zero] at cb
  have cj := HBJ.out.cell 0
  have co := HBO.out.cell 0
  simp only [List.getElem?_toArray, List.getElem?_cons_succ, List.getElem?_cons_zero] at cj co
  obtain ⟨wb, hwb⟩ : ∃ wb, wb = Wb st := ⟨_, rfl⟩
  rw [← hwb] at cb hrun hrg
  have hf01 : Fr (fun _ => False) W0 w1 := (Fr.refl _ W0).grown hgr (fun g hg => by cases hg)
  obtain ⟨base, hbase⟩ : ∃ base, base = w1.heap.size := ⟨_, rfl⟩
  have HL : Hid (w.heap.size ≤ gj ∧ gj < q ∧ w.heap.size ≤ go ∧ go < q ∧ q < base ∧ w.heap.size ≤ q) := by
    have := hsz
    unfold Hid
    refine ⟨by omega, by omega, by omega, by omega, ?_, by omega⟩
    have := hrg.lt
    omega
  have HG0 : Hid (GathR w1 w1 wb q base W inter mid (fun i => (W i).isSome) cnt [] (.slice none 0 0) 0) := ⟨hrg.as_ (fun i => by show ((W i).map mgV).isSome = _; cases W i <;> rfl), World.ownsRow_nil _ _ _ _, List.nodup_nil, fun y => (by
    constructor
    · intro hy; simp at hy
    · rintro ⟨h1, h2, _⟩
      rw [h1] at h2; cases h2), Fr.refl _ _⟩
  have HK1 := Lib.hid (HK0.out.fr hf01 (fun _ _ _ h => h) (Ext.same HK0.out.out hf01.size))
  have HBJ1 := Lib.hid (hf01.blk HBJ.out (fun h => h))
  have HBO1 := Lib.hid (hf01.blk HBO.out (fun h => h))
  have HB1 : Hid (Below w.heap.size w w1) := below_fr HB0.out hf01 (Nat.le_refl _) (fun _ h => h.elim)
  have HBASE := Lib.hid hbase
  have HW2 := Lib.hid hW2
  have HW3 := Lib.hid hW3
  have HWB := Lib.hid hwb
  have HO := Lib.hid ho
  have HM := Lib.hid hm
  have HK := Lib.hid k
  have HXL := Lib.hid hxl
  have HW0 := Lib.hid hW0
  have HGJ := Lib.hid hgj
  have HGO := Lib.hid hgo
  obtain ⟨i0, hi0, hz0, hz1, hz2⟩ := info_parts3 u32_info
  clear k ho hm hW1 hW2 hW3 hrg hgr hsz hs0 hq hwb hf01 hbase hgj hgo hxl HB0 HK0 HBJ HBO hW0
  have h32 := small32 HM.out
  go_enter Try.func41, Try.ntmps41
  go_upto_region 2 with (fail)
  rw [← HGO.out, ← HGJ.out, ← HW0.out]
  clear HW0 HGO HGJ
  go_wp2_with fail
  go_loopw [6, 7] (fun v6 _ wr => ∃ (left : Nat → Bool) (cnt : Nat) (ys : List Nat) (n : Nat), Hid (GathR w1 wr wb q base W inter mid left cnt ys v6 n)) (fun _ _ wr => wr.rangeLeft wb q)
  case atStart => exact ⟨_, _, [], 0, HG0⟩
  case round =>
    clear HG0 hrun cb
    obtain ⟨left, cnt, ys, n, HG⟩ := hrel
    have HKR := Lib.hid (HK1.out.fr HG.out.fr (fun i hi e e' => by have := HK.out.out i (by have := HL.out; omega); omega) (Ext.same HK1.out.out HG.out.fr.size))
    have HBJR := Lib.hid (HG.out.fr.blk HBJ1.out (by have := HL.out; omega))
    have HBOR := Lib.hid (HG.out.fr.blk HBO1.out (by have := HL.out; omega))
    have cj := HBJR.out.cell 0
    have co := HBOR.out.cell 0
    simp only [List.getElem?_toArray, List.getElem?_cons_succ, List.getElem?_cons_zero] at cj co
    obtain ⟨A, c, rfl, hnc, hcm⟩ := own_slice HG.out.own
    have hyn : n = ys.length := by have := HG.out.own.1; simpa [n32V] using this.symm
    have hyw : ∀ y ∈ ys, ∃ x, W y = some x ∧ msOf x.m ∈ wait ∧ x.m.st = st ∧ x.m.mid = y ∧ reachB inter mid y = true := fun y hy => by
      obtain ⟨h1, _, h3⟩ := (HG.out.mem y).1 hy
      obtain ⟨x, hx⟩ := Option.isSome_iff_exists.1 h1
      obtain ⟨a1, a2, a3, _⟩ := HW2.out y x hx
      exact ⟨x, hx, a3, a2, a1, h3⟩
    have hnl : n ≤ wait.length := by
      have := nodup_sub_len ys (wait.map (·.mid)) HG.out.nd (fun y hy => by
        obtain ⟨x, _, h1, _, h2, _⟩ := hyw y hy
        exact List.mem_map.2 ⟨_, h1, h2⟩)
      rw [List.length_map] at this
      omega
    have HYW := Lib.hid hyw
    have HYN := Lib.hid hyn
    have hnl2 : n ≤ 2000000000 := by have := HXL.out; omega
    have HNL := Lib.hid hnl
    clear hyw hyn hnl
    rcases HG.out.rg.next 0 with ⟨hall, hrun2⟩ | ⟨i, v, w2, cnt2, hdom, hli, hfi, hrun2, hrg2, hlt2, hgr2, hsz2, hen⟩
    · have HALL := Lib.hid hall
      clear hall
      have hbl1 : b < w.heap.size := HK.out.ord.lt HO.out
      have hpl1 : p < w.heap.size := Blk.lt HK.out.jb
      have cbn := (HKR.out.ord.ord st b HO.out).blk.cell 0
      simp only [List.getElem?_toArray, List.getElem?_cons_zero] at cbn
      have hbs : base ≤ wr.heap.size := by have := HBASE.out; have := HG.out.fr.size; omega
      have hsort := sort_row HG.out.own hbs (fun y hy => by
        obtain ⟨x, _, h1, _, h2, _⟩ := HYW.out y hy
        have := (HK1.out.ord.wok _ h1).2.1
        have h3 := small32 this
        rw [← h2]; exact h3) (by omega) cj co HKR.out.jb.c0 cbn (small32 (HK.out.ord.nx st)) (by have := HL.out; omega) (by have := HL.out; omega) (by have := HL.out; omega) (by have := HL.out; omega)
      go_wp2_with fail
      refine hsort.mono ?_
      clear hsort hrun2
      rintro e w2 ⟨zs, A', c', rfl, hv, _, hperm, hpw, hrd, hblw, hA⟩
      obtain ⟨rfl, rfl⟩ : A = A' ∧ c = c' := by injection hv with h1 _ h3; exact ⟨h1, h3⟩
      have hf12 : Fr (fun i => i = q) w1 w2 := HG.out.fr.below hblw (fun x h1 h2 => by have := HBASE.out; omega)
      have hlz : zs.length = n := by have := hperm.length_eq; have := HYN.out; omega
      have HZN : Hid (zs.Nodup) := hperm.nodup_iff.2 HG.out.nd
      have HZW : Hid (∀ y ∈ zs, ∃ x, W y = some x ∧ msOf x.m ∈ wait ∧ x.m.st = st ∧ x.m.mid = y ∧ reachB inter mid y = true) := fun y hy => HYW.out y (hperm.mem_iff.1 hy)
      have HZA : Hid (∀ m ∈ wait, m.st = st → reachB inter mid m.mid = true → m.mid ∈ zs) := fun m hm hms hr => by
        obtain ⟨x, hx, _⟩ := HW3.out m hm hms
        exact hperm.mem_iff.2 ((HG.out.mem m.mid).2 ⟨by rw [hx]; rfl, HALL.out _, hr⟩)
      have HPW := Lib.hid hpw
      have HRD := Lib.hid hrd
      have HAB := Lib.hid hA
      have HLZ := Lib.hid hlz
      have HK2 := Lib.hid (HK1.out.fr hf12 (fun i hi e e' => by have := HK.out.out i (by have := HL.out; omega); omega) (Ext.same HK1.out.out hf12.size))
      have HBJ2 := Lib.hid (hf12.blk HBJ1.out (by have := HL.out; omega))
      have HBO2 := Lib.hid (hf12.blk HBO1.out (by have := HL.out; omega))
      have HB2 : Hid (Below w.heap.size w w2) := below_fr HB1.out hf12 (Nat.le_refl _) (fun x e => by have := HL.out; omega)
      clear cj co hv hperm hpw hrd hblw hA hf12 hlz HG HKR HBJR HBOR HYW HYN HALL cbn hbs HW3 HBJ1 HBO1 HK1 HB1
      go_wp2_with fail
      go_loopw [9, 32] (fun _ v32 wx => ∃ (kk : Nat) (T1 : Nat → Nat) (rv1 : Value) (ms : List Mg) (wait1 : List Jo.Ms), v32 = .int .i64 (kk : Int) ∧ kk ≤ n ∧ Hid (LeapR w2 wx T p inter bl bo h xs Om Wb next wait st zs kk T1 rv1 ms wait1)) (fun _ v32 _ => n - (intOf v32).toNat)
      case atStart => exact ⟨0, T, rv, [], wait, rfl, Nat.zero_le _, ⟨by rw [List.append_nil]; exact HK2.out, List.Perm.refl _, rfl, fun x hx => by simp at hx, Fr.refl _ _, Ext.refl HK2.out.out⟩⟩
      case round =>
        obtain ⟨kk, T1, rv1, ms, wait1, rfl, hkk, HLR⟩ := hrel
        have hnw : ∀ i, w.heap.size ≤ i → ¬ ownS w2 T i := fun i hi e => by have h1 := HK.out.out i hi; rcases e.2 with e | e | e <;> (rw [h1] at e; cases e)
        have HBJR := Lib.hid (HLR.out.fr.blk HBJ2.out (hnw gj HL.out.1))
        have HBOR := Lib.hid (HLR.out.fr.blk HBO2.out (hnw go (by have := HL.out; omega)))
        have cj := HBJR.out.cell 0
        have co := HBOR.out.cell 0
        simp only [List.getElem?_toArray, List.getElem?_cons_succ, List.getElem?_cons_zero] at cj co
        have hlm : ms.length + wait1.length = wait.length := by have := HLR.out.perm.length_eq; simp at this; omega
        by_cases hlt : kk < n
        · have hkz : kk < zs.length := by have := HLZ.out; omega
          obtain ⟨y, hy⟩ : ∃ y, y = zs[kk] := ⟨_, rfl⟩
          obtain ⟨ad, hA2, hadb, hcell⟩ := HRD.out.2 (by omega)
          subst hA2
          have hrow := hcell kk (.int .u32 (y : Int)) (by unfold n32V; rw [List.getElem?_map, List.getElem?_eq_getElem hkz, ← hy]; rfl)
          have hadw : w.heap.size ≤ ad.block := by have := HAB.out ad rfl; have := HL.out; omega
          have hcw : wr.cell? (ad.add kk) = some (.int .u32 (y : Int)) := by
            have e1 : (ad.add kk).block = ad.block := by unfold Addr.add; split <;> rfl
            rw [World.cell?_of_block (HLR.out.fr.block _ (by rw [e1]; exact hadb) (by rw [e1]; exact hnw _ hadw))]
            exact hrow
          obtain ⟨x, hx1, hx2, hx3, hx4, hx5⟩ := HZW.out y (by rw [hy]; exact List.getElem_mem hkz)
          have hym : MidOk inter y := by have := (HK.out.ord.wok _ hx2).2.1; rw [← hx4]; exact this
          have hno : ∀ z ∈ ms, z.m.mid ≠ y := fun z hz e => by
            have h1 : z.m.mid ∈ zs.take kk := by rw [← HLR.out.mids]; exact List.mem_map.2 ⟨z, hz, rfl⟩
            rw [e] at h1
            obtain ⟨j, hj, hjy⟩ := List.mem_iff_getElem.1 h1
            rw [List.length_take] at hj
            rw [List.getElem_take, hy] at hjy
            exact (List.pairwise_iff_getElem.1 HZN.out) j kk (by omega) hkz (by omega) hjy
          have hin : waitB wait1 st y = true := waitB_iff.2 ⟨msOf x.m, by
            have h1 := HLR.out.perm.mem_iff.1 hx2
            rcases List.mem_append.1 h1 with h1 | h1
            · obtain ⟨z, hz, he⟩ := List.mem_map.1 h1
              exact absurd (by have := congrArg Jo.Ms.mid he; exact this.trans hx4) (hno z hz)
            · exact h1, hx3, hx4⟩
          have HY := Lib.hid hy
          have HIN := Lib.hid hin
          have hrel := release_any HLR.out.jo (by rw [List.length_append]; have := HXL.out; omega) HO.out hym
          clear hy hrow hadw hx1 hx2 hx3 hx4 hx5 hno hin hym hcell hadb
          go_wp2_with fail
          refine hrel.mono ?_
          clear hrel
          rintro e w3 ⟨r, T3, rv3, xs3, wait3, rfl, hr, hj3, hf3, he3⟩
          rcases hr with ⟨_, _, _, hwf⟩ | ⟨rfl, z, rfl, hz1, hz2, hz3, rfl⟩
          · rw [HIN.out] at hwf; cases hwf
          · have HNEW : Hid (LeapR w2 w3 T p inter bl bo h xs Om Wb next wait st zs (kk + 1) T3 rv3 (ms ++ [z]) (offW wait1 st y)) := by
              refine ⟨by rw [← List.append_assoc]; exact hj3, ?_, ?_, fun x hx => ?_, HLR.out.fr.trans hf3 (fun i hi e => ownS_ext HLR.out.ext HLR.out.fr.size i hi e), HLR.out.ext.trans he3 HLR.out.fr.size⟩
              · have h4 := offW_perm HLR.out.jo.ord.wnd hz1
                have e1 : (msOf z.m).st = st := hz2
                have e2 : (msOf z.m).mid = y := hz3
                rw [e1, e2] at h4
                rw [List.map_append, List.append_assoc]
                exact HLR.out.perm.trans (h4.append_left _)
              · rw [List.map_append, HLR.out.mids, List.take_add_one, List.getElem?_eq_getElem (by have := HLZ.out; omega)]
                show _ ++ [z.m.mid] = _ ++ _
                rw [hz3, HY.out]; rfl
              · rcases List.mem_append.1 hx with hx | hx
                · exact HLR.out.sts x hx
                · rw [List.mem_singleton] at hx; subst hx; exact hz2
            clear hj3 hf3 he3 hz1 hz2 hz3
            go_wp2_with fail
            go_roundw
            case rel => exact ⟨kk + 1, T3, rv3, ms ++ [z], offW wait1 st y, by go_num, by omega, HNEW⟩
            case measure => simp [intOf]; omega
        · have hke : n = kk := by omega
          subst hke
          have hnum0 : (mid + 1) % 4294967296 < 4294967296 := Nat.mod_lt _ (by omega)
          obtain ⟨y, hy⟩ : ∃ y, y = (mid + 1) % 4294967296 := ⟨_, rfl⟩
          have hwy : ((mid : Int) + 1) % 4294967296 = (y : Int) := by omega
          have hwr : IntKind.u32.wrap ((mid : Int) + 1) = (y : Int) := by simp [IntKind.wrap, IntKind.bits, IntKind.signed]; omega
          rw [← hy] at hnum0
          have HYE := Lib.hid hy
          obtain ⟨z, hz⟩ : ∃ z, z = midN inter y := ⟨_, rfl⟩
          have hzok : MidOk inter z := by rw [hz]; exact mid_small inter hnum0
          have HZE := Lib.hid hz
          have HZOK := Lib.hid hzok
          have HJD : Hid (∀ V, V = wr.drew → JO V T1 p inter bl bo rv1 h (xs ++ ms) Om Wb next wait1) := fun V hV => by rw [hV]; exact HLR.out.jo.drewN 1
          have HCD : Hid (∀ V, V = wr.drew → V.cell? ⟨gj, 0, none⟩ = some (jptr p) ∧ V.cell? ⟨go, 0, none⟩ = some (optr b)) := fun V hV => by rw [hV]; exact ⟨cj, co⟩
          have HNUM : Hid (∀ V, V = wr.drew → Calls Try.prog 28 #[jptr p, .int .u32 (y : Int)] V fun e w' => e = .returned (.int .u32 (z : Int)) ∧ V = w') := fun V hV => by rw [hz]; exact number_any (HJD.out V hV).jb.c0 hnum0
          clear hy hz hnum0 hzok cj co
          go_upto_region 13 with (fail)
          refine wp_region_stage_tail 7 (fun _ _ _ => True) (fun _ V => Hid (V = wr.drew)) [(false, .exact (.pointer (some ⟨b, 0, none⟩))),
              (false, .exact (.pointer (some ⟨p, 0, none⟩))),
              (false, .exact (.int .u32 (mid : Int))),
              (false, .exact (.int .u32 (y : Int))),
              (false, .exact (.int .u32 (z : Int))),
              (false, .exact (.pointer (some ⟨b, 0, none⟩))),
              (false, .exact (.pointer (some ⟨b, 0, none⟩)))] (by kernel_rfl) (by kernel_rfl) (by kernel_rfl) rfl (of_decide_eq_true (by kernel_rfl)) (by kernel_rfl) (by kernel_rfl) ?lasts ?start ?walk
          case lasts => exact trivial
          case start => exact rfl
          case walk =>
            simp only [List.take_succ_cons, List.take_zero, List.drop_succ_cons, List.drop_zero]
            refine stageT_pure rfl (fun _ _ => trivial) (fun V m hS hl => by
                have hc := (HCD.out V hS.out).2
                go_simp) ?_
            simp only [Act.put, List.setIfInBounds_toArray, List.set_cons_zero, List.set_cons_succ, List.cons_append, List.nil_append]
            refine stageT_pure rfl (fun _ _ => trivial) (fun V m hS hl => by
                have hc := (HCD.out V hS.out).1
                go_simp) ?_
            simp only [Act.put, List.setIfInBounds_toArray, List.set_cons_zero, List.set_cons_succ, List.cons_append, List.nil_append]
            refine stageT_pure rfl (fun _ _ => trivial) (fun V m hS hl => by go_simp) ?_
            simp only [Act.put, List.setIfInBounds_toArray, List.set_cons_zero, List.set_cons_succ, List.cons_append, List.nil_append]
            refine stageT_pure rfl (fun _ _ => trivial) (fun V m hS hl => by go_simp) ?_
            simp only [Act.put, List.setIfInBounds_toArray, List.set_cons_zero, List.set_cons_succ, List.cons_append, List.nil_append]
            refine stageT_exact rfl (fun V m hS hl => by
                go_simp
                refine Calls.mono (HNUM.out V hS.out) ?_
                rintro e V' ⟨rfl, rfl⟩
                exact ⟨_, rfl, rfl, hS⟩) ?_
            simp only [Act.put, List.setIfInBounds_toArray, List.set_cons_zero, List.set_cons_succ, List.cons_append, List.nil_append]
            refine stageT_pure rfl (fun _ _ => trivial) (fun V m hS hl => by go_simp) ?_
            simp only [Act.put, List.setIfInBounds_toArray, List.set_cons_zero, List.set_cons_succ, List.cons_append, List.nil_append]
            refine stageT_pure rfl (fun _ _ => trivial) (fun V m hS hl => by go_simp) ?_
            simp only [Act.put, List.setIfInBounds_toArray, List.set_cons_zero, List.set_cons_succ, List.cons_append, List.nil_append]
            refine stageT_nil (fun V2 hS hF => ?_)
            have HJV := Lib.hid (HJD.out V2 hS.out)
            have HFV : Hid (Fr (ownS w2 T) w2 V2) := by rw [hS.out]; exact HLR.out.fr.drew
            have HEV : Hid (Ext w2 V2 T T1) := by rw [hS.out]; exact ⟨HLR.out.ext.old, HLR.out.ext.out⟩
            have hcd := HCD.out V2 hS.out
            have HBV : Hid (V2.cell? ⟨gj, 0, none⟩ = some (jptr p) ∧ V2.cell? ⟨go, 0, none⟩ = some (optr b)) := hcd
            have cb2 := (HJV.out.ord.ord st b HO.out).blk.cell 0
            have fb2 := (HJV.out.ord.ord st b HO.out).blk.frozen 0
            simp only [List.getElem?_toArray, List.getElem?_cons_zero] at cb2
            clear hF hcd hwy hwr
            obtain ⟨w4, hw4⟩ : ∃ w4, w4 = V2.setCell ⟨b, 0, none⟩ (.int .u32 (z : Int)) := ⟨_, rfl⟩
            obtain ⟨hn1, hn2⟩ := HJV.out.setNext HO.out HZOK.out
            rw [← hw4] at hn1 hn2
            have HJ4 := Lib.hid hn1
            have HN2 := Lib.hid hn2
            have HT3 : Hid (T1 b = 3) := (HJV.out.ord.ord st b HO.out).tb
            have hTb : T b = 3 := by rw [← HEV.out.old b (by have := HB2.out.size; omega)]; exact HT3.out
            have hgjb : ¬ gj = b := by have := HL.out; omega
            have hgob : ¬ go = b := by have := HL.out; omega
            have cj4 : w4.cell? ⟨gj, 0, none⟩ = some (jptr p) := by
              rw [World.cell?_of_block (hn2.block gj (by have := World.block_lt_of_cell? V2 _ HBV.out.1; exact this) hgjb)]; exact HBV.out.1
            have co4 : w4.cell? ⟨go, 0, none⟩ = some (optr b) := by
              rw [World.cell?_of_block (hn2.block go (by have := World.block_lt_of_cell? V2 _ HBV.out.2; exact this) hgob)]; exact HBV.out.2
            have HF4 : Hid (Fr (ownS w2 T) w2 w4) := HFV.out.trans hn2 (fun i hi e => ⟨hi, by rw [show i = b from e, hTb]; exact .inr (.inl rfl)⟩)
            have HE4 : Hid (Ext w2 w4 T T1) := ⟨HEV.out.old, fun i hi => HEV.out.out i (by rw [hw4] at hi; simpa [World.setCell] using hi)⟩
            have hadv := advance_any HJ4.out (by rw [List.length_append]; have := HXL.out; omega) HO.out
            clear hn1 hn2
            go_upto_region 14 with (fail)
            rw [← hw4]
            clear hw4 hS cb2 fb2
            go_wp2_with fail
            refine hadv.mono ?_
            clear hadv
            rintro e w5 ⟨T5, rv5, xs5, wait5, nx5, rfl, ha, hwf, hj5, hf5, he5⟩
            rw [setN_at] at ha
            rw [setN_setN] at hj5
            have HA := Lib.hid ha
            have HWF := Lib.hid hwf
            have HJ5 := Lib.hid hj5
            have HF5 := Lib.hid hf5
            have HE5 := Lib.hid he5
            clear ha hwf hj5 hf5 he5 cj4 co4
            go_wp2_with fail
            go_end0
            have hmz : ms.map (fun x : Mg => x.m.mid) = zs := by
              rw [HLR.out.mids, List.take_of_length_le (by have := HLZ.out; omega)]
            have hme : ∀ x ∈ ms, x.m.mid ∈ zs := fun x hx => by rw [← hmz]; exact List.mem_map.2 ⟨x, hx, rfl⟩
            have hF2 : Fr (ownS w T) w w2 := (Fr.of_below HB2.out).mono (fun i hi e => by have e' : w.heap.size ≤ i := e; omega)
            have hFA : Fr (ownS w T) w w4 := hF2.trans HF4.out (fun i hi e => ⟨hi, e.2⟩)
            have hEA : Ext w w4 T T1 := ⟨fun i hi => HE4.out.old i (by have := HB2.out.size; omega), HE4.out.out⟩
            refine ⟨T5, rv5, xs5, wait5, nx5, ms, wait1, rfl, HLR.out.perm, fun x hx => ⟨HLR.out.sts x hx, ?_⟩, fun m hm hms => ?_, ?_, by rw [← HYE.out, ← HZE.out]; exact HA.out, HWF.out, HJ5.out, hFA.trans HF5.out (fun i hi e => ownS_ext hEA hFA.size i hi e), hEA.trans HE5.out hFA.size⟩
            · obtain ⟨_, _, _, _, _, h5⟩ := HZW.out _ (hme x hx)
              exact h5
            · cases hr : reachB inter mid m.mid with
              | false => rfl
              | true =>
                exfalso
                have h1 := HZA.out m (HLR.out.perm.mem_iff.2 (List.mem_append.2 (.inr hm))) hms hr
                rw [← hmz] at h1
                obtain ⟨x, hx, he⟩ := List.mem_map.1 h1
                have h2 := (HLR.out.perm.pairwise_iff (fun {a b} hab hba => hab ⟨hba.1.symm, hba.2.symm⟩)).1 HK.out.ord.wnd
                exact (List.pairwise_append.1 h2).2.2 _ (List.mem_map.2 ⟨x, hx, rfl⟩) m hm ⟨(HLR.out.sts x hx).trans hms.symm, he⟩
            · have h1 : zs.Pairwise (fun a b => distM inter (next st) a < distM inter (next st) b) := by
                refine List.Pairwise.imp_of_mem (fun {a c} ha hc hac => ?_) (HPW.out.and HZN.out)
                obtain ⟨x, _, x2, _, x4, _⟩ := HZW.out a ha
                obtain ⟨u, _, u2, _, u4, _⟩ := HZW.out c hc
                have e1 := (HK.out.ord.wok _ x2).2.1
                have e2 := (HK.out.ord.wok _ u2).2.1
                rcases Nat.lt_or_ge (distM inter (next st) a) (distM inter (next st) c) with h | h
                · exact h
                · exact absurd (distM_inj (HK.out.ord.nx st) (by rw [← x4]; exact e1) (by rw [← u4]; exact e2) (Nat.le_antisymm hac.1 h)) hac.2
              rw [← hmz, List.pairwise_map] at h1
              exact h1
    · obtain ⟨x, hx, rfl⟩ : ∃ x, W i = some x ∧ v = mgV x := by
        have hfi' : (W i).map mgV = some v := hfi
        cases hl : W i with
        | none => rw [hl] at hfi'; cases hfi'
        | some x => rw [hl] at hfi'; injection hfi' with hfi'; exact ⟨x, rfl, hfi'.symm⟩
      obtain ⟨a1, a2, a3, _⟩ := HW2.out i x hx
      have him : MidOk inter i := by have := (HK1.out.ord.wok _ a3).2.1; rw [← a1]; exact this
      have hfr2 : Fr (fun i => i = q) wr w2 := (Fr.of_grown hgr2).mono (fun i hi e => by injection e)
      obtain ⟨⟨x1, x2, x3, x4, x5⟩, xA, xc⟩ := x
      obtain ⟨xn, hxn⟩ : ∃ xn, xn = x5.length := ⟨_, rfl⟩
      have hrun3 : (Instr.next (.pointer (some ⟨q, 0, none⟩)) false 0).run Try.prog wr = .ok (.tuple #[.bool true, .int .u32 (i : Int), .agg #[.int .u16 (x1 : Int), .bool x2, .int .u32 (x3 : Int), .int .u32 (x4 : Int), .slice xA xn xc]]) w2 := by rw [hxn]; exact hrun2
      have hen3 : (Instr.entry (.pointer (some ⟨q, 0, none⟩))).run Try.prog w2 = .ok (.tuple #[.int .u32 (i : Int), .agg #[.int .u16 (x1 : Int), .bool x2, .int .u32 (x3 : Int), .int .u32 (x4 : Int), .slice xA xn xc]]) w2 := by rw [hxn]; exact hen
      have hqb : ∀ g, (Value.slice A n c).ownBlock = some g → ¬ g = q := fun g hg => by have := (HG.out.own.lt g hg).1; have := HL.out; omega
      have hno : ¬ i ∈ ys := fun hy => by have := ((HG.out.mem i).1 hy).2.1; rw [hli] at this; cases this
      have HOWN2 := Lib.hid (hfr2.own HG.out.own hqb)
      have HRG2 := Lib.hid hrg2
      have HLT := Lib.hid hlt2
      have HCE := Lib.hid HG.out.rg.left_eq
      have HF2 : Hid (Fr (fun i => i = q) w1 w2) := HG.out.fr.same hfr2
      have HND := Lib.hid HG.out.nd
      have HMEM := Lib.hid HG.out.mem
      have HNO := Lib.hid hno
      have HLI := Lib.hid hli
      have HX : Hid ((W i).isSome = true) := by unfold Hid; rw [hx]; rfl
      have HKR2 := Lib.hid (HKR.out.fr hfr2 (fun i hi e e' => by have := HK.out.out i (by have := HL.out; omega); omega) (Ext.same HKR.out.out hfr2.size))
      have cj2 := (hfr2.blk HBJR.out (by have := HL.out; omega)).cell 0
      simp only [List.getElem?_toArray, List.getElem?_cons_succ, List.getElem?_cons_zero] at cj2
      have hre := reaches_any HKR2.out.jb.c0 HM.out him
      obtain ⟨rb, hrb⟩ : ∃ rb, rb = reachB inter mid i := ⟨_, rfl⟩
      rw [← hrb] at hre
      have HRB := Lib.hid hrb
      have hi32 := small32 him
      have hbs : base ≤ w2.heap.size := by have := HBASE.out; have := HF2.out.size; omega
      clear hrun2 hen hsz2 hfi hx hxn hrg2 hgr2 hlt2 hfr2 hqb hno hli hdom hrb HG a1 a2 a3 him cj co HKR HBJR HBOR HYW HKR2
      go_wp2_with fail
      refine hre.mono ?_
      rintro e w' ⟨rfl, rfl⟩
      clear hre
      cases rb
      · go_wp2_with fail
        go_roundw
        case rel => exact ⟨_, cnt2, ys, n, ⟨HRG2.out, HOWN2.out, HND.out, fun y => by
          rw [HMEM.out]
          constructor
          · rintro ⟨b1, b2, b3⟩; exact ⟨b1, by simp [b2], b3⟩
          · rintro ⟨b1, b2, b3⟩
            have hne : y ≠ i := fun e => by rw [e, ← HRB.out] at b3; cases b3
            exact ⟨b1, by simpa [hne] using b2, b3⟩, HF2.out⟩⟩
        case measure => rw [HRG2.out.left_eq, HCE.out]; exact HLT.out
      · go_wp2_with (at_builtin; refine wpList_append_any _ rfl (.tmp 23) (.tmp 25) _ rfl base 33 i0 _ 1 4 Try.underlying36 hi0 hz0 hz1 hz2 rfl (by omega) (.slice A n c) n _ rfl (((Fr.refl (fun _ => False) w2).alloc _).own HOWN2.out (fun _ _ h => h)) (w2.heap.size + 1) (some ⟨w2.heap.size, 0, none⟩) 1 1 [.int .u32 (i : Int)] rfl (blk_reads (Blk.new w2 33 #[.int .u32 (i : Int)]) rfl) (by simp [Value.oneCell']) (by simp only [maxLen]; omega) (by omega) (by simp; omega) ?_; intro v7 w7 hown7 hg7 hat7; have HOWN7 := Lib.hid hown7; have HG7 := Lib.hid hg7; obtain ⟨A7, c7, rfl, h7a, h7b⟩ := own_slice hown7; clear hown7 hg7 hat7)
        go_roundw
        case rel =>
          have hf7 : Fr (fun k => k ∉ [wb, q] ∧ base ≤ k) w2 w7 := ((Fr.refl _ w2).alloc _).grown HG7.out (fun g hg => by
            have h1 := HOWN2.out.lt g hg
            have h2 := HL.out
            refine .inl ⟨?_, h1.1⟩
            simp only [List.mem_cons, List.not_mem_nil, or_false]
            have h3 := HRG2.out.map.lt
            have h4 : wb < w.heap.size := by rw [HWB.out]; exact HK.out.ord.wlt HO.out
            omega)
          have hl1 := HL.out
          have hwbl : wb < w.heap.size := by rw [HWB.out]; exact HK.out.ord.wlt HO.out
          refine ⟨_, cnt2, ys ++ [i], n + 1, ⟨HRG2.out.fr hf7 (fun e => by simp at e) (fun e => by simp at e), ?_, ?_, fun y => ?_, HF2.out.trans hf7 (fun j hj e => by have := HBASE.out; omega)⟩⟩
          · have h1 := HOWN7.out
            rw [show n32V (ys ++ [i]) = n32V ys ++ [.int .u32 (i : Int)] by simp [n32V]]
            exact h1
          · rw [List.nodup_append]
            refine ⟨HND.out, by simp, fun a ha c hc e => ?_⟩
            rw [List.mem_singleton] at hc
            subst hc
            exact HNO.out (by rw [← e]; exact ha)
          · rw [List.mem_append, List.mem_singleton, HMEM.out]
            constructor
            · rintro (⟨b1, b2, b3⟩ | rfl)
              · exact ⟨b1, by simp [b2], b3⟩
              · exact ⟨HX.out, by simp, HRB.out.symm⟩
            · rintro ⟨b1, b2, b3⟩
              by_cases hne : y = i
              · exact .inr hne
              · exact .inl ⟨b1, by simpa [hne] using b2, b3⟩
        case measure =>
          have hf7 : Fr (fun k => k ∉ [wb, q] ∧ base ≤ k) w2 w7 := ((Fr.refl _ w2).alloc _).grown HG7.out (fun g hg => by
            have h1 := HOWN2.out.lt g hg
            have h2 := HL.out
            refine .inl ⟨?_, h1.1⟩
            simp only [List.mem_cons, List.not_mem_nil, or_false]
            have h4 : wb < w.heap.size := by rw [HWB.out]; exact HK.out.ord.wlt HO.out
            omega)
          rw [(HRG2.out.fr hf7 (fun e => by simp at e) (fun e => by simp at e)).left_eq, HCE.out]; exact HLT.out
end
end Go.Proofs.Ytioddokjogbmnaa.Chk
