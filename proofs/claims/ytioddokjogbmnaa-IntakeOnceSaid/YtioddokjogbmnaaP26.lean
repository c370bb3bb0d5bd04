/-
  Of the texts Jp25: what the laws reach.
-/
import Derived.Test.YtioddokjogbmnaaP25

set_option linter.unusedVariables false
set_option linter.unusedSimpArgs false
set_option maxRecDepth 20000
namespace Go.Proofs.Ytioddokjogbmnaa.Chk
open Go.ChangeShapes Go.WideShapes Go.ChangeAt Go.RowKit Go.Deep Go.Maps Go.Proofs.Ytioddokjogbmnaa.Words Go.Proofs.Ytioddokjogbmnaa.Oct Go.Proofs.Ytioddokjogbmnaa.Par Go.Proofs.Ytioddokjogbmnaa.Mx
section
variable {w w' : World} {T T' : Nat → Nat} {p bl bo h h' : Nat} {inter : Bool} {rv : Value} {F : Gk → Option Nat} {xs : List Mg} {Om : Nat → Option Nat} {Wb next : Nat → Nat} {wait wait' : List Jo.Ms} {S G : Nat → Prop} {s : Jo.JS} {pcs : List Jo.Pc}
def TakeDone (w : World) (G : Nat → Prop) (p : Nat) (inter : Bool) (s : Jo.JS) (e : Ending) (w' : World) : Prop :=
  ∃ (m : Msg) (A : Option Addr) (n cp : Nat) (t : Bool) (s' : Jo.JS) (G' : Nat → Prop), e = .returned (.tuple #[.agg (mCells m (.slice A n cp)), .bool t]) ∧ JRep w' G' p inter s' ∧ TakeJ s m t s' ∧ n = m.body.length ∧ n ≤ cp ∧ cp ≤ 9223372036854775807 ∧ Byt w' w'.heap.size A m.body ∧ (∀ i, G' i → G i ∨ w.heap.size ≤ i) ∧ Fr G w w'
theorem msg_built0 : Try.prog.built 43 [] = some #[.int .u16 0, .bool false, .int .u32 0, .int .u32 0, .slice none 0 0] := by kernel_rfl
theorem res_msg {fn : Func} {p u : Tmp} (h : fn.results = #[.cell p 43, .tmp u]) (tmps : Array Value) (w : World) (g : Nat) (cs : Array Value) (hc : cs.size = 5) (hp : tmps.getD p undef = .pointer (some ⟨g, 0, none⟩)) (hb : Blk w g 43 cs) :
    (results fn tmps).run Try.prog w = .ok (.tuple #[.agg cs, tmps.getD u undef]) w := by
  rw [results_cell_tmp h, hp]
  have := run_loadVar_row (P := Try.prog) w g 43 43 cs (0, 0) _ hb Try.underlying43 rfl (by rw [hc]; kernel_rfl)
  simp [asAddr, Result.andThen, this]
theorem take_end {X : Mg} {t : List Mg} {rv' : Value} {g h2 : Nat} (k : JRp w T p bl bo inter rv F Om Wb (X :: t) s) (h4 : T g = 4) (hf : Fr (fun i => i < w.heap.size ∧ (i = g ∨ i = p)) w w') (hj : JB w' p inter bl bo rv' h2) (hr : ReadyR w' T rv' t) (hh : h2 = Jo.held s - X.m.body.length) :
    TakeDone w (fun i => T i ≠ 0) p inter s (.returned (.tuple #[.agg (mCells X.m (.slice X.A X.m.body.length X.cp)), .bool true])) w' := by
  have hn : ∀ i, i < w.heap.size → (T i = 2 ∨ T i = 3 ∨ T i = 5) → ¬ (i < w.heap.size ∧ (i = g ∨ i = p)) := fun i hi e hx => by
    rcases hx.2 with h | h
    · rw [h, h4] at e; rcases e with e | e | e <;> cases e
    · rw [h, k.jo.tp] at e; rcases e with e | e | e <;> cases e
  have hok := k.jo.rok X List.mem_cons_self
  have hmg : ∀ y, MgOk w T y → MgOk w' T y := fun y hy => hy.fr hf (fun i hi e => hn i hi (.inr (.inr e))) (fun _ _ => rfl)
  have hheld : Jo.held ⟨s.pcs, s.wait, t.map fun x => msOf x.m, s.next⟩ = h2 := by
    have e1 : Jo.held s = Jo.sizeP s.pcs + Jo.sizeM s.wait + (X.m.body.length + Jo.sizeM (t.map fun x => msOf x.m)) := by
      unfold Jo.held
      rw [k.rd]
      have ec : Jo.sizeM ((X :: t).map fun x => msOf x.m) = X.m.body.length + Jo.sizeM (t.map fun x => msOf x.m) := by simp [Jo.sizeM, msOf]
      rw [ec]
    show Jo.sizeP s.pcs + Jo.sizeM s.wait + Jo.sizeM (t.map fun x => msOf x.m) = h2
    omega
  refine ⟨X.m, X.A, _, X.cp, true, ⟨s.pcs, s.wait, t.map fun x => msOf x.m, s.next⟩, fun i => T i ≠ 0, rfl, ⟨T, bl, bo, rv', F, Om, Wb, t, fun i => Iff.rfl, ⟨hheld ▸ hj, k.jo.tp, k.jo.ord.fr hf (fun i hi e => hn i hi (.inr (.inl e))) (fun i hi e => hn i hi (.inr (.inr e))) (fun _ _ => rfl), hr, fun y hy => hmg y (k.jo.rok y (List.mem_cons_of_mem _ hy)), fun i hi => k.jo.out i (by have := hf.size; omega)⟩, k.ln.fr hf (fun i hi e => hn i hi (.inl e)) (fun i hi e => hn i hi (.inr (.inr e))) (fun _ _ => rfl), rfl, by rw [hheld, hh]; have := k.small; omega, k.pok⟩, ⟨List.Perm.refl _, List.Perm.refl _, rfl, by rw [k.rd]; rfl, .inr ⟨by rw [k.rd]; rfl, rfl⟩⟩, rfl, hok.bod.le, hok.bod.cap, (hmg X hok).bod.rd, fun i hi => .inl hi, hf.mono (fun i hi e => ?_)⟩
  rcases e.2 with e | e
  · rw [e, h4]; decide
  · rw [e, k.jo.tp]; decide
set_option maxHeartbeats 8000000 in
theorem take_any (k : JRp w T p bl bo inter rv F Om Wb xs s) : Calls Try.prog 16 #[jptr p] w (TakeDone w (fun i => T i ≠ 0) p inter s) := by
  obtain ⟨W1, hW1⟩ : ∃ W1, W1 = w.alloc (.cells #[.int .u16 0, .bool false, .int .u32 0, .int .u32 0, .slice none 0 0] 43) := ⟨_, rfl⟩
  obtain ⟨gr, hgr⟩ : ∃ gr, gr = w.heap.size := ⟨_, rfl⟩
  have HB1 : Hid (Below w.heap.size w W1) := by rw [hW1]; exact below_one w _
  have HR1 : Hid (Blk W1 gr 43 #[.int .u16 0, .bool false, .int .u32 0, .int .u32 0, .slice none 0 0]) := by rw [hW1, hgr]; exact Blk.new _ _ _
  have HJ1 := Lib.hid (k.jo.grows HB1.out)
  have HK := Lib.hid k
  have c3 := HJ1.out.jb.c3
  have HGR : Hid (w.heap.size ≤ gr) := by unfold Hid; omega
  have hready := k.jo.rdy
  rcases hready with ⟨rfl, rfl⟩ | ⟨g, o, c, cs, rfl, hne, hblk, hT4, hsz, hlc, hcm, hrow⟩
  · clear k
    go_enter Try.func16, Try.ntmps16
    go_upto_region 1 with (fail)
    rw [← hW1, ← hgr]
    clear hW1 hgr
    have z0 := HR1.out.cell 0
    have z1 := HR1.out.cell 1
    have z2 := HR1.out.cell 2
    have z3 := HR1.out.cell 3
    have z4 := HR1.out.cell 4
    have y0 := HR1.out.frozen 0
    have y1 := HR1.out.frozen 1
    have y2 := HR1.out.frozen 2
    have y3 := HR1.out.frozen 3
    have y4 := HR1.out.frozen 4
    simp only [List.getElem?_toArray, List.getElem?_cons_succ, List.getElem?_cons_zero] at z0 z1 z2 z3 z4
    go_wp2_with (refine wpList_build_as rfl 43 _ rfl _ msg_built0 ?_)
    obtain ⟨W2, hW2⟩ : ∃ W2, W2 = ((((W1.setCell ⟨gr, 0, none⟩ (.int .u16 0)).setCell ⟨gr, 1, none⟩ (.bool false)).setCell ⟨gr, 2, none⟩ (.int .u32 0)).setCell ⟨gr, 3, none⟩ (.int .u32 0)).setCell ⟨gr, 4, none⟩ (.slice none 0 0) := ⟨_, rfl⟩
    have hb2 : Blk W2 gr 43 #[.int .u16 0, .bool false, .int .u32 0, .int .u32 0, .slice none 0 0] := by rw [hW2]; exact ((((HR1.out.set_ 0 _).set_ 1 _).set_ 2 _).set_ 3 _).set_ 4 _
    have hf2 : Fr (fun i => i = gr) W1 W2 := by rw [hW2]; exact ((((((Fr.refl (fun i => i = gr) W1).setCell (p := ⟨gr, 0, none⟩) (.inl rfl) _).setCell (p := ⟨gr, 1, none⟩) (.inl rfl) _).setCell (p := ⟨gr, 2, none⟩) (.inl rfl) _).setCell (p := ⟨gr, 3, none⟩) (.inl rfl) _).setCell (p := ⟨gr, 4, none⟩) (.inl rfl) _)
    rw [← hW2]
    clear hW2
    (try simp only [Exit.inBlock, Exit.then])
    refine bodyPost_ret (res_msg rfl _ _ gr _ rfl rfl hb2) rfl ?_
    have hb : Below w.heap.size w W2 := below_fr HB1.out hf2 (Nat.le_refl _) (fun x e => by rw [show x = gr from e]; exact HGR.out)
    refine ⟨⟨0, false, 0, 0, []⟩, none, 0, 0, false, s, fun i => T i ≠ 0, rfl, JRep.fr ⟨T, bl, bo, _, F, Om, Wb, _, fun i => Iff.rfl, HK.out⟩ (Fr.of_below hb) (fun i h1 h2 => by have e' : w.heap.size ≤ i := h1; omega), ⟨List.Perm.refl _, List.Perm.refl _, rfl, by rw [HK.out.rd]; rfl, .inl ⟨by rw [HK.out.rd]; rfl, rfl, rfl⟩⟩, rfl, Nat.le_refl _, by omega, ⟨rfl, fun h => absurd h (by simp)⟩, fun i hi => .inl hi, (Fr.of_below hb).mono (fun i h1 h2 => by have e' : w.heap.size ≤ i := h2; omega)⟩
  · obtain ⟨x, t, rfl⟩ : ∃ x t, xs = x :: t := by
      cases xs with
      | nil => exact absurd rfl hne
      | cons x t => exact ⟨x, t, rfl⟩
    have hrow0 := hrow 0 x rfl
    have hok := HJ1.out.rok x List.mem_cons_self
    obtain ⟨⟨x1, x2, x3, x4, x5⟩, xA, xc⟩ := x
    obtain ⟨X, hX⟩ : ∃ X : Mg, X = ⟨⟨x1, x2, x3, x4, x5⟩, xA, xc⟩ := ⟨_, rfl⟩
    rw [← hX] at HK HJ1 hok hrow hrow0 hlc c3
    have hmc : (mgCells X).toArray = #[.int .u16 (x1 : Int), .bool x2, .int .u32 (x3 : Int), .int .u32 (x4 : Int), .slice xA x5.length xc] := by rw [hX]; rfl
    obtain ⟨xn, hxn⟩ : ∃ xn, xn = x5.length := ⟨_, rfl⟩
    rw [← hxn] at hmc
    have HMC := Lib.hid hmc
    have HXE := Lib.hid hX
    have HXN := Lib.hid hxn
    have HB1b : Hid (Blk W1 g 43 cs) := (Fr.of_below HB1.out).blk hblk (fun e => by have e' : w.heap.size ≤ g := e; have := Blk.lt hblk; omega)
    have HOK := Lib.hid hok
    have HROW := Lib.hid hrow
    obtain ⟨l, hl⟩ : ∃ l, l = t.length := ⟨_, rfl⟩
    have hlen : (X :: t).length = l + 1 := by rw [hl]; rfl
    rw [hlen] at hlc c3
    have hld : ∀ j v, (#[.int .u16 (x1 : Int), .bool x2, .int .u32 (x3 : Int), .int .u32 (x4 : Int), .slice xA xn xc] : Array Value)[j]? = some v → W1.cell? ((⟨g, o, none⟩ : Addr).add j) = some v := fun j v hv => by
      rw [← hmc] at hv
      rw [Addr.add_lit, HB1b.out.cell (o + j)]
      have h1 := hrow0 j v (by simpa using hv)
      simpa using h1
    have HT4 := Lib.hid hT4
    have HSZ := Lib.hid hsz
    have HLL := Lib.hid hl
    clear k hX hxn hmc hrow hrow0 hok hne hblk hT4 hsz hlen hl
    go_enter Try.func16, Try.ntmps16
    go_upto_region 1 with (fail)
    rw [← hW1, ← hgr]
    clear hW1 hgr
    go_upto_region 4 with (refine wpList_load_any rfl 43 _ rfl ⟨g, o, none⟩ (by first | rfl | simp) #[.int .u16 (x1 : Int), .bool x2, .int .u32 (x3 : Int), .int .u32 (x4 : Int), .slice xA xn xc] _ hld Try.underlying43 rfl msg_sz ?_)
    obtain ⟨W2, hW2⟩ : ∃ W2, W2 = W1.alloc (.cells #[.int .u16 (x1 : Int), .bool x2, .int .u32 (x3 : Int), .int .u32 (x4 : Int), .slice xA xn xc] 43) := ⟨_, rfl⟩
    obtain ⟨gm, hgm⟩ : ∃ gm, gm = W1.heap.size := ⟨_, rfl⟩
    rw [← hW2, ← hgm]
    have hf12 : Fr (fun _ => False) W1 W2 := by rw [hW2]; exact (Fr.refl _ W1).alloc _
    have HF12 := Lib.hid hf12
    have HBM2 : Hid (Blk W2 gm 43 #[.int .u16 (x1 : Int), .bool x2, .int .u32 (x3 : Int), .int .u32 (x4 : Int), .slice xA xn xc]) := by rw [hW2, hgm]; exact Blk.new _ _ _
    have HBC2 := Lib.hid (hf12.blk HB1b.out (fun h => h))
    have HBR2 := Lib.hid (hf12.blk HR1.out (fun h => h))
    have HJ2 : Hid (JB W2 p inter bl bo (.slice (some ⟨g, o, none⟩) (l + 1) c) (Jo.held s)) := by
      have h1 := HJ1.out.jb.fr hf12 (fun h => h)
      have h2 : (X :: t).length = l + 1 := by rw [HLL.out]; rfl
      rw [h2] at h1; exact h1
    have HGM : Hid (gm = W1.heap.size) := hgm
    have hold : ∀ j, j < 5 → ∃ v, W2.cell? ⟨g, o + j, none⟩ = some v := fun j hj => by
      have h1 := HBC2.out.cell (o + j)
      have h2 := HSZ.out
      exact ⟨_, h1.trans (Array.getElem?_eq_getElem (by have := hlc; omega))⟩
    obtain ⟨v0, z0⟩ := hold 0 (by omega)
    obtain ⟨v1, z1⟩ := hold 1 (by omega)
    obtain ⟨v2, z2⟩ := hold 2 (by omega)
    obtain ⟨v3, z3⟩ := hold 3 (by omega)
    obtain ⟨v4, z4⟩ := hold 4 (by omega)
    have y0 := HBC2.out.frozen (o + 0)
    have y1 := HBC2.out.frozen (o + 1)
    have y2 := HBC2.out.frozen (o + 2)
    have y3 := HBC2.out.frozen (o + 3)
    have y4 := HBC2.out.frozen (o + 4)
    have c3 := HJ2.out.c3
    rw [Nat.add_zero] at z0 y0
    clear hld hold hW2 hgm hf12
    go_upto_region 5 with (refine wpList_build_as rfl 43 _ rfl _ msg_built0 ?_)
    obtain ⟨W3, hW3⟩ : ∃ W3, W3 = ((((W2.setCell ⟨g, o, none⟩ (.int .u16 0)).setCell ⟨g, o + 1, none⟩ (.bool false)).setCell ⟨g, o + 2, none⟩ (.int .u32 0)).setCell ⟨g, o + 3, none⟩ (.int .u32 0)).setCell ⟨g, o + 4, none⟩ (.slice none 0 0) := ⟨_, rfl⟩
    have hf23 : Fr (fun i => i = g) W2 W3 := by rw [hW3]; exact ((((((Fr.refl (fun i => i = g) W2).setCell (p := ⟨g, o, none⟩) (.inl rfl) _).setCell (p := ⟨g, o + 1, none⟩) (.inl rfl) _).setCell (p := ⟨g, o + 2, none⟩) (.inl rfl) _).setCell (p := ⟨g, o + 3, none⟩) (.inl rfl) _).setCell (p := ⟨g, o + 4, none⟩) (.inl rfl) _)
    obtain ⟨cs3, HBC3, hcs3, hcs4⟩ : ∃ cs3, Hid (Blk W3 g 43 cs3) ∧ cs3.size = cs.size ∧ ∀ k, o + 5 ≤ k → cs3[k]? = cs[k]? := by
      refine ⟨_, by rw [hW3]; exact ((((HBC2.out.set_ o _).set_ (o + 1) _).set_ (o + 2) _).set_ (o + 3) _).set_ (o + 4) _, by simp, fun k hk => ?_⟩
      simp only [Array.getElem?_setIfInBounds]
      rw [if_neg (by omega), if_neg (by omega), if_neg (by omega), if_neg (by omega), if_neg (by omega)]
    rw [← hW3]
    have hgw : g < w.heap.size := by
      rcases Nat.lt_or_ge g w.heap.size with h | h
      · exact h
      · have := HK.out.jo.out g h; rw [HT4.out] at this; cases this
    have hpw : p < w.heap.size := Blk.lt HK.out.jo.jb
    have hpg : ¬ p = g := fun e => by have := HK.out.jo.tp; rw [e, HT4.out] at this; cases this
    have HW1S : Hid (w.heap.size ≤ gm) := by rw [HGM.out]; exact HB1.out.size
    have HBM3 := Lib.hid (hf23.blk HBM2.out (by have := HW1S.out; omega))
    have HBR3 := Lib.hid (hf23.blk HBR2.out (by have := HGR.out; omega))
    have HJ3 : Hid (JB W3 p inter bl bo (.slice (some ⟨g, o, none⟩) (l + 1) c) (Jo.held s)) := HJ2.out.fr hf23 hpg
    have HF3 : Hid (Fr (fun i => i < w.heap.size ∧ (i = g ∨ i = p)) w W3) := by
      have h1 : Fr (fun i => i < w.heap.size ∧ (i = g ∨ i = p)) w W2 := ((Fr.of_below HB1.out).mono (T := fun i => i < w.heap.size ∧ (i = g ∨ i = p)) (fun i hi e => by have e' : w.heap.size ≤ i := e; omega)).trans HF12.out (fun _ _ e => e.elim)
      exact h1.trans hf23 (fun i hi e => ⟨hi, .inl e⟩)
    have HC4 : Hid (∀ k, o + 5 ≤ k → cs3[k]? = cs[k]?) := hcs4
    have HC3 : Hid (cs3.size = cs.size) := hcs3
    have HP := Lib.hid hpg
    have HGW := Lib.hid hgw
    have HPW := Lib.hid hpw
    have c3 := HJ3.out.c3
    have f3 := Blk.frozen HJ3.out 3
    clear z0 z1 z2 z3 z4 y0 y1 y2 y3 y4 hW3 hf23 hcs3 hcs4 hgw hpw hpg HBC2 HBM2 HBR2 HJ2
    have HLE : Hid (xn ≤ Jo.held s) := by
      unfold Hid Jo.held
      rw [HK.out.rd, HXN.out, HXE.out]
      have ec : Jo.sizeM (((⟨⟨x1, x2, x3, x4, x5⟩, xA, xc⟩ : Mg) :: t).map fun x => msOf x.m) = x5.length + Jo.sizeM (t.map fun x => msOf x.m) := by simp [Jo.sizeM, msOf]
      rw [ec]; omega
    obtain ⟨A4, hA4⟩ : ∃ A4 : Option Addr, A4 = if c = 1 then some ⟨g, o, none⟩ else some ⟨g, o + 5, none⟩ := ⟨_, rfl⟩
    obtain ⟨W4, hW4⟩ : ∃ W4, W4 = W3.setCell ⟨p, 3, none⟩ (.slice A4 l (c - 1)) := ⟨_, rfl⟩
    go_upto_region 6 with (fail)
    rw [← hA4, ← hW4]
    have hf34 : Fr (fun i => i = p) W3 W4 := by rw [hW4]; exact (Fr.refl (fun i => i = p) W3).setCell (p := ⟨p, 3, none⟩) (.inl rfl) _
    have HJ4 : Hid (JB W4 p inter bl bo (.slice A4 l (c - 1)) (Jo.held s)) := by rw [hW4]; exact HJ3.out.ready _
    have HBC4 := Lib.hid (hf34.blk HBC3.out (fun e => HP.out e.symm))
    have HF34 := Lib.hid hf34
    have c3 := HJ4.out.c3
    have f3 := Blk.frozen HJ4.out 3
    have HA4 := Lib.hid hA4
    clear hW4 hf34 hA4
    by_cases hl0 : l = 0
    · subst hl0
      have ht : t = [] := List.eq_nil_of_length_eq_zero HLL.out.symm
      subst ht
      obtain ⟨W5, hW5⟩ : ∃ W5, W5 = W4.setCell ⟨p, 3, none⟩ (.slice none 0 0) := ⟨_, rfl⟩
      have HFW : Hid (Fr (fun i => i = p) W3 W5) := HF34.out.same (by rw [hW5]; exact (Fr.refl (fun i => i = p) W4).setCell (p := ⟨p, 3, none⟩) (.inl rfl) _)
      have HJV0 : Hid (JB W5 p inter bl bo (.slice none 0 0) (Jo.held s)) := by rw [hW5]; exact HJ4.out.ready _
      have HJV : Hid (JB W5 p inter bl bo (.slice none 0 0) (Jo.held s)) := HJV0.out
      have HBM := Lib.hid (HFW.out.blk HBM3.out (by have := HW1S.out; have := HPW.out; omega))
      have HBR := Lib.hid (HFW.out.blk HBR3.out (by have := HGR.out; have := HPW.out; omega))
      have c4 := HJV.out.c4
      have f4 := Blk.frozen HJV.out 4
      have m4 := HBM.out.cell 4
      simp only [List.getElem?_toArray, List.getElem?_cons_succ, List.getElem?_cons_zero] at m4
      obtain ⟨hh, hhh⟩ : ∃ hh, hh = Jo.held s := ⟨_, rfl⟩
      obtain ⟨h2, hh2⟩ : ∃ h2, h2 = hh - xn := ⟨_, rfl⟩
      have hle : xn ≤ hh := by rw [hhh]; exact HLE.out
      have hz : hh ≤ 2000000000 := by rw [hhh]; exact HK.out.small
      have hsub : (hh : Int) - (xn : Int) = (h2 : Int) := by omega
      have hwr : IntKind.i64.wrap (h2 : Int) = (h2 : Int) := IntWalk.i64_in _ (by omega)
      rw [← hhh] at c4
      have HHH := Lib.hid hhh
      have HH2 := Lib.hid hh2
      have ne1 : ¬ gm = p := by have := HW1S.out; have := HPW.out; omega
      have ne2 : ¬ p = gm := fun e => ne1 e.symm
      clear hhh hh2
      go_upto_region 8 with (fail)
      rw [← hW5]
      clear hW5
      go_region
      obtain ⟨W6, hW6⟩ : ∃ W6, W6 = (W5.setCell ⟨p, 4, none⟩ (.int .i64 (h2 : Int))).drew := ⟨_, rfl⟩
      have hf6 : Fr (fun i => i = p) W5 W6 := by rw [hW6]; exact (((Fr.refl (fun i => i = p) W5).setCell (p := ⟨p, 4, none⟩) (.inl rfl) _).drew)
      have HJ6 : Hid (JB W6 p inter bl bo (.slice none 0 0) h2) := by rw [hW6]; exact HJV.out.held h2
      have HBM6 := Lib.hid (hf6.blk HBM.out ne1)
      have HBR6 := Lib.hid (hf6.blk HBR.out (by have := HGR.out; have := HPW.out; omega))
      have HF6 : Hid (Fr (fun i => i = p) W3 W6) := HFW.out.same hf6
      rw [← hW6]
      clear hW6 hf6 c4 f4 m4 hle hz hsub hwr
      have hld : ∀ j v, (#[.int .u16 (x1 : Int), .bool x2, .int .u32 (x3 : Int), .int .u32 (x4 : Int), .slice xA xn xc] : Array Value)[j]? = some v → W6.cell? ((⟨gm, 0, none⟩ : Addr).add j) = some v := fun j v hv => by rw [HBM6.out.cellAdd]; exact hv
      have z0 := HBR6.out.cell 0
      have z1 := HBR6.out.cell 1
      have z2 := HBR6.out.cell 2
      have z3 := HBR6.out.cell 3
      have z4 := HBR6.out.cell 4
      have y0 := HBR6.out.frozen 0
      have y1 := HBR6.out.frozen 1
      have y2 := HBR6.out.frozen 2
      have y3 := HBR6.out.frozen 3
      have y4 := HBR6.out.frozen 4
      simp only [List.getElem?_toArray, List.getElem?_cons_succ, List.getElem?_cons_zero] at z0 z1 z2 z3 z4
      go_upto_region 9 with (fail)
      go_wp2_with (refine wpList_load_any rfl 43 _ rfl ⟨gm, 0, none⟩ (by first | rfl | simp) #[.int .u16 (x1 : Int), .bool x2, .int .u32 (x3 : Int), .int .u32 (x4 : Int), .slice xA xn xc] _ hld Try.underlying43 rfl msg_sz ?_)
      obtain ⟨W7, hW7⟩ : ∃ W7, W7 = ((((W6.setCell ⟨gr, 0, none⟩ (.int .u16 (x1 : Int))).setCell ⟨gr, 1, none⟩ (.bool x2)).setCell ⟨gr, 2, none⟩ (.int .u32 (x3 : Int))).setCell ⟨gr, 3, none⟩ (.int .u32 (x4 : Int))).setCell ⟨gr, 4, none⟩ (.slice xA xn xc) := ⟨_, rfl⟩
      have hb7 : Blk W7 gr 43 #[.int .u16 (x1 : Int), .bool x2, .int .u32 (x3 : Int), .int .u32 (x4 : Int), .slice xA xn xc] := by rw [hW7]; exact ((((HBR6.out.set_ 0 _).set_ 1 _).set_ 2 _).set_ 3 _).set_ 4 _
      have hf7 : Fr (fun i => i = gr) W6 W7 := by rw [hW7]; exact ((((((Fr.refl (fun i => i = gr) W6).setCell (p := ⟨gr, 0, none⟩) (.inl rfl) _).setCell (p := ⟨gr, 1, none⟩) (.inl rfl) _).setCell (p := ⟨gr, 2, none⟩) (.inl rfl) _).setCell (p := ⟨gr, 3, none⟩) (.inl rfl) _).setCell (p := ⟨gr, 4, none⟩) (.inl rfl) _)
      rw [← hW7]
      clear hW7
      (try simp only [Exit.inBlock, Exit.then])
      refine bodyPost_ret (res_msg rfl _ _ gr _ rfl rfl hb7) rfl ?_
      have hfa : Fr (fun i => i = p ∨ i = gr) W3 W7 := (HF6.out.mono (fun i hi e => .inl e)).trans hf7 (fun i hi e => .inr e)
      have hft : Fr (fun i => i < w.heap.size ∧ (i = g ∨ i = p)) w W7 := HF3.out.trans hfa (fun i hi e => ⟨hi, e.elim .inr (fun e => by have := HGR.out; omega)⟩)
      have hend := take_end HK.out (X := X) (rv' := (.slice none 0 0)) (w' := W7) (g := g) HT4.out hft (HJ6.out.fr hf7 (by have := HGR.out; have := HPW.out; omega)) (.inl ⟨rfl, rfl⟩) (by rw [HH2.out, HHH.out, HXN.out, HXE.out])
      rw [HXE.out] at hend
      rw [HXN.out]
      exact hend
    · have hc1 : ¬ c = 1 := by omega
      have hA := HA4.out
      rw [if_neg hc1] at hA
      subst hA
      have HFW := HF34
      have HJV0 := HJ4
      have hl1 : ¬ ((l : Int) = 0) := by omega
      have HJV : Hid (JB W4 p inter bl bo (.slice (some ⟨g, o + 5, none⟩) l (c - 1)) (Jo.held s)) := HJV0.out
      have HBM := Lib.hid (HFW.out.blk HBM3.out (by have := HW1S.out; have := HPW.out; omega))
      have HBR := Lib.hid (HFW.out.blk HBR3.out (by have := HGR.out; have := HPW.out; omega))
      have c4 := HJV.out.c4
      have f4 := Blk.frozen HJV.out 4
      have m4 := HBM.out.cell 4
      simp only [List.getElem?_toArray, List.getElem?_cons_succ, List.getElem?_cons_zero] at m4
      obtain ⟨hh, hhh⟩ : ∃ hh, hh = Jo.held s := ⟨_, rfl⟩
      obtain ⟨h2, hh2⟩ : ∃ h2, h2 = hh - xn := ⟨_, rfl⟩
      have hle : xn ≤ hh := by rw [hhh]; exact HLE.out
      have hz : hh ≤ 2000000000 := by rw [hhh]; exact HK.out.small
      have hsub : (hh : Int) - (xn : Int) = (h2 : Int) := by omega
      have hwr : IntKind.i64.wrap (h2 : Int) = (h2 : Int) := IntWalk.i64_in _ (by omega)
      rw [← hhh] at c4
      have HHH := Lib.hid hhh
      have HH2 := Lib.hid hh2
      have ne1 : ¬ gm = p := by have := HW1S.out; have := HPW.out; omega
      have ne2 : ¬ p = gm := fun e => ne1 e.symm
      clear hhh hh2
      go_upto_region 8 with (fail)
      go_region
      obtain ⟨W6, hW6⟩ : ∃ W6, W6 = (W4.setCell ⟨p, 4, none⟩ (.int .i64 (h2 : Int))).drew := ⟨_, rfl⟩
      have hf6 : Fr (fun i => i = p) W4 W6 := by rw [hW6]; exact (((Fr.refl (fun i => i = p) W4).setCell (p := ⟨p, 4, none⟩) (.inl rfl) _).drew)
      have HJ6 : Hid (JB W6 p inter bl bo (.slice (some ⟨g, o + 5, none⟩) l (c - 1)) h2) := by rw [hW6]; exact HJV.out.held h2
      have HBM6 := Lib.hid (hf6.blk HBM.out ne1)
      have HBR6 := Lib.hid (hf6.blk HBR.out (by have := HGR.out; have := HPW.out; omega))
      have HF6 : Hid (Fr (fun i => i = p) W3 W6) := HFW.out.same hf6
      rw [← hW6]
      clear hW6 hf6 c4 f4 m4 hle hz hsub hwr
      have hld : ∀ j v, (#[.int .u16 (x1 : Int), .bool x2, .int .u32 (x3 : Int), .int .u32 (x4 : Int), .slice xA xn xc] : Array Value)[j]? = some v → W6.cell? ((⟨gm, 0, none⟩ : Addr).add j) = some v := fun j v hv => by rw [HBM6.out.cellAdd]; exact hv
      have z0 := HBR6.out.cell 0
      have z1 := HBR6.out.cell 1
      have z2 := HBR6.out.cell 2
      have z3 := HBR6.out.cell 3
      have z4 := HBR6.out.cell 4
      have y0 := HBR6.out.frozen 0
      have y1 := HBR6.out.frozen 1
      have y2 := HBR6.out.frozen 2
      have y3 := HBR6.out.frozen 3
      have y4 := HBR6.out.frozen 4
      simp only [List.getElem?_toArray, List.getElem?_cons_succ, List.getElem?_cons_zero] at z0 z1 z2 z3 z4
      go_upto_region 9 with (fail)
      go_wp2_with (refine wpList_load_any rfl 43 _ rfl ⟨gm, 0, none⟩ (by first | rfl | simp) #[.int .u16 (x1 : Int), .bool x2, .int .u32 (x3 : Int), .int .u32 (x4 : Int), .slice xA xn xc] _ hld Try.underlying43 rfl msg_sz ?_)
      obtain ⟨W7, hW7⟩ : ∃ W7, W7 = ((((W6.setCell ⟨gr, 0, none⟩ (.int .u16 (x1 : Int))).setCell ⟨gr, 1, none⟩ (.bool x2)).setCell ⟨gr, 2, none⟩ (.int .u32 (x3 : Int))).setCell ⟨gr, 3, none⟩ (.int .u32 (x4 : Int))).setCell ⟨gr, 4, none⟩ (.slice xA xn xc) := ⟨_, rfl⟩
      have hb7 : Blk W7 gr 43 #[.int .u16 (x1 : Int), .bool x2, .int .u32 (x3 : Int), .int .u32 (x4 : Int), .slice xA xn xc] := by rw [hW7]; exact ((((HBR6.out.set_ 0 _).set_ 1 _).set_ 2 _).set_ 3 _).set_ 4 _
      have hf7 : Fr (fun i => i = gr) W6 W7 := by rw [hW7]; exact ((((((Fr.refl (fun i => i = gr) W6).setCell (p := ⟨gr, 0, none⟩) (.inl rfl) _).setCell (p := ⟨gr, 1, none⟩) (.inl rfl) _).setCell (p := ⟨gr, 2, none⟩) (.inl rfl) _).setCell (p := ⟨gr, 3, none⟩) (.inl rfl) _).setCell (p := ⟨gr, 4, none⟩) (.inl rfl) _)
      rw [← hW7]
      clear hW7
      (try simp only [Exit.inBlock, Exit.then])
      refine bodyPost_ret (res_msg rfl _ _ gr _ rfl rfl hb7) rfl ?_
      have hfa : Fr (fun i => i = p ∨ i = gr) W3 W7 := (HF6.out.mono (fun i hi e => .inl e)).trans hf7 (fun i hi e => .inr e)
      have hft : Fr (fun i => i < w.heap.size ∧ (i = g ∨ i = p)) w W7 := HF3.out.trans hfa (fun i hi e => ⟨hi, e.elim .inr (fun e => by have := HGR.out; omega)⟩)
      have hend := take_end HK.out (X := X) (rv' := (.slice (some ⟨g, o + 5, none⟩) l (c - 1))) (w' := W7) (g := g) HT4.out hft (HJ6.out.fr hf7 (by have := HGR.out; have := HPW.out; omega)) (.inr ⟨g, o + 5, c - 1, cs3, by rw [← HLL.out], (fun e => hl0 (by rw [HLL.out, e]; rfl)), (hf7.blk (HF6.out.blk HBC3.out (fun e => HP.out e.symm)) (by have := HGR.out; have := HGW.out; omega)), HT4.out, by have := HSZ.out; have := HC3.out; omega, by rw [← HLL.out]; omega, by omega, fun i y hy j u hu => by rw [HC4.out _ (by omega)]; have h9 := HROW.out (i + 1) y hy j u hu; rw [← h9]; congr 1; omega⟩) (by rw [HH2.out, HHH.out, HXN.out, HXE.out])
      rw [HXE.out] at hend
      rw [HXN.out]
      exact hend
end
end Go.Proofs.Ytioddokjogbmnaa.Chk
