/-
  Contracts of package chunk's reader: all of it; flags; read.
-/
import Derived.Test.YtpgklhecmafnbaaChF
set_option linter.unusedVariables false
set_option linter.unusedSimpArgs false
namespace Go.Proofs.Ytpgklhecmafnbaa.Chk
open Go.ChangeShapes Go.WideShapes Go.ChangeAt Go.RowKit Go.Deep Go.Proofs.Ytpgklhecmafnbaa.Words Go.Proofs.Ytpgklhecmafnbaa.Oct Go.Proofs.Ytpgklhecmafnbaa.Par

/-- Cells of a chunk, its lists rows of the call's own. -/
def CkOwn (w : World) (B : Nat) (cs : Array Value) (c : Ck) : Prop :=
  ∃ gv dv sv pv bv, cs = ckArr c gv dv sv pv bv ∧ w.ownsRow B 85 2 gv c.gaps.length (gapC c.gaps) ∧ w.ownsRow B 25 1 dv c.dups.length (dupC c.dups) ∧
    w.ownsRow B 87 3 sv c.skips.length (skC c.skips) ∧ OwnPs w B pv c.ps ∧ Own w B bv c.body
section
variable {w w' : World} {B B' : Nat} {cs : Array Value} {c : Ck}
theorem CkOwn.fr {S : Nat → Prop} (h : CkOwn w B cs c) (k : Fr S w w') (hS : ∀ i, S i → i < w.heap.size → i < B) : CkOwn w' B cs c := by
  obtain ⟨gv, dv, sv, pv, bv, e, h1, h2, h3, h4, h5⟩ := h
  have o : ∀ {t : TypeId} {size n : Nat} {v : Value} {xs : List Value}, w.ownsRow B t size v n xs → w'.ownsRow B t size v n xs := fun hx => k.own hx (fun g hg hi => by have := hx.lt g hg; have := hS g hi this.2; omega)
  exact ⟨gv, dv, sv, pv, bv, e, o h1, o h2, o h3, h4.fr k hS, o h5⟩
theorem CkOwn.grows (h : CkOwn w B cs c) (k : Below w.heap.size w w') : CkOwn w' B cs c := h.fr (Fr.of_below k) (fun i hi hlt => by omega)
theorem CkOwn.mono (h : CkOwn w B cs c) (hB : B' ≤ B) : CkOwn w B' cs c := by
  obtain ⟨gv, dv, sv, pv, bv, e, h1, h2, h3, h4, h5⟩ := h
  exact ⟨gv, dv, sv, pv, bv, e, own_mono h1 hB, own_mono h2 hB, own_mono h3 hB, h4.mono hB, own_mono h5 hB⟩
end
/-- What chunk leaves. -/
def ChunkGot (w : World) (p G r g : Nat) (l : List UInt8) (bw : Bool) (c : Ck) (e : Ending) (w' : World) : Prop :=
  e = .returned (.tuple #[]) ∧
  ((∃ cs c', decB c l = some c' ∧ RS w w' p G r g [] false bw cs ∧ CkOwn w' w.heap.size cs c') ∨
   (decB c l = none ∧ ∃ l' b' bw' cs, RS w w' p G r g l' b' bw' cs ∧ (b' = true ∨ bw' = true ∨ l' ≠ [])))
abbrev nilV : Value := .slice none 0 0
theorem own_g {w V : World} {B size n g i : Nat} {t : TypeId} {v u : Value} {xs : List Value} (h : V.ownsRow B t size v n xs) (hg : g < B) : (V.setCell ⟨g, i, none⟩ u).ownsRow B t size v n xs :=
  ((Fr.refl (fun k => k = g) V).setCell (p := ⟨g, i, none⟩) (.inl rfl) u).own h (fun b hb e => by have := (h.lt b hb).1; have e' : b = g := e; omega)
theorem ownps_g {V : World} {B g i : Nat} {v u : Value} {ls : List Prm} (h : OwnPs V B v ls) (hg : g < B) : OwnPs (V.setCell ⟨g, i, none⟩ u) B v ls :=
  h.fr ((Fr.refl (fun k => k = g) V).setCell (p := ⟨g, i, none⟩) (.inl rfl) u) (fun j hj _ => by have e : j = g := hj; omega)
theorem nilG {w : World} {B : Nat} : w.ownsRow B 85 2 nilV ([] : List Gp).length (gapC []) := World.ownsRow_nil _ _ _ _
theorem nilD {w : World} {B : Nat} : w.ownsRow B 25 1 nilV ([] : List Nat).length (dupC []) := World.ownsRow_nil _ _ _ _
theorem nilS {w : World} {B : Nat} : w.ownsRow B 87 3 nilV ([] : List Skp).length (skC []) := World.ownsRow_nil _ _ _ _
theorem nilB {w : World} {B : Nat} : Own w B nilV [] := World.ownsRow_nil _ _ _ _
/-- A chunk of which only the kind and the flags are known. -/
structure Bare (c : Ck) : Prop where
  gaps : c.gaps = []
  dups : c.dups = []
  skips : c.skips = []
  ps : c.ps = []
  body : c.body = []

set_option maxHeartbeats 16000000 in
set_option maxRecDepth 100000 in
theorem chunk_r {w : World} {p G r g : Nat} {l : List UInt8} {bw : Bool} {c : Ck} (hK : known c.kind = true) (hl : l.length ≤ 200000) (hbare : Bare c) (h : RS w w p G r g l false bw (ckArr c nilV nilV nilV nilV nilV)) :
    Calls Try.prog 69 #[rptr r, cptr g] w (ChunkGot w p G r g l bw c) := by
  have HLT := Lib.hid h.lts
  have HL := Lib.hid hl
  have HBA := Lib.hid hbare
  obtain ⟨W1, hW1⟩ : ∃ W1, W1 = w := ⟨_, rfl⟩
  have HR1 : Hid (RS w W1 p G r g l false bw (ckArr c nilV nilV nilV nilV nilV)) := by rw [hW1]; exact h
  have HW1 : Hid (W1 = w) := hW1
  rw [← hW1] at h
  rw [show Calls Try.prog 69 #[rptr r, cptr g] w = Calls Try.prog 69 #[rptr r, cptr g] W1 by rw [hW1]]
  have k0 : W1.cell? ⟨g, 0, none⟩ = some (.int .u8 (c.kind : Int)) := CkBlk.at HR1.out.blk rfl
  clear h hW1 hl hbare
  go_enter Try.func69, Try.ntmps69
  rcases kinds hK with hk | hk | hk | hk | hk | hk | hk | hk | hk | hk | hk | hk | hk | hk | hk | hk | hk
  · rw [hk] at k0
    go_wp2_with fail
    clear k0
    refine (frag0_r hk HR1.out.here).mono ?_
    rintro e W2 ⟨rfl, h2⟩
    have HR2 := Lib.hid (h2.since HR1.out.fr)
    clear h2 HR1
    go_wp2_with fail
    refine (rest_r HR2.out.here (by first | (have := HL.out; omega) | (refine Nat.le_trans (cutL_len _ _) ?_; have := HL.out; omega))).mono ?_
    rintro e W3 ⟨v, rfl, ho, h3⟩
    have HR3 := Lib.hid (h3.since HR2.out.fr)
    have HO := Lib.hid (own_mono ho HR2.out.size)
    obtain ⟨A, cp, rfl, _, _⟩ := own_slice ho
    have kc := CkBlk.at (i := 18) HR3.out.blk rfl
    have kf := HR3.out.blk.frozen 18
    clear ho h3 HR2
    go_wp2_with fail
    go_end0
    have HR9 := HR3.out.setC 18 (.slice A (cutL 12 l).length cp)
    have HO9 := own_g (w := w) (i := 18) (u := .slice A (cutL 12 l).length cp) HO.out HLT.out.2.2
    refine ⟨rfl, ?_⟩
    by_cases hlen : 12 ≤ l.length
    · rw [cutB_yes hlen] at HR9
      have e : decB c l = some (withFrag c l) := by simp [decB, hk, hlen]
      refine .inl ⟨_, _, e, HR9, ?_⟩
      have hb := HBA.out; obtain ⟨b1, b2, b3, b4, b5⟩ := hb
      unfold withFrag
      rw [if_pos hk]
      rw [cutL_yes hlen] at HO9 ⊢
      refine ⟨nilV, nilV, nilV, nilV, .slice A (l.drop 12).length cp, ?_, by show World.ownsRow _ _ _ _ _ c.gaps.length (gapC c.gaps); rw [b1]; exact nilG, by show World.ownsRow _ _ _ _ _ c.dups.length (dupC c.dups); rw [b2]; exact nilD, by show World.ownsRow _ _ _ _ _ c.skips.length (skC c.skips); rw [b3]; exact nilS, by show OwnPs _ _ _ c.ps; rw [b4]; exact OwnPs.nil _ _, HO9⟩
      rw [val_yes (n := 4) (l := l) (by omega), val_cut (a := 2) (b := 4) (by omega), val_cut (a := 2) (b := 6) (by omega), val_cut (a := 4) (b := 8) (by omega)]
      rfl
    · rw [cutB_no hlen] at HR9
      exact .inr ⟨by simp [decB, hk, hlen], _, _, _, _, HR9, .inl rfl⟩
  · rw [hk] at k0
    go_wp2_with fail
    clear k0
    refine (greet_r HR1.out.here).mono ?_
    rintro e W2 ⟨rfl, h2⟩
    have HR2 := Lib.hid (h2.since HR1.out.fr)
    clear h2 HR1
    go_wp2_with fail
    refine (params_r HR2.out.here (by first | (have := HL.out; omega) | (refine Nat.le_trans (cutL_len _ _) ?_; have := HL.out; omega))).mono ?_
    rintro e W3 hd
    have HGE := Lib.hid HR2.out.size
    have HFR := Lib.hid HR2.out.fr
    rcases hd with ⟨v, ls, hls, rfl, ho, h3⟩ | ⟨ke, A, cp, hke, rfl, hcp, h3⟩
    · have HR3 := Lib.hid (h3.since HFR.out)
      have HO := Lib.hid (ho.mono HGE.out)
      obtain ⟨A, cp, rfl, _, _⟩ := ho.slice
      have HLS := Lib.hid hls
      have kc := CkBlk.at (i := 17) HR3.out.blk rfl
      have kf := HR3.out.blk.frozen 17
      clear ho h3 hls HR2
      go_wp2_with fail
      go_end0
      have HR9 := HR3.out.setC 17 (.slice A ls.length cp)
      have HO9 := ownps_g (i := 17) (u := .slice A ls.length cp) HO.out HLT.out.2.2
      refine ⟨rfl, ?_⟩
      by_cases hlen : 16 ≤ l.length
      · rw [cutB_yes hlen] at HR9
        have hls := HLS.out
        rw [cutL_yes hlen] at hls
        have hb := HBA.out; obtain ⟨b1, b2, b3, b4, b5⟩ := hb
        refine .inl ⟨_, { withGreet c l with ps := ls }, by simp [decB, hk, hlen, hls, withPs], HR9, nilV, nilV, nilV, .slice A ls.length cp, nilV, ?_, by show World.ownsRow _ _ _ _ _ c.gaps.length (gapC c.gaps); rw [b1]; exact nilG, by show World.ownsRow _ _ _ _ _ c.dups.length (dupC c.dups); rw [b2]; exact nilD, by show World.ownsRow _ _ _ _ _ c.skips.length (skC c.skips); rw [b3]; exact nilS, HO9, by show Own _ _ _ c.body; rw [b5]; exact nilB⟩
        rw [val_yes (n := 4) (l := l) (by omega), val_cut (a := 4) (b := 4) (by omega), val_cut (a := 2) (b := 8) (by omega), val_cut (a := 2) (b := 10) (by omega), val_cut (a := 4) (b := 12) (by omega)]
        rfl
      · rw [cutB_no hlen] at HR9
        exact .inr ⟨by simp [decB, hk, hlen], _, _, _, _, HR9, .inl rfl⟩
    · have HR3 := Lib.hid (h3.since HFR.out)
      have HKE := Lib.hid hke
      have kc := CkBlk.at (i := 17) HR3.out.blk rfl
      have kf := HR3.out.blk.frozen 17
      clear h3 hke HR2
      go_wp2_with fail
      go_end0
      have HR9 := HR3.out.setC 17 (.slice A 0 cp)
      refine ⟨rfl, ?_⟩
      by_cases hlen : 16 ≤ l.length
      · have hke := HKE.out
        rw [cutL_yes hlen] at hke
        exact .inr ⟨by simp [decB, hk, hlen, hke, withPs], _, _, _, _, HR9, .inr (.inl rfl)⟩
      · exact .inr ⟨by simp [decB, hk, hlen], _, _, _, _, HR9, .inr (.inl rfl)⟩
  · rw [hk] at k0
    go_wp2_with fail
    clear k0
    refine (greet_r HR1.out.here).mono ?_
    rintro e W2 ⟨rfl, h2⟩
    have HR2 := Lib.hid (h2.since HR1.out.fr)
    clear h2 HR1
    go_wp2_with fail
    refine (params_r HR2.out.here (by first | (have := HL.out; omega) | (refine Nat.le_trans (cutL_len _ _) ?_; have := HL.out; omega))).mono ?_
    rintro e W3 hd
    have HGE := Lib.hid HR2.out.size
    have HFR := Lib.hid HR2.out.fr
    rcases hd with ⟨v, ls, hls, rfl, ho, h3⟩ | ⟨ke, A, cp, hke, rfl, hcp, h3⟩
    · have HR3 := Lib.hid (h3.since HFR.out)
      have HO := Lib.hid (ho.mono HGE.out)
      obtain ⟨A, cp, rfl, _, _⟩ := ho.slice
      have HLS := Lib.hid hls
      have kc := CkBlk.at (i := 17) HR3.out.blk rfl
      have kf := HR3.out.blk.frozen 17
      clear ho h3 hls HR2
      go_wp2_with fail
      go_end0
      have HR9 := HR3.out.setC 17 (.slice A ls.length cp)
      have HO9 := ownps_g (i := 17) (u := .slice A ls.length cp) HO.out HLT.out.2.2
      refine ⟨rfl, ?_⟩
      by_cases hlen : 16 ≤ l.length
      · rw [cutB_yes hlen] at HR9
        have hls := HLS.out
        rw [cutL_yes hlen] at hls
        have hb := HBA.out; obtain ⟨b1, b2, b3, b4, b5⟩ := hb
        refine .inl ⟨_, { withGreet c l with ps := ls }, by simp [decB, hk, hlen, hls, withPs], HR9, nilV, nilV, nilV, .slice A ls.length cp, nilV, ?_, by show World.ownsRow _ _ _ _ _ c.gaps.length (gapC c.gaps); rw [b1]; exact nilG, by show World.ownsRow _ _ _ _ _ c.dups.length (dupC c.dups); rw [b2]; exact nilD, by show World.ownsRow _ _ _ _ _ c.skips.length (skC c.skips); rw [b3]; exact nilS, HO9, by show Own _ _ _ c.body; rw [b5]; exact nilB⟩
        rw [val_yes (n := 4) (l := l) (by omega), val_cut (a := 4) (b := 4) (by omega), val_cut (a := 2) (b := 8) (by omega), val_cut (a := 2) (b := 10) (by omega), val_cut (a := 4) (b := 12) (by omega)]
        rfl
      · rw [cutB_no hlen] at HR9
        exact .inr ⟨by simp [decB, hk, hlen], _, _, _, _, HR9, .inl rfl⟩
    · have HR3 := Lib.hid (h3.since HFR.out)
      have HKE := Lib.hid hke
      have kc := CkBlk.at (i := 17) HR3.out.blk rfl
      have kf := HR3.out.blk.frozen 17
      clear h3 hke HR2
      go_wp2_with fail
      go_end0
      have HR9 := HR3.out.setC 17 (.slice A 0 cp)
      refine ⟨rfl, ?_⟩
      by_cases hlen : 16 ≤ l.length
      · have hke := HKE.out
        rw [cutL_yes hlen] at hke
        exact .inr ⟨by simp [decB, hk, hlen, hke, withPs], _, _, _, _, HR9, .inr (.inl rfl)⟩
      · exact .inr ⟨by simp [decB, hk, hlen], _, _, _, _, HR9, .inr (.inl rfl)⟩
  · rw [hk] at k0
    go_wp2_with fail
    clear k0
    refine (sack_r (by have := HL.out; omega) HR1.out.here).mono ?_
    rintro e W2 ⟨rfl, h2⟩
    have HD := Lib.hid h2
    clear h2
    go_wp2_with fail
    go_end0
    refine ⟨rfl, ?_⟩
    have hW := HW1.out
    rcases HD.out with ⟨gv, dv, hq, h2, h3, h4⟩ | ⟨hq, l2, b2, cs2, h2⟩
    · have HR9 := h2.since HR1.out.fr
      by_cases hlen : 12 ≤ l.length
      · rw [cutB_yes hlen] at HR9
        rw [cutL_yes hlen, List.length_drop, val_cut (a := 2) (b := 8) (by omega), val_cut (a := 2) (b := 10) (by omega)] at hq
        rw [cutL_yes hlen, val_cut (a := 2) (b := 8) (by omega)] at h3
        rw [cutL_yes hlen, val_cut (a := 2) (b := 8) (by omega), val_cut (a := 2) (b := 10) (by omega)] at h4
        have e : decB c l = some (withSack c l) := by simp [decB, hk, hasBody, hlen, hq]
        have hb := HBA.out; obtain ⟨b1, b2, b3, b4, b5⟩ := hb
        have hg := (enc_gapsN (num ((l.drop 8).take 2)) (l.drop 12) (by rw [List.length_drop]; omega)).2.1
        have hd := (enc_dupsN (num ((l.drop 10).take 2)) ((l.drop 12).drop (4 * num ((l.drop 8).take 2))) (by rw [List.length_drop, List.length_drop]; omega)).2.1
        refine .inl ⟨_, _, e, HR9, gv, dv, nilV, nilV, nilV, ?_, ?_, ?_, by show World.ownsRow _ _ _ _ _ c.skips.length (skC c.skips); rw [b3]; exact nilS, by show OwnPs _ _ _ c.ps; rw [b4]; exact OwnPs.nil _ _, by show Own _ _ _ c.body; rw [b5]; exact nilB⟩
        · rw [val_yes (n := 4) (l := l) (by omega), val_cut (a := 4) (b := 4) (by omega)]; rfl
        · show World.ownsRow _ _ _ _ _ (gapsN _ _).length (gapC (gapsN _ _)); rw [hg]; rw [hW] at h3; exact h3
        · show World.ownsRow _ _ _ _ _ (dupsN _ _).length (dupC (dupsN _ _)); rw [hd]; rw [hW] at h4; exact h4
      · rw [cutB_no hlen] at HR9
        exact .inr ⟨by simp [decB, hk, hlen], _, _, _, _, HR9, .inl rfl⟩
    · have HR9 := h2.since HR1.out.fr
      refine .inr ⟨?_, _, _, _, _, HR9, .inr (.inl rfl)⟩
      by_cases hlen : 12 ≤ l.length
      · rw [cutL_yes hlen, List.length_drop, val_cut (a := 2) (b := 8) (by omega), val_cut (a := 2) (b := 10) (by omega)] at hq
        simp [decB, hk, hlen, hq]
      · simp [decB, hk, hlen]
  · rw [hk] at k0
    go_wp2_with fail
    clear k0
    refine (rest_r HR1.out.here (by first | (have := HL.out; omega) | (refine Nat.le_trans (cutL_len _ _) ?_; have := HL.out; omega))).mono ?_
    rintro e W3 ⟨v, rfl, ho, h3⟩
    have HR3 := Lib.hid (h3.since HR1.out.fr)
    have HO := Lib.hid (own_mono ho HR1.out.size)
    obtain ⟨A, cp, rfl, _, _⟩ := own_slice ho
    have kc := CkBlk.at (i := 18) HR3.out.blk rfl
    have kf := HR3.out.blk.frozen 18
    clear ho h3 HR1
    go_wp2_with fail
    go_end0
    have HR9 := HR3.out.setC 18 (.slice A (l).length cp)
    have HO9 := own_g (w := w) (i := 18) (u := .slice A (l).length cp) HO.out HLT.out.2.2
    refine ⟨rfl, ?_⟩
    have hb := HBA.out; obtain ⟨b1, b2, b3, b4, b5⟩ := hb
    refine .inl ⟨_, { c with body := l }, by simp [decB, hk], HR9, nilV, nilV, nilV, nilV, .slice A l.length cp, rfl, by show World.ownsRow _ _ _ _ _ c.gaps.length (gapC c.gaps); rw [b1]; exact nilG, by show World.ownsRow _ _ _ _ _ c.dups.length (dupC c.dups); rw [b2]; exact nilD, by show World.ownsRow _ _ _ _ _ c.skips.length (skC c.skips); rw [b3]; exact nilS, by show OwnPs _ _ _ c.ps; rw [b4]; exact OwnPs.nil _ _, HO9⟩
  · rw [hk] at k0
    go_wp2_with fail
    clear k0
    refine (rest_r HR1.out.here (by first | (have := HL.out; omega) | (refine Nat.le_trans (cutL_len _ _) ?_; have := HL.out; omega))).mono ?_
    rintro e W3 ⟨v, rfl, ho, h3⟩
    have HR3 := Lib.hid (h3.since HR1.out.fr)
    have HO := Lib.hid (own_mono ho HR1.out.size)
    obtain ⟨A, cp, rfl, _, _⟩ := own_slice ho
    have kc := CkBlk.at (i := 18) HR3.out.blk rfl
    have kf := HR3.out.blk.frozen 18
    clear ho h3 HR1
    go_wp2_with fail
    go_end0
    have HR9 := HR3.out.setC 18 (.slice A (l).length cp)
    have HO9 := own_g (w := w) (i := 18) (u := .slice A (l).length cp) HO.out HLT.out.2.2
    refine ⟨rfl, ?_⟩
    have hb := HBA.out; obtain ⟨b1, b2, b3, b4, b5⟩ := hb
    refine .inl ⟨_, { c with body := l }, by simp [decB, hk], HR9, nilV, nilV, nilV, nilV, .slice A l.length cp, rfl, by show World.ownsRow _ _ _ _ _ c.gaps.length (gapC c.gaps); rw [b1]; exact nilG, by show World.ownsRow _ _ _ _ _ c.dups.length (dupC c.dups); rw [b2]; exact nilD, by show World.ownsRow _ _ _ _ _ c.skips.length (skC c.skips); rw [b3]; exact nilS, by show OwnPs _ _ _ c.ps; rw [b4]; exact OwnPs.nil _ _, HO9⟩
  · rw [hk] at k0
    go_wp2_with fail
    clear k0
    refine (params_r HR1.out.here (by first | (have := HL.out; omega) | (refine Nat.le_trans (cutL_len _ _) ?_; have := HL.out; omega))).mono ?_
    rintro e W3 hd
    have HGE := Lib.hid HR1.out.size
    have HFR := Lib.hid HR1.out.fr
    rcases hd with ⟨v, ls, hls, rfl, ho, h3⟩ | ⟨ke, A, cp, hke, rfl, hcp, h3⟩
    · have HR3 := Lib.hid (h3.since HFR.out)
      have HO := Lib.hid (ho.mono HGE.out)
      obtain ⟨A, cp, rfl, _, _⟩ := ho.slice
      have HLS := Lib.hid hls
      have kc := CkBlk.at (i := 17) HR3.out.blk rfl
      have kf := HR3.out.blk.frozen 17
      clear ho h3 hls HR1
      go_wp2_with fail
      go_end0
      have HR9 := HR3.out.setC 17 (.slice A ls.length cp)
      have HO9 := ownps_g (i := 17) (u := .slice A ls.length cp) HO.out HLT.out.2.2
      refine ⟨rfl, ?_⟩
      have hb := HBA.out; obtain ⟨b1, b2, b3, b4, b5⟩ := hb
      exact .inl ⟨_, { c with ps := ls }, by simp [decB, hk, hasPs, HLS.out, withPs], HR9, nilV, nilV, nilV, .slice A ls.length cp, nilV, rfl, by show World.ownsRow _ _ _ _ _ c.gaps.length (gapC c.gaps); rw [b1]; exact nilG, by show World.ownsRow _ _ _ _ _ c.dups.length (dupC c.dups); rw [b2]; exact nilD, by show World.ownsRow _ _ _ _ _ c.skips.length (skC c.skips); rw [b3]; exact nilS, HO9, by show Own _ _ _ c.body; rw [b5]; exact nilB⟩
    · have HR3 := Lib.hid (h3.since HFR.out)
      have HKE := Lib.hid hke
      have kc := CkBlk.at (i := 17) HR3.out.blk rfl
      have kf := HR3.out.blk.frozen 17
      clear h3 hke HR1
      go_wp2_with fail
      go_end0
      have HR9 := HR3.out.setC 17 (.slice A 0 cp)
      refine ⟨rfl, ?_⟩
      exact .inr ⟨by simp [decB, hk, hasPs, HKE.out, withPs], _, _, _, _, HR9, .inr (.inl rfl)⟩
  · rw [hk] at k0
    have d0 : W1.cell? ⟨r, 0, none⟩ = some (rptr p) := HR1.out.rblk.cell 0
    go_wp2_with fail
    refine (rdx_u32 HR1.out.rd).mono ?_
    rintro e W2 ⟨rfl, h1, h2⟩
    have HR2 := Lib.hid (HR1.out.step h1 h2)
    have kc := CkBlk.at (i := 5) HR2.out.blk rfl
    have kf := HR2.out.blk.frozen 5
    clear h1 h2 d0 k0
    go_wp2_with fail
    go_end0
    refine ⟨rfl, ?_⟩
    have HR9 := HR2.out.setC 5 (.int .u32 ((val 4 l : Nat) : Int))
    by_cases hlen : 4 ≤ l.length
    · rw [cutB_yes hlen, cutL_yes hlen] at HR9
      by_cases h4 : l.length = 4
      · rw [List.drop_of_length_le (by omega)] at HR9
        have hb := HBA.out; obtain ⟨b1, b2, b3, b4, b5⟩ := hb
        refine .inl ⟨_, { c with tsn := num (l.take 4) }, by simp [decB, hk, hasPs, h4], HR9, nilV, nilV, nilV, nilV, nilV, by rw [val_yes hlen]; rfl, by show World.ownsRow _ _ _ _ _ c.gaps.length (gapC c.gaps); rw [b1]; exact nilG, by show World.ownsRow _ _ _ _ _ c.dups.length (dupC c.dups); rw [b2]; exact nilD, by show World.ownsRow _ _ _ _ _ c.skips.length (skC c.skips); rw [b3]; exact nilS, by show OwnPs _ _ _ c.ps; rw [b4]; exact OwnPs.nil _ _, by show Own _ _ _ c.body; rw [b5]; exact nilB⟩
      · exact .inr ⟨by simp [decB, hk, hasPs, h4], _, _, _, _, HR9, .inr (.inr (fun e => by have := congrArg List.length e; rw [List.length_drop] at this; simp at this; omega))⟩
    · rw [cutB_no hlen] at HR9
      exact .inr ⟨by simp [decB, hk, hasPs, show ¬ l.length = 4 by omega], _, _, _, _, HR9, .inl rfl⟩
  · rw [hk] at k0
    go_wp2_with fail
    go_end0
    refine ⟨rfl, ?_⟩
    by_cases hn : l = []
    · subst hn
      have hb := HBA.out; obtain ⟨b1, b2, b3, b4, b5⟩ := hb
      exact .inl ⟨_, c, by simp [decB, hk, hasPs], HR1.out, nilV, nilV, nilV, nilV, nilV, rfl, by rw [b1]; exact nilG, by rw [b2]; exact nilD, by rw [b3]; exact nilS, by rw [b4]; exact OwnPs.nil _ _, by rw [b5]; exact nilB⟩
    · exact .inr ⟨by simp [decB, hk, hasPs, hn], _, _, _, _, HR1.out, .inr (.inr hn)⟩
  · rw [hk] at k0
    go_wp2_with fail
    clear k0
    refine (params_r HR1.out.here (by first | (have := HL.out; omega) | (refine Nat.le_trans (cutL_len _ _) ?_; have := HL.out; omega))).mono ?_
    rintro e W3 hd
    have HGE := Lib.hid HR1.out.size
    have HFR := Lib.hid HR1.out.fr
    rcases hd with ⟨v, ls, hls, rfl, ho, h3⟩ | ⟨ke, A, cp, hke, rfl, hcp, h3⟩
    · have HR3 := Lib.hid (h3.since HFR.out)
      have HO := Lib.hid (ho.mono HGE.out)
      obtain ⟨A, cp, rfl, _, _⟩ := ho.slice
      have HLS := Lib.hid hls
      have kc := CkBlk.at (i := 17) HR3.out.blk rfl
      have kf := HR3.out.blk.frozen 17
      clear ho h3 hls HR1
      go_wp2_with fail
      go_end0
      have HR9 := HR3.out.setC 17 (.slice A ls.length cp)
      have HO9 := ownps_g (i := 17) (u := .slice A ls.length cp) HO.out HLT.out.2.2
      refine ⟨rfl, ?_⟩
      have hb := HBA.out; obtain ⟨b1, b2, b3, b4, b5⟩ := hb
      exact .inl ⟨_, { c with ps := ls }, by simp [decB, hk, hasPs, HLS.out, withPs], HR9, nilV, nilV, nilV, .slice A ls.length cp, nilV, rfl, by show World.ownsRow _ _ _ _ _ c.gaps.length (gapC c.gaps); rw [b1]; exact nilG, by show World.ownsRow _ _ _ _ _ c.dups.length (dupC c.dups); rw [b2]; exact nilD, by show World.ownsRow _ _ _ _ _ c.skips.length (skC c.skips); rw [b3]; exact nilS, HO9, by show Own _ _ _ c.body; rw [b5]; exact nilB⟩
    · have HR3 := Lib.hid (h3.since HFR.out)
      have HKE := Lib.hid hke
      have kc := CkBlk.at (i := 17) HR3.out.blk rfl
      have kf := HR3.out.blk.frozen 17
      clear h3 hke HR1
      go_wp2_with fail
      go_end0
      have HR9 := HR3.out.setC 17 (.slice A 0 cp)
      refine ⟨rfl, ?_⟩
      exact .inr ⟨by simp [decB, hk, hasPs, HKE.out, withPs], _, _, _, _, HR9, .inr (.inl rfl)⟩
  · rw [hk] at k0
    go_wp2_with fail
    clear k0
    refine (rest_r HR1.out.here (by first | (have := HL.out; omega) | (refine Nat.le_trans (cutL_len _ _) ?_; have := HL.out; omega))).mono ?_
    rintro e W3 ⟨v, rfl, ho, h3⟩
    have HR3 := Lib.hid (h3.since HR1.out.fr)
    have HO := Lib.hid (own_mono ho HR1.out.size)
    obtain ⟨A, cp, rfl, _, _⟩ := own_slice ho
    have kc := CkBlk.at (i := 18) HR3.out.blk rfl
    have kf := HR3.out.blk.frozen 18
    clear ho h3 HR1
    go_wp2_with fail
    go_end0
    have HR9 := HR3.out.setC 18 (.slice A (l).length cp)
    have HO9 := own_g (w := w) (i := 18) (u := .slice A (l).length cp) HO.out HLT.out.2.2
    refine ⟨rfl, ?_⟩
    have hb := HBA.out; obtain ⟨b1, b2, b3, b4, b5⟩ := hb
    refine .inl ⟨_, { c with body := l }, by simp [decB, hk], HR9, nilV, nilV, nilV, nilV, .slice A l.length cp, rfl, by show World.ownsRow _ _ _ _ _ c.gaps.length (gapC c.gaps); rw [b1]; exact nilG, by show World.ownsRow _ _ _ _ _ c.dups.length (dupC c.dups); rw [b2]; exact nilD, by show World.ownsRow _ _ _ _ _ c.skips.length (skC c.skips); rw [b3]; exact nilS, by show OwnPs _ _ _ c.ps; rw [b4]; exact OwnPs.nil _ _, HO9⟩
  · rw [hk] at k0
    go_wp2_with fail
    go_end0
    refine ⟨rfl, ?_⟩
    by_cases hn : l = []
    · subst hn
      have hb := HBA.out; obtain ⟨b1, b2, b3, b4, b5⟩ := hb
      exact .inl ⟨_, c, by simp [decB, hk, hasPs], HR1.out, nilV, nilV, nilV, nilV, nilV, rfl, by rw [b1]; exact nilG, by rw [b2]; exact nilD, by rw [b3]; exact nilS, by rw [b4]; exact OwnPs.nil _ _, by rw [b5]; exact nilB⟩
    · exact .inr ⟨by simp [decB, hk, hasPs, hn], _, _, _, _, HR1.out, .inr (.inr hn)⟩
  · rw [hk] at k0
    go_wp2_with fail
    go_end0
    refine ⟨rfl, ?_⟩
    by_cases hn : l = []
    · subst hn
      have hb := HBA.out; obtain ⟨b1, b2, b3, b4, b5⟩ := hb
      exact .inl ⟨_, c, by simp [decB, hk, hasPs], HR1.out, nilV, nilV, nilV, nilV, nilV, rfl, by rw [b1]; exact nilG, by rw [b2]; exact nilD, by rw [b3]; exact nilS, by rw [b4]; exact OwnPs.nil _ _, by rw [b5]; exact nilB⟩
    · exact .inr ⟨by simp [decB, hk, hasPs, hn], _, _, _, _, HR1.out, .inr (.inr hn)⟩
  · rw [hk] at k0
    go_wp2_with fail
    clear k0
    refine (frag64_r hk HR1.out.here).mono ?_
    rintro e W2 ⟨rfl, h2⟩
    have HR2 := Lib.hid (h2.since HR1.out.fr)
    clear h2 HR1
    go_wp2_with fail
    refine (rest_r HR2.out.here (by first | (have := HL.out; omega) | (refine Nat.le_trans (cutL_len _ _) ?_; have := HL.out; omega))).mono ?_
    rintro e W3 ⟨v, rfl, ho, h3⟩
    have HR3 := Lib.hid (h3.since HR2.out.fr)
    have HO := Lib.hid (own_mono ho HR2.out.size)
    obtain ⟨A, cp, rfl, _, _⟩ := own_slice ho
    have kc := CkBlk.at (i := 18) HR3.out.blk rfl
    have kf := HR3.out.blk.frozen 18
    clear ho h3 HR2
    go_wp2_with fail
    go_end0
    have HR9 := HR3.out.setC 18 (.slice A (cutL 16 l).length cp)
    have HO9 := own_g (w := w) (i := 18) (u := .slice A (cutL 16 l).length cp) HO.out HLT.out.2.2
    refine ⟨rfl, ?_⟩
    by_cases hlen : 16 ≤ l.length
    · rw [cutB_yes hlen, val_cut (a := 2) (b := 6) (by omega)] at HR9
      by_cases hz : num ((l.drop 6).take 2) = 0
      · rw [hz, (by cases bw <;> rfl : (bw || ((0 : Nat) != 0)) = bw)] at HR9
        have e : decB c l = some (withFrag c l) := by simp [decB, hk, hlen, hz]
        refine .inl ⟨_, _, e, HR9, ?_⟩
        have hb := HBA.out; obtain ⟨b1, b2, b3, b4, b5⟩ := hb
        unfold withFrag wideFrag
        rw [if_neg (show ¬ c.kind = 0 by omega)]
        rw [cutL_yes hlen] at HO9 ⊢
        rw [val_yes (n := 4) (l := l) (by omega), val_cut (a := 2) (b := 4) (by omega), val_cut (a := 4) (b := 8) (by omega), val_cut (a := 4) (b := 12) (by omega)]
        cases c.bg
        · exact ⟨nilV, nilV, nilV, nilV, .slice A (l.drop 16).length cp, rfl, by show World.ownsRow _ _ _ _ _ c.gaps.length (gapC c.gaps); rw [b1]; exact nilG, by show World.ownsRow _ _ _ _ _ c.dups.length (dupC c.dups); rw [b2]; exact nilD, by show World.ownsRow _ _ _ _ _ c.skips.length (skC c.skips); rw [b3]; exact nilS, by show OwnPs _ _ _ c.ps; rw [b4]; exact OwnPs.nil _ _, HO9⟩
        · exact ⟨nilV, nilV, nilV, nilV, .slice A (l.drop 16).length cp, rfl, by show World.ownsRow _ _ _ _ _ c.gaps.length (gapC c.gaps); rw [b1]; exact nilG, by show World.ownsRow _ _ _ _ _ c.dups.length (dupC c.dups); rw [b2]; exact nilD, by show World.ownsRow _ _ _ _ _ c.skips.length (skC c.skips); rw [b3]; exact nilS, by show OwnPs _ _ _ c.ps; rw [b4]; exact OwnPs.nil _ _, HO9⟩
      · rw [show (num ((l.drop 6).take 2) != 0) = true by simpa using hz, Bool.or_true] at HR9
        exact .inr ⟨by simp [decB, hk, hlen, hz], _, _, _, _, HR9, .inr (.inl rfl)⟩
    · rw [cutB_no hlen] at HR9
      exact .inr ⟨by simp [decB, hk, hlen], _, _, _, _, HR9, .inl rfl⟩
  · rw [hk] at k0
    go_wp2_with fail
    clear k0
    refine (params_r HR1.out.here (by first | (have := HL.out; omega) | (refine Nat.le_trans (cutL_len _ _) ?_; have := HL.out; omega))).mono ?_
    rintro e W3 hd
    have HGE := Lib.hid HR1.out.size
    have HFR := Lib.hid HR1.out.fr
    rcases hd with ⟨v, ls, hls, rfl, ho, h3⟩ | ⟨ke, A, cp, hke, rfl, hcp, h3⟩
    · have HR3 := Lib.hid (h3.since HFR.out)
      have HO := Lib.hid (ho.mono HGE.out)
      obtain ⟨A, cp, rfl, _, _⟩ := ho.slice
      have HLS := Lib.hid hls
      have kc := CkBlk.at (i := 17) HR3.out.blk rfl
      have kf := HR3.out.blk.frozen 17
      clear ho h3 hls HR1
      go_wp2_with fail
      go_end0
      have HR9 := HR3.out.setC 17 (.slice A ls.length cp)
      have HO9 := ownps_g (i := 17) (u := .slice A ls.length cp) HO.out HLT.out.2.2
      refine ⟨rfl, ?_⟩
      have hb := HBA.out; obtain ⟨b1, b2, b3, b4, b5⟩ := hb
      exact .inl ⟨_, { c with ps := ls }, by simp [decB, hk, hasPs, HLS.out, withPs], HR9, nilV, nilV, nilV, .slice A ls.length cp, nilV, rfl, by show World.ownsRow _ _ _ _ _ c.gaps.length (gapC c.gaps); rw [b1]; exact nilG, by show World.ownsRow _ _ _ _ _ c.dups.length (dupC c.dups); rw [b2]; exact nilD, by show World.ownsRow _ _ _ _ _ c.skips.length (skC c.skips); rw [b3]; exact nilS, HO9, by show Own _ _ _ c.body; rw [b5]; exact nilB⟩
    · have HR3 := Lib.hid (h3.since HFR.out)
      have HKE := Lib.hid hke
      have kc := CkBlk.at (i := 17) HR3.out.blk rfl
      have kf := HR3.out.blk.frozen 17
      clear h3 hke HR1
      go_wp2_with fail
      go_end0
      have HR9 := HR3.out.setC 17 (.slice A 0 cp)
      refine ⟨rfl, ?_⟩
      exact .inr ⟨by simp [decB, hk, hasPs, HKE.out, withPs], _, _, _, _, HR9, .inr (.inl rfl)⟩
  · rw [hk] at k0
    go_wp2_with fail
    clear k0
    refine (fwd_r (by have := HL.out; omega) HR1.out.here).mono ?_
    rintro e W2 ⟨rfl, n, sv, xs, y, b, h2, h3, h4⟩
    have HR2 := Lib.hid (h2.since HR1.out.fr)
    have H3 := Lib.hid h3
    have H4 := Lib.hid h4
    clear h2 h3 h4
    go_wp2_with fail
    go_end0
    refine ⟨rfl, ?_⟩
    have hW := HW1.out
    have HR9 := HR2.out
    rcases H4.out with ⟨rfl, hn, hy, hx⟩ | ⟨rfl, hy, hx⟩
    · by_cases hlen : 4 ≤ l.length
      · rw [cutL_yes hlen] at hn hy hx
        rw [cutB_yes hlen] at HR9
        have hnl : l.length - 4 = 4 * n := by have e := congrArg List.length hy; simp only [List.length_drop, List.length_nil] at e; have hn3 := hn; rw [List.length_drop] at hn3; omega
        have hn2 : (l.length - 4) / 4 = n := by omega
        have hg := (enc_sksN n (l.drop 4) hn).2.1
        have hb := HBA.out; obtain ⟨b1, b2, b3, b4, b5⟩ := hb
        have h3 := H3.out
        rw [hW, hx] at h3
        refine .inl ⟨_, { c with tsn := num (l.take 4), skips := sksN n (l.drop 4) }, by simp [decB, hk, hasPs, hlen, hn2, show (l.length - 4) % 4 = 0 by omega], HR9, nilV, nilV, sv, nilV, nilV, by rw [val_yes hlen]; rfl, by show World.ownsRow _ _ _ _ _ c.gaps.length (gapC c.gaps); rw [b1]; exact nilG, by show World.ownsRow _ _ _ _ _ c.dups.length (dupC c.dups); rw [b2]; exact nilD, by show World.ownsRow _ _ _ _ _ (sksN n (l.drop 4)).length (skC (sksN n (l.drop 4))); rw [hg]; exact h3, by show OwnPs _ _ _ c.ps; rw [b4]; exact OwnPs.nil _ _, by show Own _ _ _ c.body; rw [b5]; exact nilB⟩
      · rw [cutB_no hlen] at HR9
        exact .inr ⟨by simp [decB, hk, hasPs, hlen], _, _, _, _, HR9, .inl rfl⟩
    · refine .inr ⟨?_, _, _, _, _, HR9, .inl rfl⟩
      by_cases hlen : 4 ≤ l.length
      · rw [cutL_yes hlen, List.length_drop] at hx
        simp [decB, hk, hasPs, hlen, hx]
      · simp [decB, hk, hasPs, hlen]
  · rw [hk] at k0
    go_wp2_with fail
    clear k0
    refine (wide_r (by have := HL.out; omega) HR1.out.here).mono ?_
    rintro e W2 ⟨rfl, n, sv, xs, b, w1, h2, h3, h4⟩
    have HR2 := Lib.hid (h2.since HR1.out.fr)
    have H3 := Lib.hid h3
    have H4 := Lib.hid h4
    clear h2 h3 h4
    go_wp2_with fail
    go_end0
    refine ⟨rfl, ?_⟩
    have hW := HW1.out
    have HR9 := HR2.out
    rcases H4.out with ⟨rfl, hn, hy, hx, hw⟩ | ⟨rfl, hy, hx⟩
    · by_cases hlen : 4 ≤ l.length
      · rw [cutL_yes hlen] at hn hy hx hw
        rw [cutB_yes hlen] at HR9
        have hnl : l.length - 4 = 8 * n := by have e := congrArg List.length hy; simp only [List.length_drop, List.length_nil] at e; have hn3 := hn; rw [List.length_drop] at hn3; omega
        have hn2 : (l.length - 4) / 8 = n := by omega
        cases hok : sksOk n (l.drop 4)
        · rw [hok] at hw
          have hw1 : w1 = true := by rw [hw]; simp
          rw [hw1] at HR9
          exact .inr ⟨by simp [decB, hk, hasPs, hlen, hn2, hok], _, _, _, _, HR9, .inr (.inl rfl)⟩
        · rw [hok] at hw
          have hw1 : w1 = bw := by rw [hw]; simp
          rw [hw1] at HR9
          have hg := (enc_sksV n (l.drop 4) hn hok).2.1
          have hb := HBA.out; obtain ⟨b1, b2, b3, b4, b5⟩ := hb
          have h3 := H3.out
          rw [hW, hx] at h3
          refine .inl ⟨_, { c with tsn := num (l.take 4), skips := sksV n (l.drop 4) }, by simp [decB, hk, hasPs, hlen, hn2, hok, show (l.length - 4) % 8 = 0 by omega], HR9, nilV, nilV, sv, nilV, nilV, by rw [val_yes hlen]; rfl, by show World.ownsRow _ _ _ _ _ c.gaps.length (gapC c.gaps); rw [b1]; exact nilG, by show World.ownsRow _ _ _ _ _ c.dups.length (dupC c.dups); rw [b2]; exact nilD, by show World.ownsRow _ _ _ _ _ (sksV n (l.drop 4)).length (skC (sksV n (l.drop 4))); rw [hg]; exact h3, by show OwnPs _ _ _ c.ps; rw [b4]; exact OwnPs.nil _ _, by show Own _ _ _ c.body; rw [b5]; exact nilB⟩
      · rw [cutB_no hlen] at HR9
        exact .inr ⟨by simp [decB, hk, hasPs, hlen], _, _, _, _, HR9, .inl rfl⟩
    · refine .inr ⟨?_, _, _, _, _, HR9, .inl rfl⟩
      by_cases hlen : 4 ≤ l.length
      · rw [cutL_yes hlen, List.length_drop] at hx
        simp [decB, hk, hasPs, hlen, hx]
      · simp [decB, hk, hasPs, hlen]

end Go.Proofs.Ytpgklhecmafnbaa.Chk
