/-
  Of the texts Jp16, Jp17, Jp18, Jp19, Jp20: what the laws reach.
-/
import Derived.Test.YtioddokjogbmnaaP22
import Derived.Shelf.SlSortCmp.NoneTotal

set_option linter.unusedVariables false
set_option linter.unusedSimpArgs false
set_option maxRecDepth 20000
namespace Go.Proofs.Ytioddokjogbmnaa.Chk
open Go.ChangeShapes Go.WideShapes Go.ChangeAt Go.RowKit Go.Deep Go.Maps Go.Proofs.Ytioddokjogbmnaa.Words Go.Proofs.Ytioddokjogbmnaa.Oct Go.Proofs.Ytioddokjogbmnaa.Par Go.Proofs.Ytioddokjogbmnaa.Mx
def keyP (inter : Bool) (q : Jo.Pc) : Gk := keyC inter q.st q.lo q.mid
def idxP (inter : Bool) (q : Jo.Pc) : Nat := if inter = true then q.fr else q.tsn
def atK (inter : Bool) (g : Gk) (pcs : List Jo.Pc) : List Jo.Pc := pcs.filter fun q => decide (keyP inter q = g)
section
variable {w w' : World} {T T' : Nat → Nat} {p bl bo h : Nat} {inter : Bool} {rv : Value} {S : Nat → Prop} {F F' : Gk → Option Nat} {pcs pcs' : List Jo.Pc} {r : Jo.Pc → Bool}
/-- The lines, and what they hold. -/
structure LnsR (w : World) (T : Nat → Nat) (bl : Nat) (inter : Bool) (F : Gk → Option Nat) (pcs : List Jo.Pc) : Prop where
  line : ∀ g b, F g = some b → T b = 2 ∧ b ≠ bl ∧ ∃ L, LineAt w b L ∧ LnOf (idxP inter) L (atK inter g pcs) ∧ ∀ i x, L i = some x → BodT w T x.A x.cp x.m.body ∧ x.m.body ≠ []
  all : ∀ q ∈ pcs, ∃ b, F (keyP inter q) = some b
  inj : ∀ g g' b, F g = some b → F g' = some b → g = g'
abbrev lptr (b : Nat) : Value := .map (some b)
structure LinesR (w : World) (T : Nat → Nat) (bl : Nat) (inter : Bool) (F : Gk → Option Nat) (pcs : List Jo.Pc) : Prop where
  tbl : T bl = 2
  map : MapX grpX w bl (fun g => (F g).map lptr)
  lns : LnsR w T bl inter F pcs
theorem LnsR.lt (k : LnsR w T bl inter F pcs) {g : Gk} {b : Nat} (h : F g = some b) : b < w.heap.size := by obtain ⟨_, _, L, h1, _⟩ := k.line g b h; exact h1.lt
theorem LnsR.fr (k : LnsR w T bl inter F pcs) (hf : Fr S w w') (h2 : ∀ i, i < w.heap.size → T i = 2 → i ≠ bl → ¬ S i) (h5 : ∀ i, i < w.heap.size → T i = 5 → ¬ S i) (he : ∀ i, i < w.heap.size → T' i = T i) : LnsR w' T' bl inter F pcs :=
  ⟨fun g b hg => by
    obtain ⟨a1, a2, L, a3, a4, a5⟩ := k.line g b hg
    exact ⟨by rw [he b a3.lt]; exact a1, a2, L, a3.fr hf (h2 b a3.lt a1 a2), a4, fun i x hx => ⟨(a5 i x hx).1.fr hf h5 he (a5 i x hx).2, (a5 i x hx).2⟩⟩, k.all, k.inj⟩
theorem LinesR.fr (k : LinesR w T bl inter F pcs) (hf : Fr S w w') (h2 : ∀ i, i < w.heap.size → T i = 2 → ¬ S i) (h5 : ∀ i, i < w.heap.size → T i = 5 → ¬ S i) (he : ∀ i, i < w.heap.size → T' i = T i) : LinesR w' T' bl inter F pcs :=
  ⟨by rw [he bl k.map.lt]; exact k.tbl, k.map.fr hf (h2 bl k.map.lt k.tbl), k.lns.fr hf (fun i hi e _ => h2 i hi e) h5 he⟩
theorem LinesR.perm (k : LinesR w T bl inter F pcs) (hp : pcs.Perm pcs') : LinesR w T bl inter F pcs' :=
  ⟨k.tbl, k.map, ⟨fun g b hg => by
    obtain ⟨a1, a2, L, a3, a4, a5⟩ := k.lns.line g b hg
    have hq : (atK inter g pcs).Perm (atK inter g pcs') := hp.filter _
    exact ⟨a1, a2, L, a3, ⟨fun q hq' => a4.has q (hq.mem_iff.2 hq'), fun i x hx => by obtain ⟨q, h1, h2⟩ := a4.of i x hx; exact ⟨q, hq.mem_iff.1 h1, h2⟩, (hq.pairwise_iff (fun {_ _} hab => Ne.symm hab)).1 a4.nd⟩, a5⟩, fun q hq => k.lns.all q (hp.mem_iff.2 hq), k.lns.inj⟩⟩
theorem line_sub {idx : Jo.Pc → Nat} {ps : List Jo.Pc} {L : Nat → Option Fg} {left : Nat → Bool} {i : Nat} {x : Fg} (h : lineF idx ps r L left i = some x) : L i = some x := by
  unfold lineF at h
  split at h
  · cases h
  · exact h
def dropK (inter : Bool) (g : Gk) (r : Jo.Pc → Bool) (pcs : List Jo.Pc) : List Jo.Pc := pcs.filter fun q => !(r q && decide (keyP inter q = g))
theorem dropK_at (g : Gk) : atK inter g (dropK inter g r pcs) = (atK inter g pcs).filter fun q => !r q := by
  unfold atK dropK
  rw [List.filter_filter, List.filter_filter]
  refine List.filter_congr fun q _ => ?_
  by_cases e : keyP inter q = g <;> simp [e]
theorem dropK_other {g g' : Gk} (hne : g' ≠ g) : atK inter g' (dropK inter g r pcs) = atK inter g' pcs := by
  unfold atK dropK
  rw [List.filter_filter]
  refine List.filter_congr fun q _ => ?_
  by_cases e : keyP inter q = g'
  · have : keyP inter q ≠ g := fun e' => hne (e.symm.trans e')
    simp [e, hne]
  · simp [e]
/-- One line is gone through. -/
theorem LnsR.drop1 (k : LnsR w T bl inter F pcs) {g : Gk} {b : Nat} {L : Nat → Option Fg} (hg : F g = some b) (hL : LnOf (idxP inter) L (atK inter g pcs)) (h5 : ∀ i x, L i = some x → BodT w T x.A x.cp x.m.body ∧ x.m.body ≠ []) (hl : LineAt w' b (lineF (idxP inter) (atK inter g pcs) r L fun _ => false)) (hf : Fr (fun i => i = b) w w') :
    LnsR w' T bl inter F (dropK inter g r pcs) := by
  obtain ⟨a1, a2, _⟩ := k.line g b hg
  have hn5 : ∀ i, i < w.heap.size → T i = 5 → ¬ i = b := fun i hi e e' => by rw [e', a1] at e; cases e
  refine ⟨fun g' b' hg' => ?_, fun q hq => k.all q (List.mem_filter.1 hq).1, k.inj⟩
  by_cases e : g' = g
  · subst e
    rw [hg] at hg'
    injection hg' with hg'
    subst hg'
    refine ⟨a1, a2, _, hl, ?_, fun i x hx => ?_⟩
    · rw [dropK_at]
      exact hL.dropped r
    · obtain ⟨c1, c2⟩ := h5 i x (line_sub hx)
      exact ⟨c1.fr hf hn5 (fun _ _ => rfl) c2, c2⟩
  · obtain ⟨c1, c2, L', c3, c4, c5⟩ := k.line g' b' hg'
    refine ⟨c1, c2, L', c3.fr hf (fun e' => e (k.inj g' g b (by rw [← e']; exact hg') hg)), by rw [dropK_other e]; exact c4, fun i x hx => ⟨(c5 i x hx).1.fr hf hn5 (fun _ _ => rfl) (c5 i x hx).2, (c5 i x hx).2⟩⟩
theorem LnsR.strike (k : LnsR w T bl inter F pcs) {g : Gk} (h0 : atK inter g pcs = []) : LnsR w T bl inter (fun z => if z = g then none else F z) pcs := by
  refine ⟨fun g' b' hg' => ?_, fun q hq => ?_, fun g1 g2 b h1 h2 => ?_⟩
  · by_cases e : g' = g
    · rw [if_pos e] at hg'; cases hg'
    · rw [if_neg e] at hg'; exact k.line g' b' hg'
  · have : keyP inter q ≠ g := fun e => by
      have : q ∈ atK inter g pcs := List.mem_filter.2 ⟨hq, by simp [e]⟩
      rw [h0] at this; simp at this
    obtain ⟨b, hb⟩ := k.all q hq
    exact ⟨b, by rw [if_neg this]; exact hb⟩
  · by_cases e1 : g1 = g
    · rw [if_pos e1] at h1; cases h1
    · by_cases e2 : g2 = g
      · rw [if_pos e2] at h2; cases h2
      · rw [if_neg e1] at h1; rw [if_neg e2] at h2; exact k.inj g1 g2 b h1 h2
theorem LnOf.empty {idx : Jo.Pc → Nat} {L : Nat → Option Fg} {ps : List Jo.Pc} (k : LnOf idx L ps) : (∀ i, L i = none) ↔ ps = [] := by
  constructor
  · intro hn
    cases ps with
    | nil => rfl
    | cons q t =>
      obtain ⟨x, hx, _⟩ := k.has q List.mem_cons_self
      rw [hn] at hx; cases hx
  · rintro rfl i
    cases hx : L i with
    | none => rfl
    | some x => obtain ⟨q, hq, _⟩ := k.of i x hx; simp at hq
theorem sizeP_or {a c : Jo.Pc → Bool} (hd : ∀ z, (a z && c z) = false) : ∀ l : List Jo.Pc, Jo.sizeP (l.filter fun z => a z || c z) = Jo.sizeP (l.filter a) + Jo.sizeP (l.filter c)
  | [] => rfl
  | z :: t => by
    have ih := sizeP_or hd t
    have h1 := hd z
    have ec : ∀ (z : Jo.Pc) (l : List Jo.Pc), Jo.sizeP (z :: l) = z.body.length + Jo.sizeP l := fun z l => by simp [Jo.sizeP]
    cases ha : a z <;> cases hc : c z <;> simp [ha, hc, ec, ih] at h1 ⊢ <;> omega
/-- What a rule answers, in whatever world a drop goes through. -/
def RuleJ (w : World) (T : Nat → Nat) (p N : Nat) (caps : Array Value) (inter : Bool) (pcs : List Jo.Pc) (r : Jo.Pc → Bool) : Prop :=
  ∀ (W : World) (q : Jo.Pc) (v : Value), Fr (fun i => i < w.heap.size ∧ (T i = 2 ∨ i = p)) w W → W.cell? ⟨p, 0, none⟩ = some (.bool inter) → q ∈ pcs → Calls Try.prog N (#[.int .u32 (idxP inter q : Int), .agg (mCells (pcM q) v)] ++ caps) W fun e W' => e = .returned (.bool (r q)) ∧ Below W.heap.size W W'
def DropJ (w : World) (T : Nat → Nat) (p : Nat) (inter : Bool) (bl bo : Nat) (rv : Value) (h : Nat) (pcs : List Jo.Pc) (r : Jo.Pc → Bool) (e : Ending) (w' : World) : Prop :=
  ∃ F', e = .returned (.tuple #[]) ∧ LinesR w' T bl inter F' (pcs.filter fun q => !r q) ∧ JB w' p inter bl bo rv (h - Jo.sizeP (pcs.filter r)) ∧ Fr (fun i => i < w.heap.size ∧ (T i = 2 ∨ i = p)) w w'
def leftP (inter : Bool) (r : Jo.Pc → Bool) (left : Gk → Bool) (pcs : List Jo.Pc) : List Jo.Pc := pcs.filter fun q => !(r q && !left (keyP inter q))
def goneP (inter : Bool) (r : Jo.Pc → Bool) (left : Gk → Bool) (pcs : List Jo.Pc) : List Jo.Pc := pcs.filter fun q => r q && !left (keyP inter q)
theorem leftP_at {left : Gk → Bool} {g : Gk} (hl : left g = true) : atK inter g (leftP inter r left pcs) = atK inter g pcs := by
  unfold atK leftP
  rw [List.filter_filter]
  refine List.filter_congr fun q _ => ?_
  by_cases e : keyP inter q = g <;> simp [e, hl]
theorem leftP_step {left : Gk → Bool} {g : Gk} : dropK inter g r (leftP inter r left pcs) = leftP inter r (fun y => left y && !decide (y = g)) pcs := by
  unfold dropK leftP
  rw [List.filter_filter]
  refine List.filter_congr fun q _ => ?_
  by_cases e : keyP inter q = g
  · cases r q <;> simp [e]
  · cases r q <;> cases hl2 : left (keyP inter q) <;> simp [e, hl2]
theorem goneP_step {left : Gk → Bool} {g : Gk} (hl : left g = true) : Jo.sizeP (goneP inter r (fun y => left y && !decide (y = g)) pcs) = Jo.sizeP (goneP inter r left pcs) + Jo.sizeP ((atK inter g pcs).filter r) := by
  unfold goneP atK
  rw [List.filter_filter, ← sizeP_or (fun z => by
    by_cases e : keyP inter z = g <;> simp [e, hl])]
  congr 1
  refine List.filter_congr fun q _ => ?_
  by_cases e : keyP inter q = g
  · cases r q <;> simp [e, hl]
  · cases r q <;> cases hl2 : left (keyP inter q) <;> simp [e, hl2]
end
end Go.Proofs.Ytioddokjogbmnaa.Chk

set_option linter.unusedVariables false
set_option linter.unusedSimpArgs false
set_option maxRecDepth 20000
namespace Go.Proofs.Ytioddokjogbmnaa.Chk
open Go.ChangeShapes Go.WideShapes Go.ChangeAt Go.RowKit Go.Deep Go.Maps Go.Proofs.Ytioddokjogbmnaa.Words Go.Proofs.Ytioddokjogbmnaa.Oct Go.Proofs.Ytioddokjogbmnaa.Par Go.Proofs.Ytioddokjogbmnaa.Mx
section
variable {w w' : World} {T T' : Nat → Nat} {p bl bo h : Nat} {inter : Bool} {rv : Value} {S : Nat → Prop} {F F' : Gk → Option Nat} {pcs pcs' : List Jo.Pc} {r : Jo.Pc → Bool}
def DrS (W : World) (b : Nat) (L' : Nat → Option Fg) (m : Nat) (V : World) : Prop := (m = 0 → Fr (fun _ => False) W V) ∧ (1 ≤ m → LineAt V b L') ∧ Fr (fun i => i = b) W V
set_option maxHeartbeats 8000000 in
theorem jdrop_any {N : Nat} {caps : Array Value} (kj : JB w p inter bl bo rv h) (tp : T p = 1) (k : LinesR w T bl inter F pcs) (out : ∀ i, w.heap.size ≤ i → T i = 0) (hh : Jo.sizeP pcs ≤ h) (hz : h ≤ 2000000000) (hN : ∀ args W, (callFunc N args).run Try.prog W = .ok (.enter N args) W) (hr : RuleJ w T p N caps inter pcs r) :
    Calls Try.prog 37 #[jptr p, .func (.func N) #[] caps] w (DropJ w T p inter bl bo rv h pcs r) := by
  have c1 := kj.c1
  obtain ⟨w1, cnt, hrun, hrg, hgr, hsz⟩ := MapX.range k.map (t := 72) Try.underlying72
  have hf1 : Fr (fun i => i < w.heap.size ∧ (T i = 2 ∨ i = p)) w w1 := (Fr.refl _ w).grown hgr (fun g hg => by cases hg)
  have hfn : Fr (fun _ => False) w w1 := (Fr.refl _ w).grown hgr (fun g hg => by cases hg)
  have HR := Lib.hid hr
  have HRG : Hid (RangeX grpX w1 bl w.heap.size (fun g => (F g).map lptr) (fun g => (F g).isSome) cnt) := hrg.as_ (fun g => by
    show ((F g).map lptr).isSome = _
    cases F g <;> rfl)
  have hp0 : leftP inter r (fun g => (F g).isSome) pcs = pcs := List.filter_eq_self.2 (fun q hq => by
    obtain ⟨b, hb⟩ := k.lns.all q hq
    simp [hb])
  have hg0 : Jo.sizeP (goneP inter r (fun g => (F g).isSome) pcs) = 0 := by
    unfold goneP
    rw [List.filter_eq_nil_iff.2 (fun q hq => by
      obtain ⟨b, hb⟩ := k.lns.all q hq
      simp [hb])]
    rfl
  have HL0 : Hid (LnsR w1 T bl inter F (leftP inter r (fun g => (F g).isSome) pcs)) := by
    rw [hp0]
    exact k.lns.fr hfn (fun _ _ _ _ h => h) (fun _ _ _ h => h) (fun _ _ => rfl)
  have HJ0 : Hid (JB w1 p inter bl bo rv (h - Jo.sizeP (goneP inter r (fun g => (F g).isSome) pcs))) := by rw [hg0]; exact kj.fr hfn (fun h => h)
  have HF0 := Lib.hid hf1
  have HTB : Hid (T bl = 2) := k.tbl
  have HPL : Hid (p < w.heap.size) := Blk.lt kj
  have HBLT : Hid (bl < w.heap.size) := k.map.lt
  have HOUT := Lib.hid out
  have HQ : Hid (∀ q, q ∈ pcs → q ∈ pcs) := fun _ h => h
  obtain ⟨q, hq⟩ : ∃ q, q = w.heap.size := ⟨_, rfl⟩
  rw [← hq] at HRG hrun
  have HQ2 : Hid (w.heap.size ≤ q) := by unfold Hid; omega
  have HTP := Lib.hid tp
  have HZP : Hid (Jo.sizeP pcs ≤ h) := hh
  clear k kj hrg hgr hsz hr hf1 hfn hp0 hg0 hq out tp hh
  go_enter Try.func37, Try.ntmps37
  go_wp2_with fail
  go_loopw [4, 5] (fun _ _ wr => ∃ (left : Gk → Bool) (cnt : Nat) (F1 : Gk → Option Nat), Hid (RangeX grpX wr bl q (fun g => (F1 g).map lptr) left cnt) ∧ Hid (LnsR wr T bl inter F1 (leftP inter r left pcs)) ∧ Hid (JB wr p inter bl bo rv (h - Jo.sizeP (goneP inter r left pcs))) ∧ Hid (Fr (fun i => i < w.heap.size ∧ (T i = 2 ∨ i = p)) w wr)) (fun _ _ wr => wr.rangeLeft bl q)
  case atStart => exact ⟨_, _, F, HRG, HL0, HJ0, HF0⟩
  case round =>
    clear HRG HL0 HJ0 HF0 hrun c1
    obtain ⟨left, cnt, F1, HG, HL, HJ, HF⟩ := hrel
    rcases HG.out.next 0 with ⟨hall, hrun2⟩ | ⟨g, v, w2, cnt2, hdom, hlg, hfg, hrun2, hrg2, hlt2, hgr2, hsz2, hen⟩
    · go_wp2_with fail
      go_end0
      have e1 : leftP inter r left pcs = pcs.filter fun q => !r q := List.filter_congr fun z _ => by rw [hall]; simp
      have e2 : goneP inter r left pcs = pcs.filter r := List.filter_congr fun z _ => by rw [hall]; simp
      have h1 := HL.out
      have h2 := HJ.out
      rw [e1] at h1
      rw [e2] at h2
      exact ⟨F1, rfl, ⟨HTB.out, HG.out.map, h1⟩, h2, HF.out⟩
    · obtain ⟨b, hFb, rfl⟩ : ∃ b, F1 g = some b ∧ v = lptr b := by
        have hfg' : (F1 g).map lptr = some v := hfg
        cases hl : F1 g with
        | none => rw [hl] at hfg'; cases hfg'
        | some b => rw [hl] at hfg'; injection hfg' with hfg'; exact ⟨b, rfl, hfg'.symm⟩
      obtain ⟨g1, g2, g3⟩ := g
      have hrun3 : (Instr.next (.pointer (some ⟨q, 0, none⟩)) false 0).run Try.prog wr = .ok (.tuple #[.bool true, .agg #[.int .u16 (g1 : Int), .bool g2, .int .u32 (g3 : Int)], .map (some b)]) w2 := hrun2
      have hen3 : (Instr.entry (.pointer (some ⟨q, 0, none⟩))).run Try.prog w2 = .ok (.tuple #[.agg #[.int .u16 (g1 : Int), .bool g2, .int .u32 (g3 : Int)], .map (some b)]) w2 := hen
      obtain ⟨G, hG⟩ : ∃ G : Gk, G = ⟨g1, g2, g3⟩ := ⟨_, rfl⟩
      rw [← hG] at hdom hlg hFb hrg2
      have HGE := Lib.hid hG
      obtain ⟨hb2, hbne, L, hL1, hL2, hL3⟩ := HL.out.line G b hFb
      rw [leftP_at hlg] at hL2
      have hfr2 : Fr (fun i => i = q) wr w2 := (Fr.of_grown hgr2).mono (fun i hi e => by injection e)
      have hqn : ∀ i, i < w.heap.size → ¬ i = q := fun i hi e => by have := HQ2.out; omega
      have hbw : b < w.heap.size := by
        rcases Nat.lt_or_ge b w.heap.size with h1 | h1
        · exact h1
        · have := HOUT.out b h1; rw [this] at hb2; cases hb2
      have HL2' : Hid (LnsR w2 T bl inter F1 (leftP inter r left pcs)) := HL.out.fr hfr2 (fun i hi e _ e' => by
        rcases Nat.lt_or_ge i w.heap.size with h1 | h1
        · exact hqn i h1 e'
        · have := HOUT.out i h1; rw [this] at e; cases e) (fun i hi e e' => by
        rcases Nat.lt_or_ge i w.heap.size with h1 | h1
        · exact hqn i h1 e'
        · have := HOUT.out i h1; rw [this] at e; cases e) (fun _ _ => rfl)
      have HJ2 : Hid (JB w2 p inter bl bo rv (h - Jo.sizeP (goneP inter r left pcs))) := HJ.out.fr hfr2 (hqn p HPL.out)
      have HF2 : Hid (Fr (fun i => i < w.heap.size ∧ (T i = 2 ∨ i = p)) w w2) := HF.out.trans hfr2 (fun i hi e => absurd e (hqn i hi))
      have HLA2 : Hid (LineAt w2 b L) := hL1.fr hfr2 (hqn b hbw)
      have HL2b := Lib.hid hL2
      have HL3 : Hid (∀ i x, L i = some x → BodT w2 T x.A x.cp x.m.body ∧ x.m.body ≠ []) := fun i x hx => ⟨(hL3 i x hx).1.fr hfr2 (fun i hi e e' => by
        rcases Nat.lt_or_ge i w.heap.size with h1 | h1
        · exact hqn i h1 e'
        · have := HOUT.out i h1; rw [this] at e; cases e) (fun _ _ => rfl) (hL3 i x hx).2, (hL3 i x hx).2⟩
      have HFB := Lib.hid hFb
      have HLG := Lib.hid hlg
      have HDM := Lib.hid hdom
      have HB2 := Lib.hid hb2
      have HBN := Lib.hid hbne
      have HRG2 := Lib.hid hrg2
      have HLT := Lib.hid hlt2
      have HCE := Lib.hid HG.out.left_eq
      have HBW := Lib.hid hbw
      clear hrun2 hen hsz2 hfg hdom hlg hFb hG hb2 hbne hL1 hL2 hL3 hfr2 hqn hbw hrg2 hlt2 hgr2 HG HL HJ HF
      go_upto_region 3 with (fail)
      obtain ⟨W3, hW3⟩ : ∃ W3, W3 = w2.alloc (.cells #[.int .u16 (g1 : Int), .bool g2, .int .u32 (g3 : Int)] 79) := ⟨_, rfl⟩
      obtain ⟨gg, hgg⟩ : ∃ gg, gg = w2.heap.size := ⟨_, rfl⟩
      rw [← hgg, ← hW3]
      have HBG3 : Hid (Blk W3 gg 79 #[.int .u16 (g1 : Int), .bool g2, .int .u32 (g3 : Int)]) := by rw [hW3, hgg]; exact Blk.new _ _ _
      have hfn : Fr (fun _ => False) w2 W3 := by rw [hW3]; exact (Fr.refl _ w2).alloc _
      have HL3' : Hid (LnsR W3 T bl inter F1 (leftP inter r left pcs)) := HL2'.out.fr hfn (fun _ _ _ _ h => h) (fun _ _ _ h => h) (fun _ _ => rfl)
      have HJ3 : Hid (JB W3 p inter bl bo rv (h - Jo.sizeP (goneP inter r left pcs))) := HJ2.out.fr hfn (fun h => h)
      have HF3 : Hid (Fr (fun i => i < w.heap.size ∧ (T i = 2 ∨ i = p)) w W3) := HF2.out.trans hfn (fun _ _ h => h.elim)
      have HLA3 : Hid (LineAt W3 b L) := HLA2.out.fr hfn (fun h => h)
      have HLB3 : Hid (∀ i x, L i = some x → BodT W3 T x.A x.cp x.m.body ∧ x.m.body ≠ []) := fun i x hx => ⟨(HL3.out i x hx).1.fr hfn (fun _ _ _ h => h) (fun _ _ => rfl) (HL3.out i x hx).2, (HL3.out i x hx).2⟩
      have HRG3 := Lib.hid (HRG2.out.fr hfn (fun h => h) (fun h => h))
      have HGG : Hid (w.heap.size ≤ gg) := by have := HF2.out.size; unfold Hid; omega
      have HGL : Hid (gg < W3.heap.size) := HBG3.out.lt
      clear hW3 hgg hfn HL2' HJ2 HF2 HLA2 HL3 HRG2 hrun3 hen3
      obtain ⟨n, hn⟩ : ∃ n, n = Jo.sizeP ((atK inter G pcs).filter r) := ⟨_, rfl⟩
      obtain ⟨h1, hh1⟩ : ∃ h1, h1 = h - Jo.sizeP (goneP inter r left pcs) := ⟨_, rfl⟩
      obtain ⟨h2, hh2⟩ : ∃ h2, h2 = h - Jo.sizeP (goneP inter r (fun y => left y && !decide (y = G)) pcs) := ⟨_, rfl⟩
      have hst := goneP_step (inter := inter) (r := r) (pcs := pcs) HLG.out
      have hle : Jo.sizeP (goneP inter r (fun y => left y && !decide (y = G)) pcs) ≤ Jo.sizeP pcs := sizeP_filter_le _ _
      have hps : Jo.sizeP (atK inter G pcs) ≤ 2000000000 := Nat.le_trans (sizeP_filter_le _ _) (Nat.le_trans HZP.out hz)
      have h12 : h2 + n = h1 := by have := HZP.out; omega
      have hh1b : h1 ≤ 2000000000 := by omega
      rw [← hh1] at HJ3
      have HN := Lib.hid hn
      have HH2 := Lib.hid hh2
      have HPS := Lib.hid hps
      have hsub : (h1 : Int) - (n : Int) = (h2 : Int) := by omega
      have hwr : IntKind.i64.wrap (h2 : Int) = (h2 : Int) := IntWalk.i64_in _ (by omega)
      have HC4 : Hid (∀ V m, DrS W3.drew b (lineF (idxP inter) (atK inter G pcs) r L fun _ => false) m V → JB V p inter bl bo rv h1) := fun V m hS => JB.fr (w := W3.drew) HJ3.out hS.2.2 (fun e => by have h3 := HTP.out; rw [e] at h3; rw [HB2.out] at h3; cases h3)
      have HRO : Hid (∀ V, Fr (fun _ => False) W3.drew V → RuleOk V b N caps (idxP inter) (atK inter G pcs) r) := fun V hV W z v hW hz' => by
        have hwV : Fr (fun i => i < w.heap.size ∧ (T i = 2 ∨ i = p)) w W := ((HF3.out.drew).trans hV (fun _ _ h => h.elim)).trans hW (fun i hi e => ⟨hi, .inl (by rw [show i = b from e]; exact HB2.out)⟩)
        have hjW : JB W p inter bl bo rv h1 := (JB.fr (w := W3.drew) HJ3.out hV (fun h => h)).fr hW (fun e => by have h3 := HTP.out; rw [e] at h3; rw [HB2.out] at h3; cases h3)
        exact HR.out W z v hwV hjW.c0 (List.mem_filter.1 hz').1
      clear hst hle hps hn hh1 hh2
      refine wp_region_stage_tail 8 (fun _ _ _ => True) (DrS W3.drew b (lineF (idxP inter) (atK inter G pcs) r L fun _ => false)) [(false, .exact (.pointer (some ⟨p, 0, none⟩))),
          (false, .exact (.pointer (some ⟨p, 0, none⟩))),
          (false, .exact (.pointer (some ⟨p, 4, none⟩))),
          (false, .exact (.int .i64 (h1 : Int))),
          (false, .exact (.map (some b))),
          (false, .exact (.func (.func N) #[] caps)),
          (true, .exact (.int .i64 (n : Int))),
          (false, .exact (.int .i64 (h2 : Int)))] (by kernel_rfl) (by kernel_rfl) (by kernel_rfl) rfl (of_decide_eq_true (by kernel_rfl)) (by kernel_rfl) (by kernel_rfl) ?lasts ?start ?walk
      case lasts => exact trivial
      case start => exact ⟨fun _ => Fr.refl _ _, fun e => absurd e (by omega), Fr.refl _ _⟩
      case walk =>
        simp only [List.take_succ_cons, List.take_zero, List.drop_succ_cons, List.drop_zero]
        refine stageT_pure rfl (fun _ _ => trivial) (fun V m hS hl => by go_simp) ?_
        simp only [Act.put, List.setIfInBounds_toArray, List.set_cons_zero, List.set_cons_succ, List.cons_append, List.nil_append]
        refine stageT_pure rfl (fun _ _ => trivial) (fun V m hS hl => by go_simp) ?_
        simp only [Act.put, List.setIfInBounds_toArray, List.set_cons_zero, List.set_cons_succ, List.cons_append, List.nil_append]
        refine stageT_pure rfl (fun _ _ => trivial) (fun V m hS hl => by go_simp) ?_
        simp only [Act.put, List.setIfInBounds_toArray, List.set_cons_zero, List.set_cons_succ, List.cons_append, List.nil_append]
        refine stageT_pure rfl (fun _ _ => trivial) (fun V m hS hl => by
            have hc := (HC4.out V m hS).c4
            go_simp) ?_
        simp only [Act.put, List.setIfInBounds_toArray, List.set_cons_zero, List.set_cons_succ, List.cons_append, List.nil_append]
        refine stageT_pure rfl (fun _ _ => trivial) (fun V m hS hl => by go_simp) ?_
        simp only [Act.put, List.setIfInBounds_toArray, List.set_cons_zero, List.set_cons_succ, List.cons_append, List.nil_append]
        refine stageT_pure rfl (fun _ _ => trivial) (fun V m hS hl => by go_simp) ?_
        simp only [Act.put, List.setIfInBounds_toArray, List.set_cons_zero, List.set_cons_succ, List.cons_append, List.nil_append]
        refine stageT_move rfl (fun V hS hl => by
            go_simp
            refine (ldrop_any (show LineAt V b L from (show LineAt W3.drew b L from HLA3.out.fr ((Fr.refl (fun _ => False) W3).drew) (fun h => h)).fr (hS.1 rfl) (fun h => h)) HL2b.out HPS.out hN (HRO.out V (hS.1 rfl))).mono ?_
            rintro e V' ⟨rfl, h5, h6⟩
            rw [← HN.out]
            exact ⟨_, rfl, rfl, ⟨fun e => absurd e (by omega), fun _ => h5.out, hS.2.2.same h6.out⟩⟩) ?_
        simp only [Act.put, List.setIfInBounds_toArray, List.set_cons_zero, List.set_cons_succ, List.cons_append, List.nil_append]
        refine stageT_pure rfl (fun _ _ => trivial) (fun V m hS hl => by go_simp) ?_
        simp only [Act.put, List.setIfInBounds_toArray, List.set_cons_zero, List.set_cons_succ, List.cons_append, List.nil_append]
        refine stageT_nil (fun V2 hS hF => ?_)
        have hjb := HC4.out V2 _ hS
        have c4 := hjb.c4
        have f4 := Blk.frozen hjb 4
        have hla := hS.2.1 (Nat.le_refl _)
        have hfb : Fr (fun i => i = b) W3 V2 := ((Fr.refl (fun i => i = b) W3).drew).same hS.2.2
        clear hF hS
        obtain ⟨W4, hW4⟩ : ∃ W4, W4 = V2.setCell ⟨p, 4, none⟩ (.int .i64 (h2 : Int)) := ⟨_, rfl⟩
        have hfp : Fr (fun i => i = p) V2 W4 := by rw [hW4]; exact (Fr.refl (fun i => i = p) V2).setCell (p := ⟨p, 4, none⟩) (.inl rfl) _
        have hT1 : ∀ i, T i = 2 ∨ T i = 5 → ¬ i = p := fun i e e' => by rw [e', HTP.out] at e; rcases e with e | e <;> cases e
        have HJ4 : Hid (JB W4 p inter bl bo rv h2) := by rw [hW4]; exact hjb.held h2
        have hln : LnsR V2 T bl inter F1 (dropK inter G r (leftP inter r left pcs)) := HL3'.out.drop1 HFB.out (by rw [leftP_at HLG.out]; exact HL2b.out) HLB3.out (by rw [leftP_at HLG.out]; exact hla) hfb
        have HL4 : Hid (LnsR W4 T bl inter F1 (leftP inter r (fun y => left y && !decide (y = G)) pcs)) := by
          rw [← leftP_step]
          exact hln.fr hfp (fun i hi e _ => hT1 i (.inl e)) (fun i hi e => hT1 i (.inr e)) (fun _ _ => rfl)
        have HLA4 : Hid (LineAt W4 b (lineF (idxP inter) (atK inter G pcs) r L fun _ => false)) := hla.fr hfp (hT1 b (.inl HB2.out))
        have hnb : ¬ bl = b := fun e => HBN.out e.symm
        have hqb : ¬ q = b := fun e => by have h3 := HQ2.out; have h4 := HBW.out; omega
        have hqp : ¬ q = p := fun e => by have h3 := HQ2.out; have h4 := HPL.out; omega
        have HRG4 := Lib.hid ((HRG3.out.fr hfb hnb hqb).fr hfp (hT1 bl (.inl HTB.out)) hqp)
        have HF4 : Hid (Fr (fun i => i < w.heap.size ∧ (T i = 2 ∨ i = p)) w W4) := (HF3.out.trans hfb (fun i hi e => ⟨hi, .inl (by rw [show i = b from e]; exact HB2.out)⟩)).trans hfp (fun i hi e => ⟨hi, .inr e⟩)
        have HBG4 : Hid (Blk W4 gg 79 #[.int .u16 (g1 : Int), .bool g2, .int .u32 (g3 : Int)]) := hfp.blk (hfb.blk HBG3.out (fun e => by have h3 := HGG.out; have h4 := HBW.out; omega)) (fun e => by have h3 := HGG.out; have h4 := HPL.out; omega)
        obtain ⟨n', hlen, hn'1, hn'2⟩ := MapX.len HLA4.out (t := 83) Try.underlying83 3
        have HEM : Hid (n' = 0 ↔ atK inter G (leftP inter r (fun y => left y && !decide (y = G)) pcs) = []) := by
          have h5 := (HL2b.out.dropped r).empty
          have h6 : (atK inter G (leftP inter r (fun y => left y && !decide (y = G)) pcs)) = (atK inter G pcs).filter fun q => !r q := by rw [← leftP_step, dropK_at, leftP_at HLG.out]
          unfold Hid
          rw [hn'2, h6, ← h5]
          constructor
          · intro h7 i
            have h8 := h7 i
            cases hx : lineF (idxP inter) (atK inter G pcs) r L (fun _ => false) i with
            | none => rfl
            | some x => rw [hx] at h8; cases h8
          · intro h7 i
            rw [h7 i]; rfl
        go_upto_region 4 with (fail)
        rw [← hW4]
        clear hW4 hjb c4 f4 hla hfb hfp hln hn'2 hT1 hnb hqb hqp hsub hwr
        by_cases hn0 : n' = 0
        · subst hn0
          have he0 := HEM.out.1 rfl
          have HST := Lib.hid (HL4.out.strike he0)
          obtain ⟨w5, cnt5, hdel, hrg5, hle5, hturn5⟩ := (HRG4.out.fr ((Fr.refl (fun _ => False) W4).drew) (fun h => h) (fun h => h)).del (t := 72) Try.underlying72 (x := G) HDM.out 0
          have hdel2 : (Builtin.delete_ #[72, 79] 0 #[.map (some bl), .agg #[.int .u16 (g1 : Int), .bool g2, .int .u32 (g3 : Int)]]).run Try.prog W4.drew = .ok (.tuple #[]) w5 := by
            have h5 := hdel
            rw [HGE.out] at h5
            exact h5
          have c1 := HJ4.out.c1
          have e0 := HBG4.out.cell 0
          have e1 := HBG4.out.cell 1
          have e2 := HBG4.out.cell 2
          simp only [List.getElem?_toArray, List.getElem?_cons_succ, List.getElem?_cons_zero] at e0 e1 e2
          have hfd : Fr (fun i => i = bl) W4 w5 := ((Fr.refl (fun i => i = bl) W4).drew).same ((Fr.of_grown hturn5.grown).mono (fun i hi e => by injection e))
          have HRG5 := Lib.hid hrg5
          have HLE5 := Lib.hid hle5
          have HFD := Lib.hid hfd
          clear hdel hrg5 hle5 hturn5 hfd he0
          go_upto_region 5 with (fail)
          go_region
          go_wp2_with fail
          go_roundw
          case rel =>
            exact ⟨fun y => left y && !decide (y = G), cnt5, fun z => if z = G then none else F1 z, (by
              have h5 := HRG5.out.as_ (left' := fun y => left y && !decide (y = G)) (fun y => by cases left y <;> cases decide (y = G) <;> rfl)
              have e5 : delF (fun g => (F1 g).map lptr) G = fun y => (if y = G then none else F1 y).map lptr := funext fun y => by unfold delF; by_cases e : y = G <;> simp [e]
              rw [e5] at h5
              exact h5), (HST.out.fr HFD.out (fun i _ _ hne e => hne e) (fun i _ h5 e => by rw [show i = bl from e, HTB.out] at h5; cases h5) (fun _ _ => rfl)), (by rw [← HH2.out]; exact HJ4.out.fr HFD.out (fun e => by have h3 := HTP.out; rw [show p = bl from e, HTB.out] at h3; cases h3)), HF4.out.trans HFD.out (fun i hi e => ⟨hi, .inl (by rw [show i = bl from e]; exact HTB.out)⟩)⟩
          case measure => rw [HRG5.out.left_eq, HCE.out]; exact Nat.lt_of_le_of_lt HLE5.out HLT.out
        · have hn1 : ¬ ((n' : Int) = 0) := by omega
          go_wp2_with fail
          go_roundw
          case rel => exact ⟨_, cnt2, F1, HRG4, HL4, (by rw [← HH2.out]; exact HJ4), HF4⟩
          case measure => rw [HRG4.out.left_eq, HCE.out]; exact HLT.out
end
end Go.Proofs.Ytioddokjogbmnaa.Chk

set_option linter.unusedVariables false
set_option linter.unusedSimpArgs false
set_option maxRecDepth 20000
namespace Go.Proofs.Ytioddokjogbmnaa.Chk
open Go.ChangeShapes Go.WideShapes Go.ChangeAt Go.RowKit Go.Deep Go.Maps Go.Proofs.Ytioddokjogbmnaa.Words Go.Proofs.Ytioddokjogbmnaa.Oct Go.Proofs.Ytioddokjogbmnaa.Par Go.Proofs.Ytioddokjogbmnaa.Mx
section
variable {w w' : World} {T T' : Nat → Nat} {p bl bo h : Nat} {inter : Bool} {rv : Value} {S : Nat → Prop} {F F' : Gk → Option Nat} {pcs pcs' : List Jo.Pc} {r : Jo.Pc → Bool}
theorem line_zero (w : World) : (zeroValue 83).run Try.prog w = .ok (.map none) w := by kernel_rfl
theorem LinesR.look (k : LinesR w T bl inter F pcs) {g : Gk} (hd : grpX.dom g) (n : Nat) : (Instr.lookup 72 (.map (some bl)) (gkV g) false).run Try.prog (w.drewN n) = .ok (.map (F g)) (w.drewN n) := by
  have h1 := MapX.look (k.map.drewN n) (t := 72) Try.underlying72 (line_zero _) (x := g) hd
  have e : (((F g).map lptr).getD (.map none)) = .map (F g) := by cases F g <;> rfl
  rw [e] at h1
  exact h1
theorem alltrue_any (i : Value) (m : Array Value) (w : World) : Calls Try.prog 61 #[i, .agg m] w fun e w' => e = .returned (.bool true) ∧ Below w.heap.size w w' := by
  go_enter Try.func61, Try.ntmps61
  go_wp2
  go_ret
  exact ⟨rfl, below_one w _⟩
theorem alltrue_enters : ∀ args W, (callFunc 61 args).run Try.prog W = .ok (.enter 61 args) W := enters_of Try.func61 (by kernel_rfl) rfl
def TidyDone (w : World) (T : Nat → Nat) (p : Nat) (inter : Bool) (bl bo : Nat) (rv : Value) (h : Nat) (pcs : List Jo.Pc) (g : Gk) (e : Ending) (w' : World) : Prop :=
  ∃ F', e = .returned (.tuple #[]) ∧ LinesR w' T bl inter F' (if inter = true then dropK inter g (fun _ => true) pcs else pcs) ∧ JB w' p inter bl bo rv (h - if inter = true then Jo.sizeP (atK inter g pcs) else 0) ∧ Fr (fun i => i < w.heap.size ∧ (T i = 2 ∨ i = p)) w w'
set_option maxHeartbeats 8000000 in
theorem tidy_any (kj : JB w p inter bl bo rv h) (tp : T p = 1) (k : LinesR w T bl inter F pcs) (out : ∀ i, w.heap.size ≤ i → T i = 0) (hh : Jo.sizeP pcs ≤ h) (hz : h ≤ 2000000000) {g : Gk} {b : Nat} (hFb : F g = some b) (hd : grpX.dom g) :
    Calls Try.prog 35 #[jptr p, gkV g] w (TidyDone w T p inter bl bo rv h pcs g) := by
  obtain ⟨W1, hW1⟩ : ∃ W1, W1 = w.alloc (.cells #[.int .u16 (g.st : Int), .bool g.lo, .int .u32 (g.mid : Int)] 79) := ⟨_, rfl⟩
  obtain ⟨gg, hgg⟩ : ∃ gg, gg = w.heap.size := ⟨_, rfl⟩
  have HBG : Hid (Blk W1 gg 79 #[.int .u16 (g.st : Int), .bool g.lo, .int .u32 (g.mid : Int)]) := by rw [hW1, hgg]; exact Blk.new _ _ _
  have hfn : Fr (fun _ => False) w W1 := by rw [hW1]; exact (Fr.refl _ w).alloc _
  have HK1 : Hid (LinesR W1 T bl inter F pcs) := k.fr hfn (fun _ _ _ h => h) (fun _ _ _ h => h) (fun _ _ => rfl)
  have HJ1 : Hid (JB W1 p inter bl bo rv h) := kj.fr hfn (fun h => h)
  have HF1 : Hid (Fr (fun i => i < w.heap.size ∧ (T i = 2 ∨ i = p)) w W1) := hfn.mono (fun _ _ h => h.elim)
  have c1 := HJ1.out.c1
  have c0 := HJ1.out.c0
  have e0 := HBG.out.cell 0
  have e1 := HBG.out.cell 1
  have e2 := HBG.out.cell 2
  simp only [List.getElem?_toArray, List.getElem?_cons_succ, List.getElem?_cons_zero] at e0 e1 e2
  obtain ⟨hb2, hbne, L, hL1, hL2, hL3⟩ := HK1.out.lns.line g b hFb
  have hlk := HK1.out.look hd
  rw [hFb] at hlk
  simp only [gkV] at hlk ⊢
  have HTB : Hid (T bl = 2) := k.tbl
  have HGG : Hid (w.heap.size ≤ gg) := by unfold Hid; omega
  have HPL : Hid (p < w.heap.size) := Blk.lt kj
  have HBW : Hid (b < w.heap.size) := k.lns.lt hFb
  have HOUT := Lib.hid out
  have HTP := Lib.hid tp
  have HD := Lib.hid hd
  have HFB := Lib.hid hFb
  have HL1 := Lib.hid hL1
  have HL2 := Lib.hid hL2
  have HL3 := Lib.hid hL3
  have HB2 := Lib.hid hb2
  have HBN := Lib.hid hbne
  have hps : Jo.sizeP (atK inter g pcs) ≤ Jo.sizeP pcs := sizeP_filter_le _ _
  have HPS : Hid (Jo.sizeP (atK inter g pcs) ≤ 2000000000) := by unfold Hid; omega
  have HPH : Hid (Jo.sizeP (atK inter g pcs) ≤ h) := by unfold Hid; omega
  have HHZ : Hid (h ≤ 2000000000) := hz
  clear k kj hfn hd hFb hL1 hL2 hL3 hb2 hbne hps hh out tp
  obtain ⟨g1, hg1⟩ : ∃ x, x = g.st := ⟨_, rfl⟩
  obtain ⟨g2, hg2⟩ : ∃ x, x = g.lo := ⟨_, rfl⟩
  obtain ⟨g3, hg3⟩ : ∃ x, x = g.mid := ⟨_, rfl⟩
  rw [← hg1, ← hg2, ← hg3] at hW1 HBG hlk ⊢
  rw [← hg1] at e0
  rw [← hg2] at e1
  rw [← hg3] at e2
  have HGE : Hid (gkV g = .agg #[.int .u16 (g1 : Int), .bool g2, .int .u32 (g3 : Int)]) := by rw [hg1, hg2, hg3]; rfl
  clear hg1 hg2 hg3
  go_enter Try.func35, Try.ntmps35
  go_upto_region 1 with (fail)
  rw [← hW1, ← hgg]
  clear hW1 hgg
  go_quiet (fail)
  obtain ⟨W2, hW2⟩ : ∃ W2, W2 = W1.drewN nq := ⟨_, rfl⟩
  have hf12 : Fr (fun _ => False) W1 W2 := by rw [hW2]; exact (Fr.refl _ W1).drewN nq
  rw [← hW2]
  have HK2 := Lib.hid (HK1.out.fr hf12 (fun _ _ _ h => h) (fun _ _ _ h => h) (fun _ _ => rfl))
  have HJ2 : Hid (JB W2 p inter bl bo rv h) := HJ1.out.fr hf12 (fun h => h)
  have HF2 := Lib.hid (HF1.out.trans hf12 (fun _ _ h => h.elim))
  have HLA2 : Hid (LineAt W2 b L) := HL1.out.fr hf12 (fun h => h)
  have HLB2 : Hid (∀ i x, L i = some x → BodT W2 T x.A x.cp x.m.body ∧ x.m.body ≠ []) := fun i x hx => ⟨(HL3.out i x hx).1.fr hf12 (fun _ _ _ h => h) (fun _ _ => rfl) (HL3.out i x hx).2, (HL3.out i x hx).2⟩
  have HBG2 := Lib.hid (hf12.blk HBG.out (fun h => h))
  have c0 := HJ2.out.c0
  clear hW2 hf12 HK1 HJ1 HF1 HL1 HL3 HBG hlk e0 e1 e2 c1
  cases inter
  · have HLA4 := HLA2
    have HLN4 := HL2
    have HJ4 := HJ2
    have HL4 : Hid (LnsR W2 T bl false F pcs) := HK2.out.lns
    have HM4 : Hid (MapX grpX W2 bl fun g => (F g).map lptr) := HK2.out.map
    have HF4 := HF2
    have HBG4 := HBG2
    obtain ⟨n', hlen, hn'1, hn'2⟩ := MapX.len HLA4.out (t := 83) Try.underlying83 3
    have HEM : Hid (n' = 0 → atK false g pcs = []) := fun h0 => HLN4.out.empty.1 (fun i => by
      have h8 := hn'2.1 h0 i
      cases hx : (L) i with
      | none => rfl
      | some x => rw [hx] at h8; cases h8)
    go_upto_region 4 with (fail)
    skip
    by_cases hn0 : n' = 0
    · subst hn0
      have he0 := HEM.out rfl
      have HST := Lib.hid (HL4.out.strike he0)
      obtain ⟨w5, hdel, hm5, hturn5⟩ := HM4.out.drew.del (t := 72) Try.underlying72 (x := g) HD.out 0
      rw [show grpX.enc g = _ from HGE.out] at hdel
      have c1 := HJ4.out.c1
      have e0 := HBG4.out.cell 0
      have e1 := HBG4.out.cell 1
      have e2 := HBG4.out.cell 2
      simp only [List.getElem?_toArray, List.getElem?_cons_succ, List.getElem?_cons_zero] at e0 e1 e2
      have hfd : Fr (fun i => i = bl) W2 w5 := ((Fr.refl (fun i => i = bl) W2).drew).same ((Fr.of_grown hturn5.grown).mono (fun i hi e => by injection e))
      have HFD := Lib.hid hfd
      have HM5 := Lib.hid hm5
      clear hm5 hturn5 hfd he0
      go_upto_region 5 with (fail)
      go_region
      go_wp2_with fail
      go_end0
      refine ⟨fun z => if z = g then none else F z, rfl, ⟨HTB.out, ?_, HST.out.fr HFD.out (fun i _ _ hne e => hne e) (fun i _ h5 e => by rw [show i = bl from e, HTB.out] at h5; cases h5) (fun _ _ => rfl)⟩, HJ4.out.fr HFD.out (fun e => by have h3 := HTP.out; rw [show p = bl from e, HTB.out] at h3; cases h3), HF4.out.trans HFD.out (fun i hi e => ⟨hi, .inl (by rw [show i = bl from e]; exact HTB.out)⟩)⟩
      exact HM5.out.as_ (fun y => by unfold delF; by_cases e : y = g <;> simp [e])
    · have hn1 : ¬ ((n' : Int) = 0) := by omega
      go_wp2_with fail
      go_end0
      exact ⟨F, rfl, ⟨HTB.out, HM4.out, HL4.out⟩, HJ4.out, HF4.out⟩
  · obtain ⟨n, hn⟩ : ∃ n, n = Jo.sizeP (atK true g pcs) := ⟨_, rfl⟩
    have hfil : (atK true g pcs).filter (fun _ => true) = atK true g pcs := List.filter_eq_self.2 (fun _ _ => rfl)
    have HN : Hid (n = Jo.sizeP ((atK true g pcs).filter fun _ => true)) := by rw [hfil]; exact hn
    have h1n : n ≤ h := by rw [hn]; exact HPH.out
    have hz2 := HHZ.out
    have hsub : (h : Int) - (n : Int) = ((h - n : Nat) : Int) := by omega
    obtain ⟨h2, hh2⟩ : ∃ h2, h2 = h - n := ⟨_, rfl⟩
    rw [← hh2] at hsub
    have hwr : IntKind.i64.wrap (h2 : Int) = (h2 : Int) := IntWalk.i64_in _ (by omega)
    have HNN := Lib.hid hn
    have HH2 := Lib.hid hh2
    clear hn hh2 hfil
    have HC4 : Hid (∀ V m, DrS W2.drew b (lineF (idxP true) (atK true g pcs) (fun _ => true) L fun _ => false) m V → JB V p true bl bo rv h) := fun V m hS => JB.fr (w := W2.drew) HJ2.out hS.2.2 (fun e => by have h3 := HTP.out; rw [e] at h3; rw [HB2.out] at h3; cases h3)
    have HRO : Hid (∀ V, RuleOk V b 61 #[] (idxP true) (atK true g pcs) (fun _ => true)) := fun V W z v hW hz' => alltrue_any _ _ W
    go_upto_region 3 with (fail)
    refine wp_region_stage_tail 7 (fun _ _ _ => True) (DrS W2.drew b (lineF (idxP true) (atK true g pcs) (fun _ => true) L fun _ => false)) [(false, .exact (.pointer (some ⟨p, 0, none⟩))),
        (false, .exact (.pointer (some ⟨p, 0, none⟩))),
        (false, .exact (.pointer (some ⟨p, 4, none⟩))),
        (false, .exact (.int .i64 (h : Int))),
        (false, .exact (.map (some b))),
        (true, .exact (.int .i64 (n : Int))),
        (false, .exact (.int .i64 (h2 : Int)))] (by kernel_rfl) (by kernel_rfl) (by kernel_rfl) rfl (of_decide_eq_true (by kernel_rfl)) (by kernel_rfl) (by kernel_rfl) ?lasts ?start ?walk
    case lasts => exact trivial
    case start => exact ⟨fun _ => Fr.refl _ _, fun e => absurd e (by omega), Fr.refl _ _⟩
    case walk =>
      simp only [List.take_succ_cons, List.take_zero, List.drop_succ_cons, List.drop_zero]
      refine stageT_pure rfl (fun _ _ => trivial) (fun V m hS hl => by go_simp) ?_
      simp only [Act.put, List.setIfInBounds_toArray, List.set_cons_zero, List.set_cons_succ, List.cons_append, List.nil_append]
      refine stageT_pure rfl (fun _ _ => trivial) (fun V m hS hl => by go_simp) ?_
      simp only [Act.put, List.setIfInBounds_toArray, List.set_cons_zero, List.set_cons_succ, List.cons_append, List.nil_append]
      refine stageT_pure rfl (fun _ _ => trivial) (fun V m hS hl => by go_simp) ?_
      simp only [Act.put, List.setIfInBounds_toArray, List.set_cons_zero, List.set_cons_succ, List.cons_append, List.nil_append]
      refine stageT_pure rfl (fun _ _ => trivial) (fun V m hS hl => by
          have hc := (HC4.out V m hS).c4
          go_simp) ?_
      simp only [Act.put, List.setIfInBounds_toArray, List.set_cons_zero, List.set_cons_succ, List.cons_append, List.nil_append]
      refine stageT_pure rfl (fun _ _ => trivial) (fun V m hS hl => by go_simp) ?_
      simp only [Act.put, List.setIfInBounds_toArray, List.set_cons_zero, List.set_cons_succ, List.cons_append, List.nil_append]
      refine stageT_move rfl (fun V hS hl => by
          go_simp
          refine (ldrop_any (show LineAt V b L from (show LineAt W2.drew b L from HLA2.out.fr ((Fr.refl (fun _ => False) W2).drew) (fun h => h)).fr (hS.1 rfl) (fun h => h)) HL2.out HPS.out alltrue_enters (HRO.out V)).mono ?_
          rintro e V' ⟨rfl, h5, h6⟩
          rw [← HN.out]
          exact ⟨_, rfl, rfl, ⟨fun e => absurd e (by omega), fun _ => h5.out, hS.2.2.same h6.out⟩⟩) ?_
      simp only [Act.put, List.setIfInBounds_toArray, List.set_cons_zero, List.set_cons_succ, List.cons_append, List.nil_append]
      refine stageT_pure rfl (fun _ _ => trivial) (fun V m hS hl => by go_simp) ?_
      simp only [Act.put, List.setIfInBounds_toArray, List.set_cons_zero, List.set_cons_succ, List.cons_append, List.nil_append]
      refine stageT_nil (fun V2 hS hF => ?_)
      have hjb := HC4.out V2 _ hS
      have c4 := hjb.c4
      have f4 := Blk.frozen hjb 4
      have hla := hS.2.1 (Nat.le_refl _)
      have hfb : Fr (fun i => i = b) W2 V2 := ((Fr.refl (fun i => i = b) W2).drew).same hS.2.2
      clear hF hS
      obtain ⟨W4, hW4⟩ : ∃ W4, W4 = V2.setCell ⟨p, 4, none⟩ (.int .i64 (h2 : Int)) := ⟨_, rfl⟩
      have hfp : Fr (fun i => i = p) V2 W4 := by rw [hW4]; exact (Fr.refl (fun i => i = p) V2).setCell (p := ⟨p, 4, none⟩) (.inl rfl) _
      have hT1 : ∀ i, T i = 2 ∨ T i = 5 → ¬ i = p := fun i e e' => by rw [e', HTP.out] at e; rcases e with e | e <;> cases e
      have HJ4 : Hid (JB W4 p true bl bo rv (h - Jo.sizeP (atK true g pcs))) := by rw [← HNN.out, ← HH2.out, hW4]; exact hjb.held h2
      have hln : LnsR V2 T bl true F (dropK true g (fun _ => true) pcs) := HK2.out.lns.drop1 HFB.out HL2.out HLB2.out hla hfb
      have HL4 : Hid (LnsR W4 T bl true F (dropK true g (fun _ => true) pcs)) := hln.fr hfp (fun i hi e _ => hT1 i (.inl e)) (fun i hi e => hT1 i (.inr e)) (fun _ _ => rfl)
      have HLA4 : Hid (LineAt W4 b (lineF (idxP true) (atK true g pcs) (fun _ => true) L fun _ => false)) := hla.fr hfp (hT1 b (.inl HB2.out))
      have HM4 : Hid (MapX grpX W4 bl fun g => (F g).map lptr) := (HK2.out.map.fr hfb (fun e => HBN.out e.symm)).fr hfp (hT1 bl (.inl HTB.out))
      have HF4 : Hid (Fr (fun i => i < w.heap.size ∧ (T i = 2 ∨ i = p)) w W4) := (HF2.out.trans hfb (fun i hi e => ⟨hi, .inl (by rw [show i = b from e]; exact HB2.out)⟩)).trans hfp (fun i hi e => ⟨hi, .inr e⟩)
      have HBG4 : Hid (Blk W4 gg 79 #[.int .u16 (g1 : Int), .bool g2, .int .u32 (g3 : Int)]) := hfp.blk (hfb.blk HBG2.out (fun e => by have h3 := HGG.out; have h4 := HBW.out; omega)) (fun e => by have h3 := HGG.out; have h4 := HPL.out; omega)
      have HLN4 : Hid (LnOf (idxP true) (lineF (idxP true) (atK true g pcs) (fun _ => true) L fun _ => false) (atK true g (dropK true g (fun _ => true) pcs))) := by rw [dropK_at]; exact HL2.out.dropped _
      obtain ⟨n', hlen, hn'1, hn'2⟩ := MapX.len HLA4.out (t := 83) Try.underlying83 3
      have HEM : Hid (n' = 0 → atK true g (dropK true g (fun _ => true) pcs) = []) := fun h0 => HLN4.out.empty.1 (fun i => by
        have h8 := hn'2.1 h0 i
        cases hx : (lineF (idxP true) (atK true g pcs) (fun _ => true) L fun _ => false) i with
        | none => rfl
        | some x => rw [hx] at h8; cases h8)
      go_upto_region 4 with (fail)
      rw [← hW4]
      clear hW4 hjb c4 f4 hla hfb hfp hln hT1 hsub hwr
      by_cases hn0 : n' = 0
      · subst hn0
        have he0 := HEM.out rfl
        have HST := Lib.hid (HL4.out.strike he0)
        obtain ⟨w5, hdel, hm5, hturn5⟩ := HM4.out.drew.del (t := 72) Try.underlying72 (x := g) HD.out 0
        rw [show grpX.enc g = _ from HGE.out] at hdel
        have c1 := HJ4.out.c1
        have e0 := HBG4.out.cell 0
        have e1 := HBG4.out.cell 1
        have e2 := HBG4.out.cell 2
        simp only [List.getElem?_toArray, List.getElem?_cons_succ, List.getElem?_cons_zero] at e0 e1 e2
        have hfd : Fr (fun i => i = bl) W4 w5 := ((Fr.refl (fun i => i = bl) W4).drew).same ((Fr.of_grown hturn5.grown).mono (fun i hi e => by injection e))
        have HFD := Lib.hid hfd
        have HM5 := Lib.hid hm5
        clear hm5 hturn5 hfd he0
        go_upto_region 5 with (fail)
        go_region
        go_wp2_with fail
        go_end0
        refine ⟨fun z => if z = g then none else F z, rfl, ⟨HTB.out, ?_, HST.out.fr HFD.out (fun i _ _ hne e => hne e) (fun i _ h5 e => by rw [show i = bl from e, HTB.out] at h5; cases h5) (fun _ _ => rfl)⟩, HJ4.out.fr HFD.out (fun e => by have h3 := HTP.out; rw [show p = bl from e, HTB.out] at h3; cases h3), HF4.out.trans HFD.out (fun i hi e => ⟨hi, .inl (by rw [show i = bl from e]; exact HTB.out)⟩)⟩
        exact HM5.out.as_ (fun y => by unfold delF; by_cases e : y = g <;> simp [e])
      · have hn1 : ¬ ((n' : Int) = 0) := by omega
        go_wp2_with fail
        go_end0
        exact ⟨F, rfl, ⟨HTB.out, HM4.out, HL4.out⟩, HJ4.out, HF4.out⟩
end
end Go.Proofs.Ytioddokjogbmnaa.Chk

set_option linter.unusedVariables false
set_option linter.unusedSimpArgs false
set_option maxRecDepth 20000
namespace Go.Proofs.Ytioddokjogbmnaa.Chk
open Go.ChangeShapes Go.WideShapes Go.ChangeAt Go.RowKit Go.Deep Go.Maps Go.Proofs.Ytioddokjogbmnaa.Words Go.Proofs.Ytioddokjogbmnaa.Oct Go.Proofs.Ytioddokjogbmnaa.Par Go.Proofs.Ytioddokjogbmnaa.Mx
def cmpN (a b : Nat) : Int := if a < b then -1 else if b < a then 1 else 0
theorem isnan_any (x : Nat) (w : World) : Calls Try.prog 82 #[.int .u32 (x : Int)] w fun e w' => e = .returned (.bool false) ∧ w = w' := by
  go_enter Try.func82, Try.ntmps82
  go_wp2
  go_ret
  exact ⟨rfl, rfl⟩
set_option maxHeartbeats 1000000 in
theorem compare_any (a b : Nat) (w : World) : Calls Try.prog 66 #[.int .u32 (a : Int), .int .u32 (b : Int)] w fun e w' => e = .returned (.int .i64 (cmpN a b)) ∧ w = w' := by
  obtain ⟨c, hc⟩ : ∃ c, c = cmpN a b := ⟨_, rfl⟩
  rw [← hc]
  have HC := Lib.hid hc
  clear hc
  rcases Nat.lt_trichotomy a b with h | h | h
  · have h1 : (a : Int) < (b : Int) := by omega
    go_enter Try.func66, Try.ntmps66
    go_wp2_with (go_at_call 82; refine (isnan_any _ _).mono ?_; rintro e w' ⟨rfl, rfl⟩)
    go_ret
    exact ⟨ret_int (by rw [HC.out]; unfold cmpN; rw [if_pos h]), rfl⟩
  · subst h
    go_enter Try.func66, Try.ntmps66
    go_wp2_with (go_at_call 82; refine (isnan_any _ _).mono ?_; rintro e w' ⟨rfl, rfl⟩)
    go_ret
    exact ⟨ret_int (by rw [HC.out]; unfold cmpN; simp), rfl⟩
  · have h1 : (b : Int) < (a : Int) := by omega
    have h2 : ¬ (a : Int) < (b : Int) := by omega
    go_enter Try.func66, Try.ntmps66
    go_wp2_with (go_at_call 82; refine (isnan_any _ _).mono ?_; rintro e w' ⟨rfl, rfl⟩)
    go_ret
    exact ⟨ret_int (by rw [HC.out]; unfold cmpN; rw [if_neg (by omega), if_pos h]), rfl⟩
def distM (inter : Bool) (nx x : Nat) : Nat := midN inter ((x + 4294967296 - nx) % 4294967296)
set_option maxHeartbeats 2000000 in
theorem leap1_any {w : World} {p b gj go nx : Nat} {inter : Bool} (cj : w.cell? ⟨gj, 0, none⟩ = some (jptr p)) (co : w.cell? ⟨go, 0, none⟩ = some (optr b)) (c0 : w.cell? ⟨p, 0, none⟩ = some (.bool inter)) (cb : w.cell? ⟨b, 0, none⟩ = some (.int .u32 (nx : Int))) (hn : nx < 4294967296) {x y : Nat} (hx : x < 4294967296) (hy : y < 4294967296) :
    Calls Try.prog 65 #[.int .u32 (x : Int), .int .u32 (y : Int), .pointer (some ⟨gj, 0, none⟩), .pointer (some ⟨go, 0, none⟩)] w fun e w' => e = .returned (.int .i64 (cmpN (distM inter nx x) (distM inter nx y))) ∧ ∃ q, w' = w.drewN q := by
  obtain ⟨dx, hdx⟩ : ∃ d, d = (x + 4294967296 - nx) % 4294967296 := ⟨_, rfl⟩
  obtain ⟨dy, hdy⟩ : ∃ d, d = (y + 4294967296 - nx) % 4294967296 := ⟨_, rfl⟩
  have hdx2 : dx < 4294967296 := by omega
  have hdy2 : dy < 4294967296 := by omega
  have k1 := fun n => dist_any nx x (w.drewN n) hn hx
  have k2 := fun n => dist_any nx y (w.drewN n) hn hy
  have k3 := fun n => number_any (w := w.drewN n) (inter := inter) c0 hdx2
  have k4 := fun n => number_any (w := w.drewN n) (inter := inter) c0 hdy2
  unfold distM
  rw [← hdx, ← hdy]
  simp only [← hdx] at k1
  simp only [← hdy] at k2
  obtain ⟨mx, hmx⟩ : ∃ m, m = midN inter dx := ⟨_, rfl⟩
  obtain ⟨my, hmy⟩ : ∃ m, m = midN inter dy := ⟨_, rfl⟩
  simp only [← hmx] at k3 ⊢
  simp only [← hmy] at k4 ⊢
  have k5 := fun n => compare_any mx my (w.drewN n)
  obtain ⟨c, hc⟩ : ∃ c, c = cmpN mx my := ⟨_, rfl⟩
  simp only [← hc] at k5 ⊢
  clear hdx hdy hdx2 hdy2 hmx hmy hc hn hx hy
  go_enter Try.func65, Try.ntmps65
  go_upto_region 1 with (fail)
  go_quiet (first
    | (with_reducible refine Calls.mono (k1 _) ?_; rintro e w' ⟨rfl, rfl⟩; exact ⟨rfl, _, rfl⟩)
    | (with_reducible refine Calls.mono (k2 _) ?_; rintro e w' ⟨rfl, rfl⟩; exact ⟨rfl, _, rfl⟩)
    | (with_reducible refine Calls.mono (k3 _) ?_; rintro e w' ⟨rfl, rfl⟩; exact ⟨rfl, _, rfl⟩)
    | (with_reducible refine Calls.mono (k4 _) ?_; rintro e w' ⟨rfl, rfl⟩; exact ⟨rfl, _, rfl⟩)
    | (with_reducible refine Calls.mono (k5 _) ?_; rintro e w' ⟨rfl, rfl⟩; exact ⟨rfl, _, rfl⟩))
  go_wp2_with fail
  go_ret
  exact ⟨rfl, _, rfl⟩
end Go.Proofs.Ytioddokjogbmnaa.Chk

set_option linter.unusedVariables false
set_option linter.unusedSimpArgs false
set_option maxRecDepth 20000
namespace Go.Proofs.Ytioddokjogbmnaa.Chk
open Go.ChangeShapes Go.WideShapes Go.ChangeAt Go.RowKit Go.Deep Go.Maps Go.Proofs.Ytioddokjogbmnaa.Words Go.Proofs.Ytioddokjogbmnaa.Oct Go.Proofs.Ytioddokjogbmnaa.Par Go.Proofs.Ytioddokjogbmnaa.Mx
abbrev enc32 (x : UInt32) : Value := .int .u32 (x.toNat : Int)
def cfM (inter : Bool) (nx : Nat) (x y : UInt32) : Int := cmpN (distM inter nx x.toNat) (distM inter nx y.toNat)
theorem cfM_lt (inter : Bool) (nx : Nat) (x y : UInt32) : ltOf (cfM inter nx) x y = decide (distM inter nx x.toNat < distM inter nx y.toNat) := by
  unfold ltOf cfM cmpN
  by_cases h1 : distM inter nx x.toNat < distM inter nx y.toNat
  · simp [h1]
  · by_cases h2 : distM inter nx y.toNat < distM inter nx x.toNat <;> simp [h1, h2]
theorem cfM_swo (inter : Bool) (nx : Nat) : Go.Sort.SWO (ltOf (cfM inter nx)) where
  irrefl x := by rw [cfM_lt]; simp
  trans x y z h1 h2 := by rw [cfM_lt] at *; simp at *; omega
  ntrans x y z h1 h2 := by rw [cfM_lt] at *; simp at *; omega
theorem fr_sort {w : World} {g k : Nat} {d : Array UInt32} {os : Array Obj} : Fr (fun i => i = g) w (sortWorld enc32 w g 0 k d os) := by
  refine ⟨rfl, rfl, rfl, by simp [sortWorld], fun i hi hne => ?_⟩
  unfold sortWorld
  rw [Go.Sort.heap_grow_old _ _ (by simpa using hi)]
  have : ¬ g = i := fun e => hne e.symm
  simp [Go.Sort.putRow, Go.Sort.mapBlock, Go.Sort.ahead, Array.getElem?_modify, this]
theorem leap1_enters : ∀ args W, (callFunc 65 args).run Try.prog W = .ok (.enter 65 args) W := enters_of Try.func65 (by kernel_rfl) rfl
def n32V (ys : List Nat) : List Value := ys.map fun (y : Nat) => Value.int .u32 (y : Int)
theorem toNat32 {y : Nat} (h : y < 4294967296) : (UInt32.ofNat y).toNat = y := by simp [UInt32.toNat_ofNat']; omega
/-- What sorting leaves. -/
def SortDone (w : World) (base : Nat) (v : Value) (n nx : Nat) (inter : Bool) (ys : List Nat) (e : Ending) (w' : World) : Prop :=
  ∃ (zs : List Nat) (A : Option Addr) (c : Nat), e = .returned (.tuple #[]) ∧ v = .slice A n c ∧ n ≤ c ∧ zs.Perm ys ∧ zs.Pairwise (fun a b => distM inter nx a ≤ distM inter nx b) ∧ Reads w' w'.heap.size 1 A n (n32V zs) ∧ Below base w w' ∧ ∀ ad, A = some ad → base ≤ ad.block
set_option maxHeartbeats 1000000 in
theorem sort_row {w : World} {base n nx p b gj go : Nat} {inter : Bool} {v : Value} {ys : List Nat} (hown : w.ownsRow base 33 1 v n (n32V ys)) (hb : base ≤ w.heap.size) (hy : ∀ y ∈ ys, y < 4294967296) (hz : n ≤ 2000000001)
    (cj : w.cell? ⟨gj, 0, none⟩ = some (jptr p)) (co : w.cell? ⟨go, 0, none⟩ = some (optr b)) (c0 : w.cell? ⟨p, 0, none⟩ = some (.bool inter)) (cb : w.cell? ⟨b, 0, none⟩ = some (.int .u32 (nx : Int))) (hn : nx < 4294967296)
    (l1 : gj < base) (l2 : go < base) (l3 : p < base) (l4 : b < base) :
    Calls Try.prog 64 #[v, .func (.func 65) #[] #[.pointer (some ⟨gj, 0, none⟩), .pointer (some ⟨go, 0, none⟩)]] w (SortDone w base v n nx inter ys) := by
  obtain ⟨hlen, h⟩ := hown
  have hl : ys.length = n := by simpa [n32V] using hlen
  rcases Nat.eq_zero_or_pos n with h0 | hpos
  · subst h0
    have hys : ys = [] := List.eq_nil_of_length_eq_zero hl
    subst hys
    obtain ⟨A, c, rfl, hA⟩ : ∃ A c, v = .slice A 0 c ∧ ∀ ad, A = some ad → base ≤ ad.block := by
      rcases h with ⟨rfl, _⟩ | ⟨g, cap, cur, rfl, hg, _⟩
      · exact ⟨none, 0, rfl, fun ad e => by cases e⟩
      · exact ⟨_, cap, rfl, fun ad e => by injection e with e; rw [← e]; exact hg⟩
    have hS := AnyF.slices_SortFunc_none (P := Try.prog) (ρ := Try.sortL_ren) { Try.sortL with } A c (.func (.func 65) #[] #[.pointer (some ⟨gj, 0, none⟩), .pointer (some ⟨go, 0, none⟩)]) w
    change Calls Try.prog 64 _ _ _ at hS
    refine hS.mono ?_
    rintro e w' ⟨rfl, rfl⟩
    exact ⟨[], A, c, rfl, rfl, Nat.zero_le _, List.Perm.refl _, List.Pairwise.nil, ⟨rfl, fun h => absurd h (by omega)⟩, Below.refl _ _, hA⟩
  · rcases h with ⟨_, h⟩ | ⟨g, cap, cur, rfl, hg, hblk, hnc, hcm, hcs, htk⟩
    · omega
    · obtain ⟨d, hd⟩ : ∃ d : Array UInt32, d = (ys.map UInt32.ofNat).toArray := ⟨_, rfl⟩
      have hds : d.size = n := by rw [hd]; simpa using hl
      have hB : Blk w g 33 cur := hblk
      have hdj : ∀ j, (hj : j < ys.length) → d[j]! = UInt32.ofNat ys[j] := fun j hj => by rw [hd]; simp [hj]
      have hH : Go.Sort.Holds enc32 w g 0 d := fun j hj => by
        have hj' : j < ys.length := by omega
        refine ⟨?_, hB.frozen (0 + j)⟩
        have h1 := hB.cell (0 + j)
        rw [h1, hdj j hj', Nat.zero_add]
        have h2 : (cur.toList.take (n * 1))[j]? = (n32V ys)[j]? := by rw [htk]
        rw [List.getElem?_take_of_lt (by omega), Array.getElem?_toList] at h2
        rw [h2]
        unfold n32V
        rw [List.getElem?_map, List.getElem?_eq_getElem hj', Option.map_some]
        show some _ = some (Value.int .u32 _)
        rw [toNat32 (hy _ (List.getElem_mem hj'))]
      have hlt := hB.lt
      have hcmp : CmpReads Try.prog 65 #[.pointer (some ⟨gj, 0, none⟩), .pointer (some ⟨go, 0, none⟩)] enc32 (cfM inter nx) g 0 d.size w := fun m os dk hs x y => by
        have hf : Fr (fun i => i = g) w (sortWorld enc32 w g 0 m dk os) := fr_sort
        have hc : ∀ i u, i < base → w.cell? ⟨i, 0, none⟩ = some u → (sortWorld enc32 w g 0 m dk os).cell? ⟨i, 0, none⟩ = some u := fun i u hi hu => by
          rw [World.cell?_of_block (hf.block i (by omega) (by omega))]; exact hu
        exact leap1_any (hc gj _ l1 cj) (hc go _ l2 co) (hc p _ l3 c0) (hc b _ l4 cb) hn x.toNat_lt y.toNat_lt
      have hS := Any.slices_SortFunc Try.sortL enc32 (fun _ => rfl) (cfM inter nx) (cfM_swo inter nx) 65 #[.pointer (some ⟨gj, 0, none⟩), .pointer (some ⟨go, 0, none⟩)] g 0 cap d w leap1_enters hcmp.lays hH hlt (by omega)
      change Calls Try.prog 64 _ _ _ at hS
      rw [hds] at hS
      refine hS.mono ?_
      rintro e w' ⟨rfl, d', k, os, ⟨p1, p2, p3⟩, hso, rfl⟩
      have hds' : d'.size = n := p1.trans hds
      have hH' := holds_sortWorld enc32 w g 0 k d d' os hlt hH p1
      have hff : Fr (fun i => i = g) w (sortWorld enc32 w g 0 k d' os) := fr_sort
      refine ⟨d'.toList.map UInt32.toNat, _, cap, rfl, rfl, hnc, ?_, ?_, ⟨by simp [n32V]; omega, fun _ => ⟨_, rfl, lt_sortWorld enc32 w g 0 k d' os hlt, fun j u hu => ?_⟩⟩, hff.to_below hb (fun i e => by rw [show i = g from e]; exact hg), fun ad e => by injection e with e; rw [← e]; exact hg⟩
      · have h1 : d'.toList.Perm d.toList := by
          have h2 := p3
          rw [Array.toList_extract, Array.toList_extract, List.extract_eq_take_drop, List.extract_eq_take_drop] at h2
          simp only [List.drop_zero, Nat.sub_zero] at h2
          rw [List.take_of_length_le (by simp; omega), List.take_of_length_le (by simp; omega)] at h2
          exact h2
        have h3 := h1.map UInt32.toNat
        have h4 : d.toList.map UInt32.toNat = ys := by
          rw [hd]
          simp only [List.map_map]
          conv => rhs; rw [← List.map_id ys]
          exact List.map_congr_left (fun y hy' => toNat32 (hy y hy'))
        rw [h4] at h3
        exact h3
      · rw [List.pairwise_map, List.pairwise_iff_getElem]
        intro i j hi hj hij
        have hi' : i < d'.size := by simpa using hi
        have hj' : j < d'.size := by simpa using hj
        have h1 := hso i j (Nat.zero_le _) hij (by omega)
        rw [cfM_lt] at h1
        simp only [decide_eq_false_iff_not, Nat.not_lt] at h1
        rw [getElem!_pos d' i hi', getElem!_pos d' j hj'] at h1
        simpa using h1
      · have hj : j < d'.size := by
          have := (List.getElem?_eq_some_iff.1 hu).1
          simpa [n32V] using this
        have h1 := (hH' j hj).1
        rw [Nat.zero_add] at h1
        rw [cell_add0, h1, ← hu]
        unfold n32V
        rw [getElem!_pos d' j hj]
        simp [hj]
end Go.Proofs.Ytioddokjogbmnaa.Chk
