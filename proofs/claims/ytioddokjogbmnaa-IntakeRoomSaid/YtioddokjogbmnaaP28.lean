/-
  Of the texts Jp30, Jp31, Jp32, Jo, InJ: what the laws reach.
-/
import Derived.Test.YtioddokjogbmnaaP26
import Derived.Laws.EntriesVeiled
import Derived.Test.YtioddokjogbmnaaP27
import Derived.Test.YtioddokjogbmnaaP19

set_option linter.unusedVariables false
set_option linter.unusedSimpArgs false
set_option maxRecDepth 20000
namespace Go.Proofs.Ytioddokjogbmnaa.Chk
open Go.ChangeShapes Go.WideShapes Go.ChangeAt Go.RowKit Go.Deep Go.Maps Go.Proofs.Ytioddokjogbmnaa.Words Go.Proofs.Ytioddokjogbmnaa.Oct Go.Proofs.Ytioddokjogbmnaa.Par Go.Proofs.Ytioddokjogbmnaa.Mx
section
variable {w w' : World} {T T' : Nat → Nat} {p bl bo h h' : Nat} {inter : Bool} {rv : Value} {F : Gk → Option Nat} {xs : List Mg} {Om : Nat → Option Nat} {Wb next : Nat → Nat} {wait wait' : List Jo.Ms} {S G : Nat → Prop} {s : Jo.JS} {pcs : List Jo.Pc}
theorem unit_zero (w : World) : (zeroValue 102).run Try.prog w = .ok (.agg #[]) w := by kernel_rfl
/-- One stream is named. -/
def namedF (st : Nat) (i : Nat) : Option Value := if i = st then some (.agg #[]) else none
set_option maxHeartbeats 1000000 in
theorem meant_any {W : World} {gn gs gb bn st x : Nat} (hm : MapX u16X W bn (namedF st)) (cn : W.cell? ⟨gn, 0, none⟩ = some (.map (some bn))) (cs : W.cell? ⟨gs, 0, none⟩ = some (.slice (some ⟨gb, 0, none⟩) 1 1)) (hx : x < 65536) :
    Calls Try.prog 43 #[.int .u16 (x : Int), .pointer (some ⟨gn, 0, none⟩), .pointer (some ⟨gs, 0, none⟩)] W fun e w' => e = .returned (.bool (decide (x = st))) ∧ Below W.heap.size W w' := by
  have hl := MapX.look_ok hm (t := 101) Try.underlying101 (unit_zero W) (x := x) hx
  have e1 : ((namedF st x).getD (.agg #[])) = .agg #[] := by unfold namedF; split <;> rfl
  have e2 : (namedF st x).isSome = decide (x = st) := by unfold namedF; by_cases e : x = st <;> simp [e]
  rw [e1, e2] at hl
  have hl2 : (Instr.lookup 101 (.map (some bn)) (.int .u16 (x : Int)) true).run Try.prog W = .ok (.tuple #[.agg #[], .bool (decide (x = st))]) W := hl
  obtain ⟨b, hb⟩ : ∃ b, b = decide (x = st) := ⟨_, rfl⟩
  rw [← hb] at hl2 ⊢
  have ho : ∀ (o : Obj) (u : Value) (g : Nat), W.cell? ⟨g, 0, none⟩ = some u → (W.alloc o).cell? ⟨g, 0, none⟩ = some u := fun o u g hu => by
    rw [World.cell?_alloc_lt W o _ (World.block_lt_of_cell? W _ hu)]; exact hu
  have cs1 := fun o => ho o _ _ cs
  clear hl e1 e2 hb hm ho
  go_enter Try.func43, Try.ntmps43
  cases b
  · go_wp2_with fail
    go_ret
    exact ⟨rfl, below_one W _⟩
  · go_wp2_with fail
    go_ret
    exact ⟨rfl, below_one W _⟩
set_option maxHeartbeats 1000000 in
theorem meant2_any {W : World} {gn gs gb gf bn st : Nat} (hm : MapX u16X W bn (namedF st)) (cn : W.cell? ⟨gn, 0, none⟩ = some (.map (some bn))) (cs : W.cell? ⟨gs, 0, none⟩ = some (.slice (some ⟨gb, 0, none⟩) 1 1)) (cf : W.cell? ⟨gf, 0, none⟩ = some (.func (.func 43) #[] #[.pointer (some ⟨gn, 0, none⟩), .pointer (some ⟨gs, 0, none⟩)])) {m : Msg} (hx : m.st < 65536) (i v : Value) :
    Calls Try.prog 44 #[i, .agg (mCells m v), .pointer (some ⟨gf, 0, none⟩)] W fun e w' => e = .returned (.bool (decide (m.st = st))) ∧ Below W.heap.size W w' := by
  obtain ⟨m1, m2, m3, m4, m5⟩ := m
  show Calls _ _ _ _ fun e w' => e = .returned (.bool (decide (m1 = st))) ∧ _
  have hx' : m1 < 65536 := hx
  simp only [mCells]
  obtain ⟨W1, hW1⟩ : ∃ W1, W1 = W.alloc (.cells #[.int .u16 (m1 : Int), .bool m2, .int .u32 (m3 : Int), .int .u32 (m4 : Int), v] 43) := ⟨_, rfl⟩
  obtain ⟨g1, hg1⟩ : ∃ g1, g1 = W.heap.size := ⟨_, rfl⟩
  have hb1 : Blk W1 g1 43 #[.int .u16 (m1 : Int), .bool m2, .int .u32 (m3 : Int), .int .u32 (m4 : Int), v] := by rw [hW1, hg1]; exact Blk.new _ _ _
  have f0 := hb1.cell 0
  simp only [List.getElem?_toArray, List.getElem?_cons_zero] at f0
  have ho : ∀ (u : Value) (g : Nat), W.cell? ⟨g, 0, none⟩ = some u → W1.cell? ⟨g, 0, none⟩ = some u := fun u g hu => by
    rw [hW1, World.cell?_alloc_lt W _ _ (World.block_lt_of_cell? W _ hu)]; exact hu
  have hf1 : Fr (fun _ => False) W W1 := by rw [hW1]; exact (Fr.refl _ W).alloc _
  have t1 := ho _ _ cf
  have hcall := meant_any (hm.fr hf1 (fun h => h)) (ho _ _ cn) (ho _ _ cs) hx'
  have HB : Hid (Below W.heap.size W W1) := by rw [hW1]; exact below_one W _
  clear hm cn cs cf ho hf1 hb1 hx hx'
  go_enter Try.func44, Try.ntmps44
  go_upto_region 1 with (fail)
  rw [← hW1, ← hg1]
  clear hW1 hg1
  go_wp2_with fail
  refine hcall.mono ?_
  rintro e w2 ⟨rfl, hb2⟩
  go_wp2_with fail
  go_ret
  exact ⟨rfl, HB.out.trans (hb2.mono HB.out.size)⟩
theorem meant2_enters : ∀ args W, (callFunc 44 args).run Try.prog W = .ok (.enter 44 args) W := enters_of Try.func44 (by kernel_rfl) rfl
end
end Go.Proofs.Ytioddokjogbmnaa.Chk

set_option linter.unusedVariables false
set_option linter.unusedSimpArgs false
set_option maxRecDepth 20000
namespace Go.Proofs.Ytioddokjogbmnaa.Chk
open Go.ChangeShapes Go.WideShapes Go.ChangeAt Go.RowKit Go.Deep Go.Maps Go.Proofs.Ytioddokjogbmnaa.Words Go.Proofs.Ytioddokjogbmnaa.Oct Go.Proofs.Ytioddokjogbmnaa.Par Go.Proofs.Ytioddokjogbmnaa.Mx
section
variable {w w' : World} {T T' : Nat → Nat} {p bl bo h h' : Nat} {inter : Bool} {rv : Value} {F : Gk → Option Nat} {xs : List Mg} {Om : Nat → Option Nat} {Wb next : Nat → Nat} {wait wait' : List Jo.Ms} {S G : Nat → Prop} {s : Jo.JS} {pcs : List Jo.Pc}
def ResetDone (w : World) (G : Nat → Prop) (p : Nat) (inter : Bool) (s : Jo.JS) (st : Nat) (e : Ending) (w' : World) : Prop :=
  ∃ s' G', e = .returned (.tuple #[]) ∧ JRep w' G' p inter s' ∧ Jo.ResetR s [st] s' ∧ (∀ i, G' i → G i ∨ w.heap.size ≤ i) ∧ Fr G w w'
/-- A stream's order is struck. -/
def offO (wait : List Jo.Ms) (st : Nat) : List Jo.Ms := wait.filter fun m => !decide (m.st = st)
theorem OrdR.strike (k : OrdR w T bo inter Om Wb next wait) {st b : Nat} (ho : Om st = some b) {w1 : World} (hm : MapX u16X w1 bo (delF (fun s => (Om s).map optr) st)) (hf : Fr (fun i => i = bo) w w1) :
    OrdR w1 T bo inter (fun z => if z = st then none else Om z) Wb (setN next st 0) (offO wait st) := by
  have hin : ∀ m, m ∈ offO wait st ↔ (m ∈ wait ∧ m.st ≠ st) := fun m => by unfold offO; rw [List.mem_filter]; simp
  refine ⟨k.tbo, hm.as_ (fun z => ?_), fun z b' hz => ?_, fun z hz => ?_, fun z z' b' hz hz' => ?_, fun z z' b1 b2 hz hz' e => ?_, fun m hm' => k.wok m ((hin m).1 hm').1, fun z => ?_, k.wnd.filter _⟩
  · unfold delF
    by_cases e : z = st
    · rw [if_pos e, if_pos e]; rfl
    · rw [if_neg e, if_neg e]
  · by_cases e : z = st
    · rw [if_pos e] at hz; cases hz
    · rw [if_neg e] at hz
      have kk := k.ord z b' hz
      have h1 := (kk.fr (T' := T) hf ⟨fun e' => k.ne_bo hz e', fun e' => kk.ne e'⟩ (fun i hi h5 e' => by rw [show i = bo from e', k.tbo] at h5; cases h5) (fun _ _ => rfl)).wait_ (wait' := offO wait st) (fun m hms => ⟨fun hx => ((hin m).1 hx).1, fun hx => (hin m).2 ⟨hx, by rw [hms]; exact e⟩⟩)
      unfold setN
      rw [if_neg e]
      exact h1
  · by_cases e : z = st
    · subst e
      exact ⟨setN_at _ _ _, fun m hm' => ((hin m).1 hm').2⟩
    · rw [if_neg e] at hz
      refine ⟨by unfold setN; rw [if_neg e]; exact (k.none_ z hz).1, fun m hm' => (k.none_ z hz).2 m ((hin m).1 hm').1⟩
  · by_cases e1 : z = st
    · rw [if_pos e1] at hz; cases hz
    · by_cases e2 : z' = st
      · rw [if_pos e2] at hz'; cases hz'
      · rw [if_neg e1] at hz; rw [if_neg e2] at hz'; exact k.inj z z' b' hz hz'
  · by_cases e1 : z = st
    · rw [if_pos e1] at hz; cases hz
    · by_cases e2 : z' = st
      · rw [if_pos e2] at hz'; cases hz'
      · rw [if_neg e1] at hz; rw [if_neg e2] at hz'; exact k.sep z z' b1 b2 hz hz' e
  · unfold setN
    split
    · exact modN_pos
    · exact k.nx z
theorem OrdR.struck0 (k : OrdR w T bo inter Om Wb next wait) {st : Nat} (ho : Om st = none) : offO wait st = wait ∧ setN next st 0 = next := by
  obtain ⟨h1, h2⟩ := k.none_ st ho
  refine ⟨List.filter_eq_self.2 (fun m hm => by simp [h2 m hm]), ?_⟩
  rw [← h1]
  exact setN_self next st
def leftS (st : Nat) (left : Nat → Bool) (wait : List Jo.Ms) : Nat := Jo.sizeM (wait.filter fun m => decide (m.st = st) && left m.mid)
theorem sizeM_fcons (f : Jo.Ms → Bool) (a : Jo.Ms) (t : List Jo.Ms) : Jo.sizeM ((a :: t).filter f) = (if f a = true then a.body.length else 0) + Jo.sizeM (t.filter f) := by cases h : f a <;> simp [h, Jo.sizeM]
theorem leftS_step {st x : Nat} {left : Nat → Bool} {m : Jo.Ms} (hw : wait.Pairwise (fun a b => ¬ (a.st = b.st ∧ a.mid = b.mid))) (hm : m ∈ wait) (hs : m.st = st) (hx : m.mid = x) (hl : left x = true) : leftS st left wait = leftS st (fun y => left y && !decide (y = x)) wait + m.body.length := by
  unfold leftS
  induction wait with
  | nil => simp at hm
  | cons a t ih =>
    obtain ⟨k1, k2⟩ := List.pairwise_cons.1 hw
    rw [sizeM_fcons, sizeM_fcons]
    rcases List.mem_cons.1 hm with rfl | hm'
    · have h3 : t.filter (fun m => decide (m.st = st) && left m.mid) = t.filter (fun m => decide (m.st = st) && (left m.mid && !decide (m.mid = x))) := List.filter_congr fun q hq => by
        by_cases e : q.st = st
        · have : q.mid ≠ x := fun e' => k1 q hq ⟨hs.trans e.symm, hx.trans e'.symm⟩
          simp [this]
        · simp [e]
      rw [h3, if_pos (by simp [hs, hx, hl]), if_neg (by simp [hx])]
      show _ + _ = 0 + Jo.sizeM (t.filter fun m => decide (m.st = st) && (left m.mid && !decide (m.mid = x))) + _
      omega
    · have ih := ih k2 hm'
      have ha : (decide (a.st = st) && left a.mid) = (decide (a.st = st) && (left a.mid && !decide (a.mid = x))) := by
        by_cases e : a.st = st
        · have : a.mid ≠ x := fun e' => k1 m hm' ⟨e.trans hs.symm, e'.trans hx.symm⟩
          simp [this]
        · simp [e]
      show (if (decide (a.st = st) && left a.mid) = true then a.body.length else 0) + _ = (if (decide (a.st = st) && (left a.mid && !decide (a.mid = x))) = true then a.body.length else 0) + _ + _
      rw [← ha, ih]
      omega
end
end Go.Proofs.Ytioddokjogbmnaa.Chk

set_option linter.unusedVariables false
set_option linter.unusedSimpArgs false
set_option maxRecDepth 20000
namespace Go.Proofs.Ytioddokjogbmnaa.Chk
open Go.ChangeShapes Go.WideShapes Go.ChangeAt Go.RowKit Go.Deep Go.Maps Go.Proofs.Ytioddokjogbmnaa.Words Go.Proofs.Ytioddokjogbmnaa.Oct Go.Proofs.Ytioddokjogbmnaa.Par Go.Proofs.Ytioddokjogbmnaa.Mx
section
variable {w w' : World} {T T' : Nat → Nat} {p bl bo h h' : Nat} {inter : Bool} {rv : Value} {F : Gk → Option Nat} {xs : List Mg} {Om : Nat → Option Nat} {Wb next : Nat → Nat} {wait wait' : List Jo.Ms} {S G : Nat → Prop} {s : Jo.JS} {pcs : List Jo.Pc}
/-- How far the orders are gone over. -/
structure RsX (w4 wr : World) (T : Nat → Nat) (p bl bo q : Nat) (inter : Bool) (rv : Value) (xs : List Mg) (Wb : Nat → Nat) (Om6 : Nat → Option Nat) (next6 : Nat → Nat) (wait6 : List Jo.Ms) (h6 : Nat) (left : Nat → Bool) (cnt : Nat) : Prop where
  rg : RangeX u16X wr bo q (fun z => (Om6 z).map optr) left cnt
  jo : JO wr T p inter bl bo rv h6 xs Om6 Wb next6 wait6
  fr : Fr (fun i => i < w4.heap.size ∧ (T i = 3 ∨ i = p)) w4 wr
def onS (wait : List Jo.Ms) (st : Nat) : List Jo.Ms := wait.filter fun m => decide (m.st = st)
theorem onS_size (st : Nat) : ∀ l : List Jo.Ms, Jo.sizeM (offO l st) + Jo.sizeM (onS l st) = Jo.sizeM l
  | [] => rfl
  | a :: t => by
    have ih := onS_size st t
    unfold offO onS at ih ⊢
    have ec : ∀ (z : Jo.Ms) (l : List Jo.Ms), Jo.sizeM (z :: l) = z.body.length + Jo.sizeM l := fun z l => by simp [Jo.sizeM]
    by_cases e : a.st = st <;> simp [e, ec] <;> omega
def RsAt (Om Om6 : Nat → Option Nat) (next next6 : Nat → Nat) (wait wait6 : List Jo.Ms) (h4 h6 st : Nat) (left : Nat → Bool) : Prop :=
  (Om6 = Om ∧ next6 = next ∧ wait6 = wait ∧ h6 = h4 ∧ left st = (Om st).isSome) ∨ (Om6 = (fun z => if z = st then none else Om z) ∧ next6 = setN next st 0 ∧ wait6 = offO wait st ∧ h6 = h4 - Jo.sizeM (onS wait st) ∧ left st = false)
theorem reset_end {st : Nat} {F4 : Gk → Option Nat} {Om6 : Nat → Option Nat} {next6 : Nat → Nat} {wait6 : List Jo.Ms} {pcs4 : List Jo.Pc} {h4 h6 : Nat} {left : Nat → Bool} {cnt q : Nat} {w4 W : World} (k : JRp w T p bl bo inter rv F Om Wb xs s) (hj4 : JO w4 T p inter bl bo rv h4 xs Om Wb s.next s.wait) (x : RsX w4 W T p bl bo q inter rv xs Wb Om6 next6 wait6 h6 left cnt) (at_ : RsAt Om Om6 s.next next6 s.wait wait6 h4 h6 st left) (hall : ∀ z, left z = false) (hl : LinesR w4 T bl inter F4 pcs4) (hsub : ∀ q ∈ pcs4, q ∈ s.pcs)
    (hh : h4 = Jo.sizeP pcs4 + Jo.sizeM s.wait + Jo.sizeM s.ready ∧ h4 ≤ 2000000000) (hfr : Fr (fun i => i < w.heap.size ∧ T i ≠ 0) w w4) : ResetDone w (fun i => T i ≠ 0) p inter s st (.returned (.tuple #[])) W := by
  have hos := onS_size st s.wait
  have hB : next6 = setN s.next st 0 ∧ wait6 = offO s.wait st ∧ h6 = h4 - Jo.sizeM (onS s.wait st) := by
    rcases at_ with ⟨rfl, rfl, rfl, rfl, h5⟩ | ⟨_, h2, h3, h4, _⟩
    · rw [hall] at h5
      have hno : Om6 st = none := by cases ho : Om6 st with | none => rfl | some b => rw [ho] at h5; cases h5
      obtain ⟨e1, e2⟩ := hj4.ord.struck0 hno
      rw [e1] at hos
      refine ⟨e2.symm, e1.symm, by omega⟩
    · exact ⟨h2, h3, h4⟩
  obtain ⟨rfl, rfl, rfl⟩ := hB
  have hheld : Jo.held ⟨pcs4, offO s.wait st, s.ready, setN s.next st 0⟩ = h4 - Jo.sizeM (onS s.wait st) := by
    show Jo.sizeP pcs4 + Jo.sizeM (offO s.wait st) + Jo.sizeM s.ready = _
    have := hh.1
    omega
  have hln : LinesR W T bl inter F4 pcs4 := hl.fr x.fr (fun i hi e hx => by
    rcases hx.2 with h | h
    · rw [e] at h; cases h
    · rw [h, k.jo.tp] at e; cases e) (fun i hi e hx => by
    rcases hx.2 with h | h
    · rw [e] at h; cases h
    · rw [h, k.jo.tp] at e; cases e) (fun _ _ => rfl)
  refine ⟨⟨pcs4, offO s.wait st, s.ready, setN s.next st 0⟩, fun i => T i ≠ 0, rfl, ⟨T, bl, bo, rv, F4, Om6, Wb, xs, fun i => Iff.rfl, by rw [hheld]; exact x.jo, hln, k.rd, by rw [hheld]; have := hh.2; omega, fun q hq => k.pok q (hsub q hq)⟩, ⟨hsub, fun m hm => (List.mem_filter.1 hm).1, rfl, fun t => ?_⟩, fun i hi => .inl hi, (hfr.trans x.fr (fun i hi e => ⟨hi, ?_⟩)).mono (fun i hi e => e.2)⟩
  · show setN s.next st 0 t = _
    unfold setN
    by_cases e : t = st <;> simp [e]
  · rcases e.2 with h | h
    · rw [h]; decide
    · rw [h, k.jo.tp]; decide
set_option maxHeartbeats 8000000 in
theorem reset_any {st g : Nat} (k : JRp w T p bl bo inter rv F Om Wb xs s) (hb : Blk w g 34 #[.int .u16 (st : Int)]) (hst : st < 65536) (hg : T g = 0) :
    Calls Try.prog 19 #[jptr p, .slice (some ⟨g, 0, none⟩) 1 1] w (ResetDone w (fun i => T i ≠ 0) p inter s st) := by
  obtain ⟨W1, hW1⟩ : ∃ W1, W1 = ((w.alloc (.cells #[.slice (some ⟨g, 0, none⟩) 1 1] 100)).alloc (.map #[] 0)).alloc (.cells #[.map (some (w.heap.size + 1))] 101) := ⟨_, rfl⟩
  obtain ⟨gs, hgs⟩ : ∃ gs, gs = w.heap.size := ⟨_, rfl⟩
  obtain ⟨mb, hmb⟩ : ∃ mb, mb = w.heap.size + 1 := ⟨_, rfl⟩
  obtain ⟨gn, hgn⟩ : ∃ gn, gn = w.heap.size + 2 := ⟨_, rfl⟩
  have HB1 : Hid (Below w.heap.size w W1) := by rw [hW1]; exact (below_two w _ _).alloc (by simp; omega) _
  have HGS1 : Hid (Blk W1 gs 100 #[.slice (some ⟨g, 0, none⟩) 1 1]) := by rw [hW1, hgs]; exact ((Blk.new w _ _).alloc _).alloc _
  have HGN1 : Hid (Blk W1 gn 101 #[.map (some mb)]) := by
    have := Blk.new ((w.alloc (.cells #[.slice (some ⟨g, 0, none⟩) 1 1] 100)).alloc (.map #[] 0)) 101 #[.map (some mb)]
    rw [World.size_alloc, World.size_alloc] at this
    rw [hW1, hgn, ← hmb]; exact this
  have HMB1 : Hid (MapX u16X W1 mb (fun _ => none)) := by
    have h1 := MapX.new u16X (w.alloc (.cells #[.slice (some ⟨g, 0, none⟩) 1 1] 100))
    rw [World.size_alloc] at h1
    rw [hW1, hmb]
    exact h1.fr ((Fr.refl (fun _ => False) _).alloc _) (fun h => h)
  have HBG1 : Hid (Blk W1 g 34 #[.int .u16 (st : Int)]) := (Fr.of_below HB1.out).blk hb (fun e => by have e' : w.heap.size ≤ g := e; have := Blk.lt hb; omega)
  have hgw : g < w.heap.size := Blk.lt hb
  have HK := Lib.hid k
  have HLT : Hid (g < w.heap.size ∧ p < w.heap.size ∧ w.heap.size ≤ gs ∧ w.heap.size ≤ mb ∧ w.heap.size ≤ gn ∧ gs ≠ mb ∧ gn ≠ mb) := ⟨hgw, Blk.lt k.jo.jb, by omega, by omega, by omega, by omega, by omega⟩
  have HGT := Lib.hid hg
  have hmm := @run_makeMap Try.prog
  have HSG := Lib.hid hgs
  have HSM := Lib.hid hmb
  have HSN := Lib.hid hgn
  have HSW := Lib.hid hW1
  have cs := HGS1.out.cell 0
  simp only [List.getElem?_toArray, List.getElem?_cons_zero] at cs
  clear k hb hg hgw hgs hmb hgn hW1
  go_enter Try.func19, Try.ntmps19
  go_upto_region 2 with (fail)
  rw [← HSM.out] at HSW
  rw [← HSN.out, ← HSM.out, ← HSG.out]
  rw [HSG.out, ← HSW.out, ← HSG.out]
  clear hmm HSW HSG HSM HSN
  go_wp2_with fail
  go_loopw [6, 15] (fun _ v15 wr => ∃ kk : Nat, v15 = .int .i64 (kk : Int) ∧ kk ≤ 1 ∧ Hid (MapX u16X wr mb (if kk = 0 then (fun _ => none) else namedF st)) ∧ Hid (Fr (fun i => i = mb) W1 wr)) (fun _ v15 _ => 1 - (intOf v15).toNat)
  case atStart => exact ⟨0, rfl, by omega, HMB1, Fr.refl _ _⟩
  case round =>
    clear cs
    obtain ⟨kk, rfl, hkk, HM, HF⟩ := hrel
    have HGSr := Lib.hid (HF.out.blk HGS1.out (by have := HLT.out; omega))
    have HGNr := Lib.hid (HF.out.blk HGN1.out (by have := HLT.out; omega))
    have HBGr := Lib.hid (HF.out.blk HBG1.out (by have := HLT.out; omega))
    have cn := HGNr.out.cell 0
    have cg := HBGr.out.cell 0
    simp only [List.getElem?_toArray, List.getElem?_cons_zero] at cn cg
    by_cases hk0 : kk = 0
    · subst hk0
      obtain ⟨w2, hput, hm2, hturn⟩ := MapX.put HM.out (t := 101) Try.underlying101 (x := st) hst (.agg #[])
      have hput2 : (Instr.mapUpdate 101 (.map (some mb)) (.int .u16 (st : Int)) (.agg #[])).run Try.prog wr = .ok () w2 := hput
      have HM2 : Hid (MapX u16X w2 mb (namedF st)) := hm2.as_ (fun z => by unfold putF namedF; rfl)
      have HF2 : Hid (Fr (fun i => i = mb) W1 w2) := HF.out.same ((Fr.of_grown hturn.grown).mono (fun i hi e => by injection e))
      clear hput hm2 hturn
      go_wp2_with fail
      go_roundw
      case rel => exact ⟨1, by go_num, by omega, HM2, HF2⟩
      case measure => simp [intOf]
    · obtain rfl : kk = 1 := by omega
      have HM1 : Hid (MapX u16X wr mb (namedF st)) := HM.out
      obtain ⟨W3, hW3⟩ : ∃ W3, W3 = wr.alloc (.cells #[.func (.func 43) #[] #[.pointer (some ⟨gn, 0, none⟩), .pointer (some ⟨gs, 0, none⟩)]] 104) := ⟨_, rfl⟩
      obtain ⟨gf, hgf⟩ : ∃ gf, gf = wr.heap.size := ⟨_, rfl⟩
      have hf3 : Fr (fun _ => False) wr W3 := by rw [hW3]; exact (Fr.refl _ wr).alloc _
      have HBr : Hid (Below w.heap.size w wr) := below_fr HB1.out HF.out (Nat.le_refl _) (fun i e => by rw [show i = mb from e]; have := HLT.out; omega)
      have HB3 : Hid (Below w.heap.size w W3) := below_fr HBr.out hf3 (Nat.le_refl _) (fun _ e => e.elim)
      have HGF3 : Hid (Blk W3 gf 104 #[.func (.func 43) #[] #[.pointer (some ⟨gn, 0, none⟩), .pointer (some ⟨gs, 0, none⟩)]]) := by rw [hW3, hgf]; exact Blk.new _ _ _
      have HGS3 := Lib.hid (hf3.blk HGSr.out (fun h => h))
      have HGN3 := Lib.hid (hf3.blk HGNr.out (fun h => h))
      have HMB3 := Lib.hid (HM1.out.fr hf3 (fun h => h))
      have HGFL : Hid (w.heap.size ≤ gf) := by rw [hgf]; exact HBr.out.size
      have HJ3 := Lib.hid (HK.out.jo.grows HB3.out)
      have HL3 : Hid (LinesR W3 T bl inter F s.pcs) := HK.out.ln.fr (Fr.of_below HB3.out) (fun i hi _ e => by have e' : w.heap.size ≤ i := e; omega) (fun i hi _ e => by have e' : w.heap.size ≤ i := e; omega) (fun _ _ => rfl)
      have HT0 : Hid (∀ i, w.heap.size ≤ i → T i = 0) := HK.out.jo.out
      have hnS : ∀ i, w.heap.size ≤ i → ¬ (i < W3.heap.size ∧ (T i = 2 ∨ i = p)) := fun i hi e => by
        rcases e.2 with e2 | e2
        · rw [HT0.out i hi] at e2; cases e2
        · have := HLT.out; omega
      have hrule : RuleJ W3 T p 44 #[.pointer (some ⟨gf, 0, none⟩)] inter s.pcs (fun q => decide (q.st = st)) := fun W q v hf hc hq => by
        have h1 := (hf.blk HGN3.out (hnS gn (by have := HLT.out; omega))).cell 0
        have h2 := (hf.blk HGS3.out (hnS gs (by have := HLT.out; omega))).cell 0
        have h3 := (hf.blk HGF3.out (hnS gf HGFL.out)).cell 0
        simp only [List.getElem?_toArray, List.getElem?_cons_zero] at h1 h2 h3
        exact meant2_any (HMB3.out.fr hf (hnS mb (by have := HLT.out; omega))) h1 h2 h3 (m := pcM q) (HK.out.pok q hq).st _ _
      have hsp : Jo.sizeP s.pcs ≤ Jo.held s := by unfold Jo.held; omega
      have hdrop := jdrop_any HJ3.out.jb HJ3.out.tp HL3.out HJ3.out.out hsp HK.out.small meant2_enters hrule
      go_upto_region 8 with (fail)
      rw [← hW3, ← hgf]
      clear hW3 hgf hf3 hsp hrule cn cg HM HM1 HF HGSr HGNr HBGr HBr
      go_wp2_with fail
      refine hdrop.mono ?_
      clear hdrop
      rintro e w4 ⟨F4, rfl, hl4, hj4, hf4⟩
      have HJ4 := Lib.hid (HJ3.out.reheld hf4 hj4)
      have HL4 := Lib.hid hl4
      have HF4 : Hid (Fr (fun i => i < w.heap.size ∧ T i ≠ 0) w w4) := ((Fr.of_below HB3.out).mono (T := fun i => i < w.heap.size ∧ T i ≠ 0) (fun i hi e => by have e' : w.heap.size ≤ i := e; omega)).trans hf4 (fun i hi e => ⟨hi, by
        rcases e.2 with e2 | e2
        · rw [e2]; decide
        · rw [e2, HK.out.jo.tp]; decide⟩)
      have HGF4 := Lib.hid (hf4.blk HGF3.out (hnS gf HGFL.out))
      have HGS4 := Lib.hid (hf4.blk HGS3.out (hnS gs (by have := HLT.out; omega)))
      have HGN4 := Lib.hid (hf4.blk HGN3.out (hnS gn (by have := HLT.out; omega)))
      have HMB4 := Lib.hid (HMB3.out.fr hf4 (hnS mb (by have := HLT.out; omega)))
      obtain ⟨pcs4, hpcs4⟩ : ∃ pcs4, pcs4 = s.pcs.filter fun q => !decide (q.st = st) := ⟨_, rfl⟩
      obtain ⟨h4, hh4⟩ : ∃ h4, h4 = Jo.held s - Jo.sizeP (s.pcs.filter fun q => decide (q.st = st)) := ⟨_, rfl⟩
      rw [← hh4] at HJ4
      rw [← hpcs4] at HL4
      have HH4 : Hid (h4 = Jo.sizeP pcs4 + Jo.sizeM s.wait + Jo.sizeM s.ready ∧ h4 ≤ 2000000000) := by
        have e1 := sizeP_split (fun q => decide (q.st = st)) s.pcs
        have e2 := HK.out.small
        unfold Hid
        rw [hh4, hpcs4]
        unfold Jo.held at e2 ⊢
        constructor <;> omega
      have HSUB : Hid (∀ q ∈ pcs4, q ∈ s.pcs) := by rw [hpcs4]; exact fun q hq => (List.mem_filter.1 hq).1
      clear hl4 hj4 hf4 hpcs4 hh4 hnS HGF3 HGS3 HGN3 HMB3 HJ3 HL3 HB3
      obtain ⟨w5, cnt, hrun, hrg, hgr, hsz⟩ := MapX.range HJ4.out.ord.map (t := 73) Try.underlying73
      obtain ⟨q, hq⟩ : ∃ q, q = w4.heap.size := ⟨_, rfl⟩
      rw [← hq] at hrg hrun
      have hf5 : Fr (fun _ => False) w4 w5 := (Fr.refl _ w4).grown hgr (fun g hg => by cases hg)
      have HX0 : Hid (RsX w4 w5 T p bl bo q inter rv xs Wb Om s.next s.wait h4 (fun z => (Om z).isSome) cnt) := ⟨hrg.as_ (fun z => by show ((Om z).map optr).isSome = _; cases Om z <;> rfl), HJ4.out.fr hf5 (fun _ _ _ h => h) (Ext.same HJ4.out.out hf5.size), hf5.mono (fun _ _ h => h.elim)⟩
      have c2 := HJ4.out.jb.c2
      have HQ : Hid (q = w4.heap.size) := hq
      clear hrg hgr hsz hq hf5
      go_wp2_with fail
      go_loopw [8, 9, 11] (fun _ _ _ wr => ∃ (left : Nat → Bool) (cnt : Nat) (Om6 : Nat → Option Nat) (next6 : Nat → Nat) (wait6 : List Jo.Ms) (h6 : Nat), Hid (RsX w4 wr T p bl bo q inter rv xs Wb Om6 next6 wait6 h6 left cnt) ∧ Hid (RsAt Om Om6 s.next next6 s.wait wait6 h4 h6 st left)) (fun _ _ _ wr => wr.rangeLeft bo q)
      case atStart => exact ⟨_, cnt, Om, s.next, s.wait, h4, HX0, .inl ⟨rfl, rfl, rfl, rfl, rfl⟩⟩
      case round =>
        clear HX0 hrun c2
        obtain ⟨left, cnt, Om6, next6, wait6, h6, HX, HAT⟩ := hrel
        rcases HX.out.rg.next 0 with ⟨hall, hrun2⟩ | ⟨z, v, w6, cnt6, hdom, hlz, hfz, hrun2, hrg6, hlt6, hgr6, hsz6, hen⟩
        · have HEND := Lib.hid (reset_end HK.out HJ4.out HX.out HAT.out hall HL4.out HSUB.out HH4.out HF4.out)
          clear hall
          go_wp2_with fail
          go_end0
          exact HEND.out
        · obtain ⟨b, hOb, rfl⟩ : ∃ b, Om6 z = some b ∧ v = optr b := by
            have hfz' : (Om6 z).map optr = some v := hfz
            cases hl : Om6 z with
            | none => rw [hl] at hfz'; cases hfz'
            | some b => rw [hl] at hfz'; injection hfz' with hfz'; exact ⟨b, rfl, hfz'.symm⟩
          have hrun3 : (Instr.next (.pointer (some ⟨q, 0, none⟩)) false 0).run Try.prog wr = .ok (.tuple #[.bool true, .int .u16 (z : Int), .pointer (some ⟨b, 0, none⟩)]) w6 := hrun2
          have hen3 : (Instr.entry (.pointer (some ⟨q, 0, none⟩))).run Try.prog w6 = .ok (.tuple #[.int .u16 (z : Int), .pointer (some ⟨b, 0, none⟩)]) w6 := hen
          have hf6 : Fr (fun i => i = q) wr w6 := (Fr.of_grown hgr6).mono (fun i hi e => by injection e)
          have htq : T q = 0 := HJ4.out.out q (by have := HQ.out; omega)
          have hj6 : JO w6 T p inter bl bo rv h6 xs Om6 Wb next6 wait6 := HX.out.jo.fr hf6 (fun i hi e e' => by rw [show i = q from e', htq] at e; rcases e with e | e | e | e <;> cases e) (Ext.same HX.out.jo.out hf6.size)
          have HF6 : Hid (Fr (fun i => i < w4.heap.size ∧ (T i = 3 ∨ i = p)) w4 w6) := HX.out.fr.trans hf6 (fun i hi e => by have := HQ.out; omega)
          have hnb : ∀ i, w.heap.size ≤ i → ¬ (i < w4.heap.size ∧ (T i = 3 ∨ i = p)) := fun i hi e => by
            rcases e.2 with e2 | e2
            · rw [HT0.out i hi] at e2; cases e2
            · have := HLT.out; omega
          have cf := (HF6.out.blk HGF4.out (hnb gf HGFL.out)).cell 0
          have cn := (HF6.out.blk HGN4.out (hnb gn (by have := HLT.out; omega))).cell 0
          have cs := (HF6.out.blk HGS4.out (hnb gs (by have := HLT.out; omega))).cell 0
          simp only [List.getElem?_toArray, List.getElem?_cons_zero] at cf cn cs
          have hmeant := meant_any (HMB4.out.fr HF6.out (hnb mb (by have := HLT.out; omega))) cn cs hdom
          have HJ6 := Lib.hid hj6
          have HRG6 := Lib.hid hrg6
          have HLT6 := Lib.hid hlt6
          have HCE := Lib.hid HX.out.rg.left_eq
          have HOB := Lib.hid hOb
          have HLZ := Lib.hid hlz
          obtain ⟨mt, hmt⟩ : ∃ mt, mt = decide (z = st) := ⟨_, rfl⟩
          rw [← hmt] at hmeant
          have HMT := Lib.hid hmt
          clear hrun2 hen hsz6 hfz hf6 htq hj6 hnb cn cs hrg6 hlt6 hgr6 hOb hlz hdom hmt
          go_wp2_with fail
          refine hmeant.mono ?_
          clear hmeant hrun3 hen3 cf
          rintro e w7 ⟨rfl, hb7⟩
          have hf7 : Fr (fun _ => False) w6 w7 := (Fr.of_below hb7).mono (fun i hi e => by have e' : w6.heap.size ≤ i := e; omega)
          have HJ7 := Lib.hid (HJ6.out.fr hf7 (fun _ _ _ h => h) (Ext.same HJ6.out.out hf7.size))
          have HF7 : Hid (Fr (fun i => i < w4.heap.size ∧ (T i = 3 ∨ i = p)) w4 w7) := HF6.out.trans hf7 (fun _ _ e => e.elim)
          have HRG7 := Lib.hid (HRG6.out.fr hf7 (fun h => h) (fun h => h))
          clear hb7 hf7 HJ6 HF6 HRG6 HX
          cases mt
          · have hzs : ¬ z = st := fun e => by have := HMT.out; rw [e] at this; simp at this
            have HZS := Lib.hid hzs
            clear hzs
            go_wp2_with fail
            go_roundw
            case rel =>
              refine ⟨fun y => left y && !decide (y = z), cnt6, Om6, next6, wait6, h6, ⟨HRG7.out, HJ7.out, HF7.out⟩, ?_⟩
              rcases HAT.out with ⟨a1, a2, a3, a4, a5⟩ | ⟨a1, a2, a3, a4, a5⟩
              · refine .inl ⟨a1, a2, a3, a4, ?_⟩
                show (left st && !decide (st = z)) = _
                rw [a5, decide_eq_false (fun e => HZS.out e.symm)]
                simp
              · refine .inr ⟨a1, a2, a3, a4, ?_⟩
                show (left st && !decide (st = z)) = false
                rw [a5]; rfl
            case measure => rw [HRG7.out.left_eq, HCE.out]; exact HLT6.out
          · have hzs : z = st := by have := HMT.out; simpa using this.symm
            have hat : Om6 = Om ∧ next6 = s.next ∧ wait6 = s.wait ∧ h6 = h4 ∧ left st = (Om st).isSome := by
              rcases HAT.out with h | ⟨_, _, _, _, h5⟩
              · exact h
              · have := HLZ.out; rw [hzs, h5] at this; cases this
            have HAT2 := Lib.hid hat
            have HOst : Hid (Om6 st = some b) := by rw [← hzs]; exact HOB.out
            have hho : Jo.sizeM (onS wait6 st) ≤ h6 ∧ h6 ≤ 2000000000 := by
              have e1 := onS_size st wait6
              have e2 := HH4.out
              rw [hat.2.2.1] at e1 ⊢
              rw [hat.2.2.2.1]
              omega
            have HHO := Lib.hid hho
            obtain ⟨W, hW1, hW2, hW3⟩ := (HJ7.out.ord.ord st b HOst.out).ws
            have cb := (HJ7.out.ord.ord st b HOst.out).blk.cell 1
            simp only [List.getElem?_toArray, List.getElem?_cons_succ, List.getElem?_cons_zero] at cb
            obtain ⟨wb, hwb⟩ : ∃ wb, wb = Wb st := ⟨_, rfl⟩
            have hwb3 : T wb = 3 := by rw [hwb]; exact (HJ7.out.ord.ord st b HOst.out).twb
            rw [← hwb] at cb hW1
            obtain ⟨w8, cnt8, hrun8, hrg8, hgr8, hsz8⟩ := MapX.range hW1 (t := 105) Try.underlying105
            obtain ⟨q2, hq2⟩ : ∃ q2, q2 = w7.heap.size := ⟨_, rfl⟩
            rw [← hq2] at hrg8 hrun8
            have hf8 : Fr (fun _ => False) w7 w8 := (Fr.refl _ w7).grown hgr8 (fun g hg => by cases hg)
            have HR8 : Hid (RangeX u32X w8 wb q2 (fun i => (W i).map mgV) (fun i => (W i).isSome) cnt8) := hrg8.as_ (fun i => by show ((W i).map mgV).isSome = _; cases W i <;> rfl)
            have HJB8 : Hid (JB w8 p inter bl bo rv h6) := HJ7.out.jb.fr hf8 (fun h => h)
            have hls0 : leftS st (fun i => (W i).isSome) wait6 = Jo.sizeM (onS wait6 st) := by
              unfold leftS onS
              congr 1
              refine List.filter_congr fun m hm => ?_
              by_cases e : m.st = st
              · obtain ⟨x, hx, _⟩ := hW3 m hm e
                simp [e, hx]
              · simp [e]
            have HS8 : Hid (h6 + Jo.sizeM (onS wait6 st) = h6 + leftS st (fun i => (W i).isSome) wait6 ∧ h6 ≤ 2000000000) := ⟨by rw [hls0], hho.2⟩
            have HF8 : Hid (Fr (fun i => i = p) w7 w8) := hf8.mono (fun _ _ e => e.elim)
            have HW2 := Lib.hid hW2
            have HQ2 := Lib.hid hq2
            have HWB3 := Lib.hid hwb3
            have HZS := Lib.hid hzs
            have hwp : ¬ wb = p := fun e => by have h1 := HK.out.jo.tp; rw [← e, hwb3] at h1; cases h1
            have HWP := Lib.hid hwp
            clear hzs hat hho hW1 hW2 hW3 hwb hrg8 hgr8 hsz8 hq2 hf8 hls0 hwb3 hwp HAT
            go_wp2_with fail
            go_loopw [11] (fun _ wr2 => ∃ (left2 : Nat → Bool) (cnt2 : Nat) (h2 : Nat), Hid (RangeX u32X wr2 wb q2 (fun i => (W i).map mgV) left2 cnt2) ∧ Hid (JB wr2 p inter bl bo rv h2) ∧ Hid (h2 + Jo.sizeM (onS wait6 st) = h6 + leftS st left2 wait6 ∧ h2 ≤ 2000000000) ∧ Hid (Fr (fun i => i = p) w7 wr2)) (fun _ wr2 => wr2.rangeLeft wb q2)
            case atStart => exact ⟨_, cnt8, h6, HR8, HJB8, HS8, HF8⟩
            case round =>
              clear HR8 HJB8 HS8 HF8 hrun8 cb
              obtain ⟨left2, cnt2, h2, HR, HJB, HS, HF⟩ := hrel
              rcases HR.out.next 0 with ⟨hall2, hrunA⟩ | ⟨i, v, w9, cnt9, hdom9, hli9, hfi9, hrunA, hrg9, hlt9, hgr9, hsz9, hen9⟩
              · have hl0 : leftS st left2 wait6 = 0 := by
                  unfold leftS
                  rw [List.filter_eq_nil_iff.2 (fun m _ => by rw [hall2]; simp)]
                  rfl
                have hp1 := HK.out.jo.tp
                have hbo3 : T bo = 3 := HJ7.out.ord.tbo
                have hbp : ¬ bo = p := fun e => by rw [e, hp1] at hbo3; cases hbo3
                have hqp : ¬ q = p := fun e => by have h1 := HQ.out; have h3 := HLT.out; have h4 := HF4.out.size; omega
                obtain ⟨w10, cnt10, hdel, hrg10, hle10, hturn10⟩ := (HRG7.out.fr HF.out hbp hqp).del (t := 73) Try.underlying73 (x := z) (by rw [HZS.out]; exact hst) 0
                have hdel2 : (Builtin.delete_ #[73, 34] 0 #[.map (some bo), .int .u16 (z : Int)]).run Try.prog wr = .ok (.tuple #[]) w10 := hdel
                have hf10 : Fr (fun i => i = bo) wr w10 := (Fr.of_grown hturn10.grown).mono (fun i hi e => by injection e)
                have hn1 : ∀ i, T i ≠ 1 → ¬ i = p := fun i h e => h (by rw [e]; exact hp1)
                have hn3 : ∀ i, T i ≠ 3 → ¬ i = bo := fun i h e => h (by rw [e]; exact hbo3)
                have hord : OrdR wr T bo inter Om6 Wb next6 wait6 := HJ7.out.ord.fr HF.out (fun i hi e => hn1 i (by rw [e]; decide)) (fun i hi e => hn1 i (by rw [e]; decide)) (fun _ _ => rfl)
                have hmap : MapX u16X w10 bo (delF (fun s => (Om6 s).map optr) st) := by have := hrg10.map; rw [HZS.out] at this; exact this
                have hord2 := hord.strike (by rw [← HZS.out]; exact HOB.out) hmap hf10
                obtain ⟨t1, t2, t3, t4, t5⟩ := HAT2.out
                have hrgZ : RangeX u16X w10 bo q (fun y => (if y = st then none else Om y).map optr) (fun y => left y && !decide (y = z)) cnt10 := by
                  have h5 := hrg10.as_ (left' := fun y => left y && !decide (y = z)) (fun y => by cases left y <;> cases decide (y = z) <;> rfl)
                  have e5 : delF (fun s => (Om6 s).map optr) z = fun y => (if y = st then none else Om y).map optr := funext fun y => by
                    unfold delF
                    rw [HZS.out, t1]
                    by_cases e : y = st <;> simp [e]
                  rw [e5] at h5
                  exact h5
                have hh2 : h2 = h4 - Jo.sizeM (onS s.wait st) := by
                  have h7 := HS.out.1
                  rw [hl0] at h7
                  rw [← t3, ← t4]
                  omega
                have hjoZ : JO w10 T p inter bl bo rv (h4 - Jo.sizeM (onS s.wait st)) xs (fun y => if y = st then none else Om y) Wb (setN s.next st 0) (offO s.wait st) := by
                  rw [← hh2, ← t1, ← t2, ← t3]
                  exact ⟨HJB.out.fr hf10 (fun e => hbp e.symm), hp1, hord2, (HJ7.out.rdy.fr (T' := T) HF.out (fun i hi e => hn1 i (by rw [e]; decide)) (fun _ _ => rfl)).fr hf10 (fun i hi e => hn3 i (by rw [e]; decide)) (fun _ _ => rfl), fun y hy => ((HJ7.out.rok y hy).fr (T' := T) HF.out (fun i hi e => hn1 i (by rw [e]; decide)) (fun _ _ => rfl)).fr hf10 (fun i hi e => hn3 i (by rw [e]; decide)) (fun _ _ => rfl), fun i hi => HJ7.out.out i (by have := HF.out.size; have := hf10.size; omega)⟩
                have hfrZ : Fr (fun i => i < w4.heap.size ∧ (T i = 3 ∨ i = p)) w4 w10 := (HF7.out.trans HF.out (fun i hi e => ⟨hi, .inr e⟩)).trans hf10 (fun i hi e => ⟨hi, .inl (by rw [show i = bo from e]; exact hbo3)⟩)
                have HRZ := Lib.hid hrgZ
                have HXZ : Hid (RsX w4 w10 T p bl bo q inter rv xs Wb (fun y => if y = st then none else Om y) (setN s.next st 0) (offO s.wait st) (h4 - Jo.sizeM (onS s.wait st)) (fun y => left y && !decide (y = z)) cnt10) := ⟨hrgZ, hjoZ, hfrZ⟩
                have HLE := Lib.hid hle10
                have c2 := HJB.out.c2
                clear hdel hrg10 hle10 hturn10 hf10 hn1 hn3 hord hmap hord2 t1 t2 t3 t4 t5 hrgZ hh2 hjoZ hfrZ hl0 hp1 hbo3 hbp hqp hall2
                go_wp2_with fail
                go_roundw
                case rel => exact ⟨_, cnt10, _, _, _, _, HXZ, .inr ⟨rfl, rfl, rfl, rfl, by show (left st && !decide (st = z)) = false; rw [HZS.out]; simp⟩⟩
                case measure => rw [HRZ.out.left_eq, HCE.out]; exact Nat.lt_of_le_of_lt HLE.out HLT6.out
              · obtain ⟨x, hx, rfl⟩ : ∃ x, W i = some x ∧ v = mgV x := by
                  have hfi' : (W i).map mgV = some v := hfi9
                  cases hl : W i with
                  | none => rw [hl] at hfi'; cases hfi'
                  | some x => rw [hl] at hfi'; injection hfi' with hfi'; exact ⟨x, rfl, hfi'.symm⟩
                obtain ⟨a1, a2, a3, _⟩ := HW2.out i x hx
                have hstep := leftS_step (left := left2) HJ7.out.ord.wnd a3 a2 a1 hli9
                obtain ⟨⟨x1, x2, x3, x4, x5⟩, xA, xc⟩ := x
                obtain ⟨xn, hxn⟩ : ∃ xn, xn = x5.length := ⟨_, rfl⟩
                have hrun4 : (Instr.next (.pointer (some ⟨q2, 0, none⟩)) false 0).run Try.prog wr = .ok (.tuple #[.bool true, .int .u32 (i : Int), .agg #[.int .u16 (x1 : Int), .bool x2, .int .u32 (x3 : Int), .int .u32 (x4 : Int), .slice xA xn xc]]) w9 := by rw [hxn]; exact hrunA
                have hen4 : (Instr.entry (.pointer (some ⟨q2, 0, none⟩))).run Try.prog w9 = .ok (.tuple #[.int .u32 (i : Int), .agg #[.int .u16 (x1 : Int), .bool x2, .int .u32 (x3 : Int), .int .u32 (x4 : Int), .slice xA xn xc]]) w9 := by rw [hxn]; exact hen9
                have hstep2 : leftS st left2 wait6 = leftS st (fun y => left2 y && !decide (y = i)) wait6 + xn := by rw [hxn]; exact hstep
                have hle : xn ≤ h2 := by have h7 := HS.out.1; have h8 := HHO.out.1; omega
                obtain ⟨h3, hh3⟩ : ∃ h3, h3 = h2 - xn := ⟨_, rfl⟩
                have hz3 := HS.out.2
                have hsub : (h2 : Int) - (xn : Int) = (h3 : Int) := by omega
                have hwr : IntKind.i64.wrap (h3 : Int) = (h3 : Int) := IntWalk.i64_in _ (by omega)
                have HS3 : Hid (h3 + Jo.sizeM (onS wait6 st) = h6 + leftS st (fun y => left2 y && !decide (y = i)) wait6 ∧ h3 ≤ 2000000000) := by
                  have h7 := HS.out.1
                  unfold Hid
                  constructor <;> omega
                have hf9 : Fr (fun i => i = q2) wr w9 := (Fr.of_grown hgr9).mono (fun i hi e => by injection e)
                have hpq2 : ¬ p = q2 := fun e => by have h1 := HQ2.out; have h3 := HLT.out; have h4 := HF4.out.size; have h5 := HF7.out.size; omega
                have hq2p : ¬ q2 = p := fun e => hpq2 e.symm
                obtain ⟨W9, hW9⟩ : ∃ W9, W9 = w9.alloc (.cells #[.int .u16 (x1 : Int), .bool x2, .int .u32 (x3 : Int), .int .u32 (x4 : Int), .slice xA xn xc] 43) := ⟨_, rfl⟩
                obtain ⟨gm, hgm⟩ : ∃ gm, gm = w9.heap.size := ⟨_, rfl⟩
                have hfa : Fr (fun _ => False) w9 W9 := by rw [hW9]; exact (Fr.refl _ w9).alloc _
                have hbm : Blk W9 gm 43 #[.int .u16 (x1 : Int), .bool x2, .int .u32 (x3 : Int), .int .u32 (x4 : Int), .slice xA xn xc] := by rw [hW9, hgm]; exact Blk.new _ _ _
                have HJB9 : Hid (JB W9 p inter bl bo rv h2) := (HJB.out.fr hf9 hpq2).fr hfa (fun h => h)
                have HRG9 := Lib.hid (hrg9.fr hfa (fun h => h) (fun h => h))
                have HF9 : Hid (Fr (fun i => i = p) w7 W9) := (HF.out.trans hf9 (fun i hi e => by have := HQ2.out; omega)).trans hfa (fun _ _ e => e.elim)
                have HLT9 := Lib.hid hlt9
                have HCE2 := Lib.hid HR.out.left_eq
                have c4 := HJB9.out.c4
                have f4 := Blk.frozen HJB9.out 4
                have m4 := hbm.cell 4
                simp only [List.getElem?_toArray, List.getElem?_cons_succ, List.getElem?_cons_zero] at m4
                have HQP := Lib.hid hq2p
                clear hrunA hen9 hsz9 hfi9 hx hxn hstep hstep2 hle hh3 hz3 hf9 hpq2 hq2p hfa hbm hrg9 hlt9 hgr9 a1 a2 a3 hli9 hdom9 HS
                go_upto_region 16 with (fail)
                rw [← hW9, ← hgm]
                clear hW9 hgm hrun4 hen4
                go_region
                obtain ⟨W10, hW10⟩ : ∃ W10, W10 = (W9.setCell ⟨p, 4, none⟩ (.int .i64 (h3 : Int))).drew := ⟨_, rfl⟩
                have hf10 : Fr (fun i => i = p) W9 W10 := by rw [hW10]; exact ((Fr.refl (fun i => i = p) W9).setCell (p := ⟨p, 4, none⟩) (.inl rfl) _).drew
                have HJB10 : Hid (JB W10 p inter bl bo rv h3) := by rw [hW10]; exact HJB9.out.held h3
                have HRG10 := Lib.hid (HRG9.out.fr hf10 HWP.out HQP.out)
                have HF10 : Hid (Fr (fun i => i = p) w7 W10) := HF9.out.same hf10
                rw [← hW10]
                clear hW10 hf10 c4 f4 m4 hsub hwr
                go_wp2_with fail
                go_roundw
                case rel => exact ⟨_, cnt9, h3, HRG10, HJB10, HS3, HF10⟩
                case measure => rw [HRG10.out.left_eq, HCE2.out]; exact HLT9.out
end
end Go.Proofs.Ytioddokjogbmnaa.Chk

set_option linter.unusedVariables false
set_option linter.unusedSimpArgs false
namespace Go.Proofs.Ytioddokjogbmnaa.Chk
open Go.ChangeShapes Go.WideShapes Go.ChangeAt Go.RowKit Go.Deep Go.Maps Go.Proofs.Ytioddokjogbmnaa.Words Go.Proofs.Ytioddokjogbmnaa.Oct Go.Proofs.Ytioddokjogbmnaa.Par Go.Proofs.Ytioddokjogbmnaa.Mx
theorem joinI : JoinI JRep where
  fr := fun k hf hS => k.fr hf hS
  lt := fun k i hi => k.lt i hi
  new := new_any
  put := fun {w G p inter s cs c} k hk hz hck hA => by
    obtain ⟨T, bl, bo, rv, F, Om, Wb, xs, hG, k⟩ := k
    refine (put_any k hk hz hck (fun ad n cp e => ?_)).mono ?_
    · have h1 := hA ad n cp e
      cases ht : T ad.block with
      | zero => rfl
      | succ n => exact absurd ((hG _).2 (by rw [ht]; omega)) h1
    · rintro e w' ⟨r, s', G', rfl, h1, h2, h3, h4⟩
      exact ⟨r, s', G', rfl, h1, h2, fun i hi => (h3 i hi).imp (fun h => (hG i).2 h) id, h4.mono (fun i _ h => (hG i).2 h)⟩
  take := fun {w G p inter s} k => by
    obtain ⟨T, bl, bo, rv, F, Om, Wb, xs, hG, k⟩ := k
    refine (take_any k).mono ?_
    rintro e w' ⟨m, A, n, cp, t, s', G', rfl, h1, h2, h3, h4, h5, h6, h7, h8⟩
    exact ⟨m, A, n, cp, t, s', G', rfl, h1, h2, h3, h4, h5, h6, fun i hi => (h7 i hi).imp (fun h => (hG i).2 h) id, h8.mono (fun i _ h => (hG i).2 h)⟩
  held := fun k => held_any k
  skip := fun {w G p inter s st mid lo} k hst hmid => by
    obtain ⟨T, bl, bo, rv, F, Om, Wb, xs, hG, k⟩ := k
    refine (skip_any k hst hmid).mono ?_
    rintro e w' ⟨s', G', rfl, h1, h2, h3, h4⟩
    exact ⟨s', G', rfl, h1, h2, fun i hi => (h3 i hi).imp (fun h => (hG i).2 h) id, h4.mono (fun i _ h => (hG i).2 h)⟩
  reset := fun {w G p g inter s st} k hb hg hst => by
    obtain ⟨T, bl, bo, rv, F, Om, Wb, xs, hG, k⟩ := k
    refine (reset_any k hb hst ?_).mono ?_
    · cases ht : T g with
      | zero => rfl
      | succ n => exact absurd ((hG _).2 (by rw [ht]; omega)) hg
    · rintro e w' ⟨s', G', rfl, h1, h2, h3, h4⟩
      exact ⟨s', G', rfl, h1, h2, fun i hi => (h3 i hi).imp (fun h => (hG i).2 h) id, h4.mono (fun i _ h => (hG i).2 h)⟩
end Go.Proofs.Ytioddokjogbmnaa.Chk

set_option linter.unusedVariables false
set_option linter.unusedSimpArgs false
set_option maxRecDepth 20000
namespace Go.Proofs.Ytioddokjogbmnaa.In
open Go.ChangeShapes Go.WideShapes Go.ChangeAt Go.RowKit Go.Deep Go.Proofs.Ytioddokjogbmnaa.Words Go.Proofs.Ytioddokjogbmnaa.Oct Go.Proofs.Ytioddokjogbmnaa.Par Go.Proofs.Ytioddokjogbmnaa.Chk
theorem smallI : SmallI JRep := fun k => by
  obtain ⟨T, bl, bo, rv, F, Om, Wb, xs, hG, k⟩ := k
  exact k.small
theorem passI : PassI JRep := fun {w G p s} t k => by
  obtain ⟨T, bl, bo, rv, F, Om, Wb, xs, hG, k⟩ := k
  have c0 : w.cell? ⟨p, 0, none⟩ = some (.bool true) := k.jo.jb.c0
  have ho : (w.alloc (.cells #[.int .u32 t] 33)).cell? ⟨p, 0, none⟩ = some (.bool true) := by
    rw [World.cell?_alloc_lt w _ _ (World.block_lt_of_cell? w _ c0)]; exact c0
  clear k hG
  go_enter Try.func55, Try.ntmps55
  go_wp2_with fail
  refine bodyPost_ret (results_none rfl _ _ _) rfl ?_
  exact ⟨rfl, below_one w _⟩
theorem inI : InI (InR JRep) := inI_of joinI passI smallI
end Go.Proofs.Ytioddokjogbmnaa.In
