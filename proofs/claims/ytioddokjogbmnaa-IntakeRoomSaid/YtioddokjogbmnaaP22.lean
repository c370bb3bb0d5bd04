/-
  Of the texts Jp11, Jp12, Jp13, Jp14, Jp15: what the laws reach.
-/
import Derived.Test.YtioddokjogbmnaaP21
import Derived.Deep.LoopGhost

set_option linter.unusedVariables false
set_option linter.unusedSimpArgs false
set_option maxRecDepth 20000
namespace Go.Proofs.Ytioddokjogbmnaa.Chk
open Go.ChangeShapes Go.WideShapes Go.ChangeAt Go.RowKit Go.Deep Go.Maps Go.Proofs.Ytioddokjogbmnaa.Words Go.Proofs.Ytioddokjogbmnaa.Oct Go.Proofs.Ytioddokjogbmnaa.Par Go.Proofs.Ytioddokjogbmnaa.Mx
section
variable {w w' : World} {p : Nat} {inter : Bool}
def keyC (inter : Bool) (st : Nat) (lo : Bool) (mid : Nat) : Gk := if inter = true then ⟨st, lo, mid⟩ else ⟨0, false, 0⟩
theorem res_grp {fn : Func} {p u : Tmp} (h : fn.results = #[.cell p 79, .tmp u]) (tmps : Array Value) (w : World) (g : Nat) (u0 u1 u2 : Value) (hp : tmps.getD p undef = .pointer (some ⟨g, 0, none⟩)) (hb : Blk w g 79 #[u0, u1, u2]) :
    (results fn tmps).run Try.prog w = .ok (.tuple #[.agg #[u0, u1, u2], tmps.getD u undef]) w := by
  rw [results_cell_tmp h, hp]
  have := run_loadVar_row (P := Try.prog) w g 79 79 #[u0, u1, u2] (0, 0) _ hb Try.underlying79 rfl (by kernel_rfl)
  simp [asAddr, Result.andThen, this]
set_option maxHeartbeats 4000000 in
theorem place_any {cs : Array Value} {lo : Bool} {st mid fr tsn : Nat} (c0 : w.cell? ⟨p, 0, none⟩ = some (.bool inter)) (e3 : cs[3]? = some (.bool lo)) (e5 : cs[5]? = some (.int .u32 (tsn : Int))) (e6 : cs[6]? = some (.int .u16 (st : Int))) (e7 : cs[7]? = some (.int .u32 (mid : Int))) (e9 : cs[9]? = some (.int .u32 (fr : Int))) :
    Calls Try.prog 31 #[jptr p, .agg cs] w fun e w' => e = .returned (.tuple #[gkV (keyC inter st lo mid), .int .u32 ((if inter = true then fr else tsn : Nat) : Int)]) ∧ Below w.heap.size w w' := by
  have hp : p < w.heap.size := World.block_lt_of_cell? w _ c0
  have hw1 : ∀ i u, cs[i]? = some u → ((w.alloc (.cells cs 41)).alloc (.cells #[.int .u16 0, .bool false, .int .u32 0] 79)).cell? ⟨w.heap.size, i, none⟩ = some u := fun i u hu => (((Blk.new w 41 cs).alloc _).cell i).trans hu
  have f3 := hw1 3 _ e3
  have f5 := hw1 5 _ e5
  have f6 := hw1 6 _ e6
  have f7 := hw1 7 _ e7
  have f9 := hw1 9 _ e9
  have hb2 : Blk ((w.alloc (.cells cs 41)).alloc (.cells #[.int .u16 0, .bool false, .int .u32 0] 79)) (w.heap.size + 1) 79 #[.int .u16 0, .bool false, .int .u32 0] := by
    have := Blk.new (w.alloc (.cells cs 41)) 79 #[.int .u16 0, .bool false, .int .u32 0]
    rw [World.size_alloc] at this
    exact this
  have g0 : ((w.alloc (.cells cs 41)).alloc (.cells #[.int .u16 0, .bool false, .int .u32 0] 79)).cell? ⟨p, 0, none⟩ = some (.bool inter) := by rw [World.cell?_alloc_lt _ _ _ (by show p < _; rw [World.size_alloc]; omega), World.cell?_alloc_lt w _ _ hp]; exact c0
  have HB := Lib.hid (below_two w (.cells cs 41) (.cells #[.int .u16 0, .bool false, .int .u32 0] 79))
  go_enter Try.func31, Try.ntmps31
  go_upto_region 1 with (fail)
  obtain ⟨W1, hW1⟩ : ∃ W1, W1 = (w.alloc (.cells cs 41)).alloc (.cells #[.int .u16 0, .bool false, .int .u32 0] 79) := ⟨_, rfl⟩
  obtain ⟨g, hg⟩ : ∃ g, g = w.heap.size := ⟨_, rfl⟩
  obtain ⟨g2, hg2⟩ : ∃ g2, g2 = w.heap.size + 1 := ⟨_, rfl⟩
  rw [← hW1] at f3 f5 f6 f7 f9 g0 HB hb2 ⊢
  rw [← hg2] at hb2 ⊢
  rw [← hg] at f3 f5 f6 f7 f9 ⊢
  have HB2 : Hid (Below w.heap.size w W1) := HB.out
  have HBG := Lib.hid hb2
  have hne : g ≠ g2 := by omega
  have hne2 : g2 ≠ g := by omega
  have HG2 : Hid (w.heap.size ≤ g2) := by unfold Hid; omega
  have z0 := hb2.cell 0
  have z1 := hb2.cell 1
  have z2 := hb2.cell 2
  have y0 := hb2.frozen 0
  have y1 := hb2.frozen 1
  have y2 := hb2.frozen 2
  simp only [List.getElem?_toArray, List.getElem?_cons_succ, List.getElem?_cons_zero] at z0 z1 z2
  clear hW1 hg hg2 hw1 e3 e5 e6 e7 e9 HB hb2 c0 hp
  cases inter
  · go_upto_region 3 with (fail)
    go_region
    obtain ⟨W2, hW2⟩ : ∃ W2, W2 = (((W1.setCell ⟨g2, 0, none⟩ (.int .u16 0)).setCell ⟨g2, 1, none⟩ (.bool false)).setCell ⟨g2, 2, none⟩ (.int .u32 0)).drew := ⟨_, rfl⟩
    rw [← hW2]
    have HZ : Hid (Blk W2 g2 79 #[(.int .u16 0), (.bool false), (.int .u32 0)]) := by rw [hW2]; exact (((HBG.out.set_ 0 _).set_ 1 _).set_ 2 _).drew
    have HB3 : Hid (Below w.heap.size w W2) := by
      rw [hW2]
      exact below_fr HB2.out (((((Fr.refl (fun i => i = g2) W1).setCell (p := ⟨g2, 0, none⟩) (.inl rfl) _).setCell (p := ⟨g2, 1, none⟩) (.inl rfl) _).setCell (p := ⟨g2, 2, none⟩) (.inl rfl) _).drew) (Nat.le_refl _) (fun x e => by rw [show x = g2 from e]; exact HG2.out)
    clear hW2
    go_wp2_with fail
    (try simp only [Exit.inBlock, Exit.then])
    refine bodyPost_ret (res_grp rfl _ _ g2 _ _ _ rfl HZ.out) rfl ?_
    exact ⟨rfl, HB3.out⟩
  · go_upto_region 2 with (fail)
    go_region
    obtain ⟨W2, hW2⟩ : ∃ W2, W2 = (((W1.setCell ⟨g2, 0, none⟩ (.int .u16 (st : Int))).setCell ⟨g2, 1, none⟩ (.bool lo)).setCell ⟨g2, 2, none⟩ (.int .u32 (mid : Int))).drew := ⟨_, rfl⟩
    rw [← hW2]
    have HZ : Hid (Blk W2 g2 79 #[(.int .u16 (st : Int)), (.bool lo), (.int .u32 (mid : Int))]) := by rw [hW2]; exact (((HBG.out.set_ 0 _).set_ 1 _).set_ 2 _).drew
    have HB3 : Hid (Below w.heap.size w W2) := by
      rw [hW2]
      exact below_fr HB2.out (((((Fr.refl (fun i => i = g2) W1).setCell (p := ⟨g2, 0, none⟩) (.inl rfl) _).setCell (p := ⟨g2, 1, none⟩) (.inl rfl) _).setCell (p := ⟨g2, 2, none⟩) (.inl rfl) _).drew) (Nat.le_refl _) (fun x e => by rw [show x = g2 from e]; exact HG2.out)
    clear hW2
    go_wp2_with fail
    (try simp only [Exit.inBlock, Exit.then])
    refine bodyPost_ret (res_grp rfl _ _ g2 _ _ _ rfl HZ.out) rfl ?_
    exact ⟨rfl, HB3.out⟩
end
end Go.Proofs.Ytioddokjogbmnaa.Chk

set_option linter.unusedVariables false
set_option linter.unusedSimpArgs false
set_option maxRecDepth 20000
namespace Go.Proofs.Ytioddokjogbmnaa.Chk
open Go.ChangeShapes Go.WideShapes Go.ChangeAt Go.RowKit Go.Deep Go.Maps Go.Proofs.Ytioddokjogbmnaa.Words Go.Proofs.Ytioddokjogbmnaa.Oct Go.Proofs.Ytioddokjogbmnaa.Par Go.Proofs.Ytioddokjogbmnaa.Mx
section
variable {w w' : World} {T T' : Nat → Nat} {p bl bo h : Nat} {inter : Bool} {rv : Value} {xs : List Mg} {Om : Nat → Option Nat} {Wb next : Nat → Nat} {wait wait' : List Jo.Ms} {S : Nat → Prop}
def offW (wait : List Jo.Ms) (st mid : Nat) : List Jo.Ms := wait.filter fun m => !decide (m.st = st ∧ m.mid = mid)
theorem offW_perm (hp : wait.Pairwise (fun a b => ¬ (a.st = b.st ∧ a.mid = b.mid))) {m : Jo.Ms} (hm : m ∈ wait) : wait.Perm (m :: offW wait m.st m.mid) := by
  induction wait with
  | nil => simp at hm
  | cons a t ih =>
    obtain ⟨h1, h2⟩ := List.pairwise_cons.1 hp
    unfold offW
    rcases List.mem_cons.1 hm with rfl | hm'
    · rw [List.filter_cons_of_neg (by simp)]
      refine List.Perm.cons _ ?_
      rw [List.filter_eq_self.2 (fun q hq => ?_)]
      simp only [Bool.not_eq_true', decide_eq_false_iff_not]
      exact fun e => h1 q hq ⟨e.1.symm, e.2.symm⟩
    · rw [List.filter_cons_of_pos (by
        simp only [Bool.not_eq_true', decide_eq_false_iff_not]
        exact fun e => h1 m hm' e)]
      exact ((ih h2 hm').cons a).trans (List.Perm.swap _ _ _)
theorem OrdAt.wait_ {b wb st nx : Nat} (k : OrdAt w T bo b wb st nx wait) (h1 : ∀ m, m.st = st → (m ∈ wait' ↔ m ∈ wait)) : OrdAt w T bo b wb st nx wait' := by
  obtain ⟨W, a1, a2, a3⟩ := k.ws
  exact ⟨k.tb, k.twb, k.ne, k.blk, W, a1, fun i x hx => ⟨(a2 i x hx).1, (a2 i x hx).2.1, (h1 _ (a2 i x hx).2.1).2 (a2 i x hx).2.2.1, (a2 i x hx).2.2.2⟩, fun m hm hs => a3 m ((h1 m hs).1 hm) hs⟩
/-- What waits is struck. -/
theorem OrdR.del (k : OrdR w T bo inter Om Wb next wait) {st b mid : Nat} (ho : Om st = some b) (hm : mid < 4294967296) :
    ∃ w1, (Builtin.delete_ #[105, 33] 0 #[.map (some (Wb st)), .int .u32 (mid : Int)]).run Try.prog w = .ok (.tuple #[]) w1 ∧ OrdR w1 T bo inter Om Wb next (offW wait st mid) ∧ Fr (fun i => i = Wb st) w w1 := by
  obtain ⟨W, h1, h2, h3⟩ := (k.ord st b ho).ws
  obtain ⟨w1, hrun, hm1, hturn⟩ := MapX.del h1 (t := 105) Try.underlying105 (x := mid) hm 0
  have hf : Fr (fun i => i = Wb st) w w1 := (Fr.of_grown hturn.grown).mono (fun i hi e => by injection e)
  have hin : ∀ m, m ∈ offW wait st mid ↔ (m ∈ wait ∧ ¬ (m.st = st ∧ m.mid = mid)) := fun m => by
    unfold offW
    rw [List.mem_filter, Bool.not_eq_true', decide_eq_false_iff_not]
  refine ⟨w1, hrun, ⟨k.tbo, k.map.fr hf (fun e => (k.ord st b ho).ne e.symm), fun s b' hs => ?_, fun s hs => ⟨(k.none_ s hs).1, fun m hm' => (k.none_ s hs).2 m ((hin m).1 hm').1⟩, k.inj, k.sep, fun m hm' => k.wok m ((hin m).1 hm').1, k.nx, k.wnd.filter _⟩, hf⟩
  by_cases e : s = st
  · subst e
    rw [ho] at hs
    injection hs with hs
    subst hs
    have kk := k.ord s b ho
    refine ⟨kk.tb, kk.twb, kk.ne, hf.blk kk.blk (fun e => k.ne ho ho e), fun i => if i = mid then none else W i, hm1.as_ (fun i => ?_), fun i x hx => ?_, fun m hm' hms => ?_⟩
    · unfold delF
      show (if i = mid then none else (W i).map mgV) = (if i = mid then none else W i).map mgV
      by_cases e : i = mid
      · rw [if_pos e, if_pos e]; rfl
      · rw [if_neg e, if_neg e]
    · have hx : (if i = mid then none else W i) = some x := hx
      by_cases e : i = mid
      · rw [if_pos e] at hx; cases hx
      · rw [if_neg e] at hx
        obtain ⟨a1, a2, a3, a4⟩ := h2 i x hx
        refine ⟨a1, a2, (hin _).2 ⟨a3, fun e' => e ?_⟩, a4.fr hf (fun j hj h5 e' => ?_) (fun _ _ => rfl)⟩
        · rw [← a1]; exact e'.2
        · rw [e', kk.twb] at h5; cases h5
    · obtain ⟨a1, a2⟩ := (hin m).1 hm'
      obtain ⟨x, a3, a4⟩ := h3 m a1 hms
      exact ⟨x, (by show (if m.mid = mid then none else W m.mid) = some x; rw [if_neg (fun e => a2 ⟨hms, e⟩)]; exact a3), a4⟩
  · have kk := (k.ord s b' hs).fr (T' := T) hf ⟨fun e' => k.ne hs ho e', fun e' => e (k.sep s st b' b hs ho e')⟩ (fun j hj h5 e' => by rw [e', (k.ord st b ho).twb] at h5; cases h5) (fun _ _ => rfl)
    exact kk.wait_ (fun m hms => ⟨fun hx => ((hin m).1 hx).1, fun hx => (hin m).2 ⟨hx, fun e' => e (by rw [← hms, e'.1])⟩⟩)
def BsP (B : Nat) (x : Mg) (v : Value) (V : World) : Prop := ∃ g, v = .slice (some ⟨g, 0, none⟩) 1 1 ∧ B ≤ g ∧ Blk V g 43 (mgCells x).toArray
def ApP (W : World) (T : Nat → Nat) (ys : List Mg) (v : Value) (V : World) : Prop := ∃ T', ReadyR V T' v ys ∧ (∀ i, i < W.heap.size → T' i = T i) ∧ ∀ i, V.heap.size ≤ i → T' i = 0
def RdS (W : World) (T : Nat → Nat) (m : Nat) (V : World) : Prop := Fr (fun i => i < W.heap.size ∧ T i = 4) W V ∧ (m = 0 → Fr (fun _ => False) W V)
def RdRel (W : World) (T : Nat → Nat) (m : Nat) (V V' : World) : Prop := Fr (fun i => i < W.heap.size ∧ T i = 4) V V' ∧ (1 ≤ m → Fr (fun _ => False) V V')
theorem RdRel.refl (W : World) (T : Nat → Nat) (m : Nat) (V : World) : RdRel W T m V V := ⟨Fr.refl _ V, fun _ => Fr.refl _ V⟩
theorem BsP.lasts {W V V' : World} {T : Nat → Nat} {x : Mg} {v : Value} {m : Nat} (hk : BsP W.heap.size x v V) (h : RdRel W T m V V') : BsP W.heap.size x v V' := by
  obtain ⟨g, e, hB, hb⟩ := hk
  exact ⟨g, e, hB, h.1.blk hb (fun hx => by have := hx.1; omega)⟩
theorem ApP.lasts {W V V' : World} {T : Nat → Nat} {ys : List Mg} {v : Value} {m : Nat} (hm : 1 ≤ m) (hk : ApP W T ys v V) (h : RdRel W T m V V') : ApP W T ys v V' := by
  obtain ⟨T', h1, h2, h3⟩ := hk
  exact ⟨T', h1.fr (h.2 hm) (fun _ _ _ hx => hx) (fun _ _ => rfl), h2, fun i hi => h3 i (by have := h.1.size; omega)⟩
theorem msg_whole : (Try.prog.info? 43).map (fun i => (i.zero, i.size, i.bytes)) = some (some (.agg #[.int .u16 0, .bool false, .int .u32 0, .int .u32 0, .slice none 0 0]), 5, 40) := by kernel_rfl
theorem fill_mg (a : Nat) (b : Bool) (c d : Nat) (v : Value) : Instr.fill (fun k => some (k * 5, 5)) ((Array.range (1 * 5)).map ((Value.agg #[.int .u16 0, .bool false, .int .u32 0, .int .u32 0, .slice none 0 0]).cells[· % (Value.agg #[.int .u16 0, .bool false, .int .u32 0, .int .u32 0, .slice none 0 0]).cells.size]!)) [(0, .agg #[.int .u16 (a : Int), .bool b, .int .u32 (c : Int), .int .u32 (d : Int), v])] = some #[.int .u16 (a : Int), .bool b, .int .u32 (c : Int), .int .u32 (d : Int), v] := by kernel_rfl
theorem exec_slice_mg {ρ : Operand → Value} {o : Oper} {w : World} (x : Operand) (ho : o.op = .buildSlice 74 1 #[(0, x)]) (y : Mg) (hx : ρ x = .agg (mgCells y).toArray) :
    (execOp ρ o).run Try.prog w = .ok (.value (.slice (some ⟨w.heap.size, 0, none⟩) 1 1)) (w.alloc (.cells (mgCells y).toArray 43)) := by
  obtain ⟨i, hi, hz, hs, _⟩ := info_parts3 msg_whole
  refine exec_buildSlice 74 43 1 #[(0, x)] ho (mgCells y).toArray i _ Try.underlying74 hi hz (by rw [hs]; decide) (by rw [hs]; decide) ?_
  have e : ((#[(0, x)] : Array (Nat × Operand)).map fun (i, x) => (i, ρ x)).toList = [(0, .agg (mgCells y).toArray)] := by simp [hx]
  rw [e, hs]
  exact fill_mg y.m.st y.m.lo y.m.mid y.m.pp (.slice y.A y.m.body.length y.cp)
theorem exec_append {P : Program} {ρ : Operand → Value} {o : Oper} {w w' : World} {d x : Operand} {dT sT : TypeId} {v u v' : Value} (hop : o.op = Op.call { callee := Callee.builtin Builtin.append, args := #[d, x], argTypes := #[dT, sT] }) (hd : ρ d = v) (hx : ρ x = u)
    (hr : (Builtin.append_ #[dT, sT] o.type #[v, u]).run P w = .ok v' w') : (execOp ρ o).run P w = .ok (.value v') w' := by
  simp [execOp, hop, resolve, invoke, builtin, hd, hx, hr, Result.andThen]
theorem mg_load {V : World} {g : Nat} {x : Mg} (hb : Blk V g 43 (mgCells x).toArray) : ∀ j v, (mgCells x).toArray[j]? = some v → V.cell? ((⟨g, 0, none⟩ : Addr).add j) = some v := fun j v hv => by rw [hb.cellAdd]; exact hv
/-- Appended, then stored. -/
theorem JO.push (k : JO w T p inter bl bo rv h xs Om Wb next wait) {V : World} {x : Mg} {v : Value} (hx : MgOk w T x) (hS : Fr (fun i => i < w.heap.size ∧ T i = 4) w V) (hA : ApP w T (xs ++ [x]) v V) :
    ∃ T', JO (V.setCell ⟨p, 3, none⟩ v) T' p inter bl bo v h (xs ++ [x]) Om Wb next wait ∧ Fr (fun i => i < w.heap.size ∧ (T i = 1 ∨ T i = 4)) w (V.setCell ⟨p, 3, none⟩ v) ∧ Ext w (V.setCell ⟨p, 3, none⟩ v) T T' := by
  obtain ⟨T', h1, h2, h3⟩ := hA
  have hp := Blk.lt k.jb
  have hn4 : ∀ j, T j ≠ 4 → ¬ (j < w.heap.size ∧ T j = 4) := fun j hj hx => hj hx.2
  have hjb := (k.jb.fr hS (hn4 p (by rw [k.tp]; decide))).ready v
  have hf1 : Fr (fun i => i < w.heap.size ∧ (T i = 1 ∨ T i = 4)) w (V.setCell ⟨p, 3, none⟩ v) := (hS.mono (fun i hi hx => ⟨hx.1, .inr hx.2⟩)).setCell (.inl ⟨hp, .inl k.tp⟩) v
  have hn14 : ∀ j, T j ≠ 1 → T j ≠ 4 → ¬ (j < w.heap.size ∧ (T j = 1 ∨ T j = 4)) := fun j a b hx => by rcases hx.2 with e | e <;> contradiction
  have hok : ∀ y, MgOk w T y → MgOk (V.setCell ⟨p, 3, none⟩ v) T' y := fun y hy => hy.fr hf1 (fun i hi e => hn14 i (by rw [e]; decide) (by rw [e]; decide)) h2
  have hfV : Fr (fun i => i = p) V (V.setCell ⟨p, 3, none⟩ v) := (Fr.refl (fun i => i = p) V).setCell (p := ⟨p, 3, none⟩) (.inl rfl) v
  refine ⟨T', ⟨hjb, by rw [h2 p hp]; exact k.tp, k.ord.fr hf1 (fun i hi e => hn14 i (by rw [e]; decide) (by rw [e]; decide)) (fun i hi e => hn14 i (by rw [e]; decide) (by rw [e]; decide)) h2, h1.fr hfV (fun i hi e hx => ?_) (fun _ _ => rfl), fun y hy => ?_, fun i hi => h3 i (by simpa [World.setCell] using hi)⟩, hf1, ⟨h2, fun i hi => h3 i (by simpa [World.setCell] using hi)⟩⟩
  · rw [hx, h2 p hp, k.tp] at e; cases e
  · rcases List.mem_append.1 hy with hy | hy
    · exact hok y (k.rok y hy)
    · rw [List.mem_singleton] at hy; subst hy; exact hok y hx
end
end Go.Proofs.Ytioddokjogbmnaa.Chk

set_option linter.unusedVariables false
set_option linter.unusedSimpArgs false
set_option maxRecDepth 20000
namespace Go.Proofs.Ytioddokjogbmnaa.Chk
open Go.ChangeShapes Go.WideShapes Go.ChangeAt Go.RowKit Go.Deep Go.Maps Go.Proofs.Ytioddokjogbmnaa.Words Go.Proofs.Ytioddokjogbmnaa.Oct Go.Proofs.Ytioddokjogbmnaa.Par Go.Proofs.Ytioddokjogbmnaa.Mx
section
variable {w w' : World} {T T' : Nat → Nat} {p bl bo h : Nat} {inter : Bool} {rv : Value} {xs : List Mg} {Om : Nat → Option Nat} {Wb next : Nat → Nat} {wait wait' : List Jo.Ms} {S : Nat → Prop}
/-- What the joiner's own calls may turn. -/
def ownS (w : World) (T : Nat → Nat) (i : Nat) : Prop := i < w.heap.size ∧ (T i = 1 ∨ T i = 3 ∨ T i = 4)
/-- What release answers, and leaves. -/
def RelR (st mid : Nat) (r : Bool) (xs xs' : List Mg) (wait wait' : List Jo.Ms) : Prop :=
  (r = false ∧ xs' = xs ∧ wait' = wait ∧ waitB wait st mid = false) ∨ (r = true ∧ ∃ x : Mg, xs' = xs ++ [x] ∧ msOf x.m ∈ wait ∧ x.m.st = st ∧ x.m.mid = mid ∧ wait' = offW wait st mid)
def RelDone (w : World) (T : Nat → Nat) (p : Nat) (inter : Bool) (bl bo h : Nat) (xs : List Mg) (Om : Nat → Option Nat) (Wb next : Nat → Nat) (wait : List Jo.Ms) (st mid : Nat) (e : Ending) (w' : World) : Prop :=
  ∃ r T' rv' xs' wait', e = .returned (.bool r) ∧ RelR st mid r xs xs' wait wait' ∧ JO w' T' p inter bl bo rv' h xs' Om Wb next wait' ∧ Fr (ownS w T) w w' ∧ Ext w w' T T'
theorem push_ap {W V w5 : World} {ys : List Mg} {v : Value} (hT : ∀ i, W.heap.size ≤ i → T i = 0) (hS : Fr (fun i => i < W.heap.size ∧ T i = 4) W V) (hr : ReadyR w5 (extT V w5 T 4) v ys) (hf : Fr (fun i => i < V.heap.size ∧ T i = 4) V w5) :
    RdRel W T 0 V w5 ∧ ApP W T ys v w5 ∧ RdS W T 1 w5 := by
  have h1 : Fr (fun i => i < W.heap.size ∧ T i = 4) V w5 := hf.mono (fun i hi e => ⟨(by
    rcases Nat.lt_or_ge i W.heap.size with h | h
    · exact h
    · have h2 := hT i h
      have h3 := e.2
      rw [h2] at h3
      cases h3), e.2⟩)
  have he := extT_ext V w5 T 4 hf.size
  exact ⟨⟨h1, fun e => absurd e (by omega)⟩, ⟨_, hr, fun i hi => he.old i (by have := hS.size; omega), he.out⟩, ⟨hS.same h1, fun e => absurd e (by omega)⟩⟩
set_option maxHeartbeats 4000000 in
theorem release_any (k : JO w T p inter bl bo rv h xs Om Wb next wait) (hxl : xs.length ≤ 2000000001) {st b mid : Nat} (ho : Om st = some b) (hm : MidOk inter mid) :
    Calls Try.prog 67 #[jptr p, optr b, .int .u32 (mid : Int)] w (RelDone w T p inter bl bo h xs Om Wb next wait st mid) := by
  obtain ⟨x, hx, hx2⟩ := (k.ord.ord st b ho).look (small32 hm)
  have hx0 := hx 0
  have hx0 : (Instr.lookup 105 (.map (some (Wb st))) (.int .u32 (mid : Int)) true).run Try.prog w = .ok (.tuple #[mgV x, .bool (waitB wait st mid)]) w := hx0
  have cb := (k.ord.ord st b ho).blk.cell 1
  simp only [List.getElem?_toArray, List.getElem?_cons_succ, List.getElem?_cons_zero] at cb
  obtain ⟨yb, hyb⟩ : ∃ yb, yb = waitB wait st mid := ⟨_, rfl⟩
  rw [← hyb] at hx0 hx2
  have HK := Lib.hid k
  have HY := Lib.hid hyb
  have HX2 := Lib.hid hx2
  have HO := Lib.hid ho
  obtain ⟨wb, hwb⟩ : ∃ wb, wb = Wb st := ⟨_, rfl⟩
  rw [← hwb] at hx0 cb
  have HWB := Lib.hid hwb
  clear k hyb hx2 ho hx hwb
  obtain ⟨⟨x1, x2, x3, x4, x5⟩, xA, xc⟩ := x
  obtain ⟨X, hX⟩ : ∃ X : Mg, X = ⟨⟨x1, x2, x3, x4, x5⟩, xA, xc⟩ := ⟨_, rfl⟩
  rw [← hX] at HX2
  have hv : mgV ⟨⟨x1, x2, x3, x4, x5⟩, xA, xc⟩ = .agg (mgCells X).toArray := by rw [hX]; rfl
  rw [hv] at hx0
  have HXE := Lib.hid hX
  have hmc : (mgCells X).toArray = #[.int .u16 (x1 : Int), .bool x2, .int .u32 (x3 : Int), .int .u32 (x4 : Int), .slice xA x5.length xc] := by rw [hX]; rfl
  have HMC := Lib.hid hmc
  rw [hmc] at hx0
  obtain ⟨xn, hxn⟩ : ∃ xn, xn = x5.length := ⟨_, rfl⟩
  rw [← hxn] at hx0 HMC
  clear hv hX hmc hxn
  go_enter Try.func67, Try.ntmps67
  go_upto_region 2 with (fail)
  obtain ⟨W1, hW1⟩ : ∃ W1, W1 = w.alloc (.cells #[.int .u16 (x1 : Int), .bool x2, .int .u32 (x3 : Int), .int .u32 (x4 : Int), .slice xA xn xc] 43) := ⟨_, rfl⟩
  obtain ⟨gm, hgm⟩ : ∃ gm, gm = w.heap.size := ⟨_, rfl⟩
  have HGB : Hid (Blk W1 gm 43 (mgCells X).toArray) := by rw [hW1, hgm, HMC.out]; exact Blk.new _ _ _
  have HB1 : Hid (Below w.heap.size w W1) := by rw [hW1]; exact below_one w _
  have HS1 : Hid (W1.heap.size = w.heap.size + 1) := by rw [hW1]; show _ = _; simp
  have HGM := Lib.hid hgm
  have HK1 := Lib.hid (HK.out.grows HB1.out)
  rw [← hW1, ← hgm]
  clear hW1 hgm hx0 cb
  cases yb
  · go_wp2
    go_ret
    exact ⟨false, T, rv, xs, wait, rfl, .inl ⟨rfl, rfl, rfl, HY.out.symm⟩, HK1.out, (Fr.of_below HB1.out).mono (fun i hi e => by have e' : w.heap.size ≤ i := e; omega), Ext.same HK.out.out HB1.out.size⟩
  · obtain ⟨a1, a2, a3, a4⟩ := HX2.out rfl
    obtain ⟨W2, hrun, hord, hfd⟩ := HK1.out.ord.del HO.out (small32 hm)
    rw [← HWB.out] at hrun hfd
    have hwb3 : T wb = 3 := by rw [HWB.out]; exact (HK.out.ord.ord st b HO.out).twb
    have hwlt : wb < w.heap.size := by rw [HWB.out]; exact HK.out.ord.wlt HO.out
    have cb1 := (HK1.out.ord.ord st b HO.out).blk.cell 1
    simp only [List.getElem?_toArray, List.getElem?_cons_succ, List.getElem?_cons_zero] at cb1
    rw [← HWB.out] at cb1
    have hn3 : ∀ j, T j ≠ 3 → j ≠ wb := fun j hj e => hj (by rw [e]; exact hwb3)
    have HJ2 : Hid (JO W2 T p inter bl bo rv h xs Om Wb next (offW wait st mid)) := ⟨HK1.out.jb.fr hfd (hn3 p (by rw [HK.out.tp]; decide)), HK.out.tp, hord, HK1.out.rdy.fr hfd (fun i hi e => hn3 i (by rw [e]; decide)) (fun _ _ => rfl), fun y hy => (HK1.out.rok y hy).fr hfd (fun i hi e => hn3 i (by rw [e]; decide)) (fun _ _ => rfl), fun i hi => HK1.out.out i (by have := hfd.size; omega)⟩
    have HMX : Hid (MgOk W2 T X) := (a4.fr (Fr.of_below HB1.out) (fun i hi _ e => by have e' : w.heap.size ≤ i := e; omega) (fun _ _ => rfl)).fr hfd (fun i hi e => hn3 i (by rw [e]; decide)) (fun _ _ => rfl)
    have HGB2 : Hid (Blk W2 gm 43 (mgCells X).toArray) := hfd.blk HGB.out (by have := HGM.out; omega)
    have HF2 : Hid (Fr (ownS w T) w W2) := ((Fr.of_below HB1.out).mono (T := ownS w T) (fun i hi e => by have e' : w.heap.size ≤ i := e; omega)).trans hfd (fun i hi e => by rw [show i = wb from e]; exact ⟨hwlt, .inr (.inl hwb3)⟩)
    have HA := Lib.hid (show x1 = st ∧ x3 = mid from by have h1 := HXE.out; constructor <;> (rw [h1] at a1 a2; first | exact a2 | exact a1))
    have HIN := Lib.hid a3
    have HLT : Hid (gm < W2.heap.size) := HGB2.out.lt
    have HN5 : Hid (x5.length = xn) := by have h1 := HMC.out; rw [HXE.out] at h1; unfold Hid; simp [mgCells] at h1; omega
    obtain ⟨A0, c0, hrv, hc1, hc2⟩ := HJ2.out.rdy.form
    clear hord hfd a1 a2 a3 a4 hwlt hn3 hwb3
    go_upto_region 4 with (fail)
    clear hrun cb1
    have HTG : Hid (T gm = 0) := HK.out.out gm (by have := HGM.out; omega)
    have HRC : Hid (∀ V m, RdS W2.drew T m V → V.cell? ⟨p, 3, none⟩ = some rv ∧ V.frozen? ⟨p, 3, none⟩ = false) := fun V m hS => by
      have h1 : JB V p inter bl bo rv h := JB.fr (w := W2.drew) HJ2.out.jb hS.1 (fun hx => by have := hx.2; rw [HJ2.out.tp] at this; cases this)
      exact ⟨h1.c3, Blk.frozen h1 3⟩
    have HMB : Hid (∀ V m, RdS W2.drew T m V → Blk V gm 43 (mgCells X).toArray) := fun V m hS => hS.1.blk (show Blk W2.drew gm _ _ from HGB2.out) (fun hx => by have := hx.2; rw [HTG.out] at this; cases this)
    refine wp_region_stage_tail 8 (RdRel W2.drew T) (RdS W2.drew T) [(false, .exact (.pointer (some ⟨p, 0, none⟩))),
        (false, .exact (.pointer (some ⟨p, 0, none⟩))),
        (false, .exact (.pointer (some ⟨p, 0, none⟩))),
        (false, .exact (.pointer (some ⟨p, 3, none⟩))),
        (false, .exact (rv)),
        (false, .exact (.agg (mgCells X).toArray)),
        (false, .grows (BsP W2.drew.heap.size X)),
        (true, .grows (ApP W2.drew T (xs ++ [X])))] (by kernel_rfl) (by kernel_rfl) (by kernel_rfl) rfl (of_decide_eq_true (by kernel_rfl)) (by kernel_rfl) (by kernel_rfl) ?lasts ?start ?walk
    case lasts => exact ⟨fun m v V V' _ h k => BsP.lasts h k, fun m v V V' hm h k => ApP.lasts (Nat.lt_of_le_of_lt (Nat.zero_le _) (hm rfl)) h k, trivial⟩
    case start => exact ⟨(Fr.refl _ _), fun _ => Fr.refl _ _⟩
    case walk =>
      simp only [List.take_succ_cons, List.take_zero, List.drop_succ_cons, List.drop_zero]
      refine stageT_pure rfl (fun m V => RdRel.refl _ _ m V) (fun V m hS hl => by go_simp) ?_
      simp only [Act.put, List.setIfInBounds_toArray, List.set_cons_zero, List.set_cons_succ, List.cons_append, List.nil_append]
      refine stageT_pure rfl (fun m V => RdRel.refl _ _ m V) (fun V m hS hl => by go_simp) ?_
      simp only [Act.put, List.setIfInBounds_toArray, List.set_cons_zero, List.set_cons_succ, List.cons_append, List.nil_append]
      refine stageT_pure rfl (fun m V => RdRel.refl _ _ m V) (fun V m hS hl => by go_simp) ?_
      simp only [Act.put, List.setIfInBounds_toArray, List.set_cons_zero, List.set_cons_succ, List.cons_append, List.nil_append]
      refine stageT_pure rfl (fun m V => RdRel.refl _ _ m V) (fun V m hS hl => by go_simp) ?_
      simp only [Act.put, List.setIfInBounds_toArray, List.set_cons_zero, List.set_cons_succ, List.cons_append, List.nil_append]
      refine stageT_pure rfl (fun m V => RdRel.refl _ _ m V) (fun V m hS hl => by
          have hc := (HRC.out V m hS).1
          go_simp) ?_
      simp only [Act.put, List.setIfInBounds_toArray, List.set_cons_zero, List.set_cons_succ, List.cons_append, List.nil_append]
      refine stageT_pure rfl (fun m V => RdRel.refl _ _ m V) (fun V m hS hl => by exact exec_load_any rfl rfl (mg_load (HMB.out V m hS)) Try.underlying43 rfl msg_info) ?_
      simp only [Act.put, List.setIfInBounds_toArray, List.set_cons_zero, List.set_cons_succ, List.cons_append, List.nil_append]
      refine stageT_grows rfl (fun V m hS hl => by
          show Words.Leaves _ _ _
          rw [exec_slice_mg _ rfl X rfl]
          exact ⟨⟨(Fr.refl _ V).alloc _, fun _ => (Fr.refl _ V).alloc _⟩, ⟨_, rfl, hS.1.size, Blk.new V _ _⟩, ⟨hS.1.alloc _, fun e => (hS.2 e).alloc _⟩⟩) (fun v30 => ?_)
      simp only [Act.put, List.setIfInBounds_toArray, List.set_cons_zero, List.set_cons_succ, List.cons_append, List.nil_append]
      refine stageT_move_grows rfl (fun V hS hl => by
          obtain ⟨g1, e1, hB1, hb1⟩ := (hl.1 (by kernel_rfl))
          obtain ⟨v', w5, hrun, hr, hf⟩ := ((show ReadyR W2.drew T rv xs from HJ2.out.rdy.fr ((Fr.refl (fun _ => False) W2).drew) (fun _ _ _ h => h) (fun _ _ => rfl)).fr (T' := T) (hS.2 rfl) (fun _ _ _ h => h) (fun _ _ => rfl)).append hxl hb1 74
          show Words.Leaves _ _ _
          rw [exec_append rfl rfl e1 hrun]
          exact push_ap HJ2.out.out hS.1 hr hf) (fun v31 => ?_)
      simp only [Act.put, List.setIfInBounds_toArray, List.set_cons_zero, List.set_cons_succ, List.cons_append, List.nil_append]
      refine stageT_nil (fun V2 hS hF => ?_)
      have hF2 : BsP W2.drew.heap.size X v30 V2 ∧ ApP W2.drew T (xs ++ [X]) v31 V2 ∧ True := hF
      have HAP := Lib.hid hF2.2.1
      obtain ⟨T9, h91, h92, h93⟩ := HAP.out
      obtain ⟨A9, c9, rfl, h9a, h9b⟩ := h91.form
      obtain ⟨n9, hn9⟩ : ∃ n9, n9 = (xs ++ [X]).length := ⟨_, rfl⟩
      rw [← hn9] at HAP h9a ⊢
      have hc3 := (HRC.out V2 _ hS).1
      have hz3 := (HRC.out V2 _ hS).2
      have HS2 : Hid (Fr (fun i => i < W2.heap.size ∧ T i = 4) W2 V2) := (Fr.refl (fun i => i < W2.heap.size ∧ T i = 4) W2).drew.same hS.1
      clear hS hF hF2 h91 h92 h93 hn9
      go_wp2_with fail
      go_ret
      obtain ⟨T', k1, k2, k3⟩ := HJ2.out.push HMX.out HS2.out (show ApP W2 T (xs ++ [X]) _ V2 from HAP.out)
      refine ⟨true, T', _, _, _, rfl, .inr ⟨rfl, X, rfl, HIN.out, ?_, ?_, rfl⟩, k1, HF2.out.trans k2 (fun i hi e => ⟨hi, (show T i = 1 ∨ T i = 4 from e.2).elim .inl (fun e => .inr (.inr e))⟩), ⟨fun i hi => k3.old i (by have := HF2.out.size; omega), k3.out⟩⟩
      · rw [HXE.out]; exact HA.out.1
      · rw [HXE.out]; exact HA.out.2
end
end Go.Proofs.Ytioddokjogbmnaa.Chk

set_option linter.unusedVariables false
set_option linter.unusedSimpArgs false
set_option maxRecDepth 20000
namespace Go.Proofs.Ytioddokjogbmnaa.Chk
open Go.ChangeShapes Go.WideShapes Go.ChangeAt Go.RowKit Go.Deep Go.Maps Go.Proofs.Ytioddokjogbmnaa.Words Go.Proofs.Ytioddokjogbmnaa.Oct Go.Proofs.Ytioddokjogbmnaa.Par Go.Proofs.Ytioddokjogbmnaa.Mx
section
variable {w w' : World} {T T' : Nat → Nat} {p bl bo h : Nat} {inter : Bool} {rv : Value} {xs : List Mg} {Om : Nat → Option Nat} {Wb next : Nat → Nat} {wait wait' : List Jo.Ms} {S : Nat → Prop}
def setN (next : Nat → Nat) (st n : Nat) (s : Nat) : Nat := if s = st then n else next s
theorem setN_at (next : Nat → Nat) (st n : Nat) : setN next st n st = n := if_pos rfl
theorem setN_self (next : Nat → Nat) (st : Nat) : setN next st (next st) = next := funext fun s => by unfold setN; by_cases e : s = st; rw [if_pos e, e]; rw [if_neg e]
theorem setN_setN (next : Nat → Nat) (st a b : Nat) : setN (setN next st a) st b = setN next st b := funext fun s => by unfold setN; by_cases e : s = st; rw [if_pos e, if_pos e]; rw [if_neg e, if_neg e, if_neg e]
/-- A stream's next number is set. -/
theorem JO.setNext (k : JO w T p inter bl bo rv h xs Om Wb next wait) {st b n : Nat} (ho : Om st = some b) (hn : MidOk inter n) :
    JO (w.setCell ⟨b, 0, none⟩ (.int .u32 (n : Int))) T p inter bl bo rv h xs Om Wb (setN next st n) wait ∧ Fr (fun i => i = b) w (w.setCell ⟨b, 0, none⟩ (.int .u32 (n : Int))) := by
  have hb3 := (k.ord.ord st b ho).tb
  have hf : Fr (fun i => i = b) w (w.setCell ⟨b, 0, none⟩ (.int .u32 (n : Int))) := (Fr.refl (fun i => i = b) w).setCell (p := ⟨b, 0, none⟩) (.inl rfl) _
  have hn3 : ∀ j, T j ≠ 3 → ¬ j = b := fun j hj e => hj (by rw [e]; exact hb3)
  refine ⟨⟨k.jb.fr hf (hn3 p (by rw [k.tp]; decide)), k.tp, ⟨k.ord.tbo, k.ord.map.fr hf (fun e => k.ord.ne_bo ho e.symm), fun s b' hs => ?_, fun s hs => ⟨?_, (k.ord.none_ s hs).2⟩, k.ord.inj, k.ord.sep, k.ord.wok, fun s => ?_, k.ord.wnd⟩, k.rdy.fr hf (fun i hi e => hn3 i (by rw [e]; decide)) (fun _ _ => rfl), fun y hy => (k.rok y hy).fr hf (fun i hi e => hn3 i (by rw [e]; decide)) (fun _ _ => rfl), fun i hi => k.out i (by simpa [World.setCell] using hi)⟩, hf⟩
  · by_cases e : s = st
    · subst e
      rw [ho] at hs
      injection hs with hs
      subst hs
      rw [setN_at]
      have kk := k.ord.ord s b ho
      obtain ⟨W, h1, h2, h3⟩ := kk.ws
      exact ⟨kk.tb, kk.twb, kk.ne, kk.blk.set_ 0 _, W, h1.fr hf (fun e => k.ord.ne ho ho e.symm), fun i x hx => ⟨(h2 i x hx).1, (h2 i x hx).2.1, (h2 i x hx).2.2.1, (h2 i x hx).2.2.2.fr hf (fun j hj e => hn3 j (by rw [e]; decide)) (fun _ _ => rfl)⟩, h3⟩
    · unfold setN
      rw [if_neg e]
      exact (k.ord.ord s b' hs).fr hf ⟨fun e' => e (k.ord.inj s st b' hs (by rw [e']; exact ho)), fun e' => k.ord.ne ho hs e'.symm⟩ (fun j hj e => hn3 j (by rw [e]; decide)) (fun _ _ => rfl)
  · have : s ≠ st := fun e => by rw [e, ho] at hs; cases hs
    unfold setN
    rw [if_neg this]
    exact (k.ord.none_ s hs).1
  · unfold setN
    split
    · exact hn
    · exact k.ord.nx s
/-- What goes on. -/
structure AdvR (inter : Bool) (st nx : Nat) (xs xs' : List Mg) (wait wait' : List Jo.Ms) (nx' : Nat) : Prop where
  ex : ∃ ms : List Mg, xs' = xs ++ ms ∧ wait.Perm (ms.map (fun x => msOf x.m) ++ wait') ∧ (∀ i x, ms[i]? = some x → x.m.st = st ∧ x.m.mid = (nx + i) % Jo.modN inter) ∧ nx' = (nx + ms.length) % Jo.modN inter
theorem AdvR.zero {st nx : Nat} (hn : MidOk inter nx) : AdvR inter st nx xs xs wait wait nx := ⟨[], by simp, by simp, fun i x hx => by simp at hx, by simp; exact (Nat.mod_eq_of_lt hn).symm⟩
theorem modN_pos : 0 < Jo.modN inter := by unfold Jo.modN; split <;> omega
theorem AdvR.snoc {st nx nx' : Nat} {xs' : List Mg} {x : Mg} (hw : wait'.Pairwise (fun a b => ¬ (a.st = b.st ∧ a.mid = b.mid))) (k : AdvR inter st nx xs xs' wait wait' nx') (h1 : msOf x.m ∈ wait') (h2 : x.m.st = st) (h3 : x.m.mid = nx') :
    AdvR inter st nx xs (xs' ++ [x]) wait (offW wait' st nx') ((nx' + 1) % Jo.modN inter) := by
  obtain ⟨ms, a1, a2, a3, a4⟩ := k.ex
  refine ⟨ms ++ [x], by rw [a1, List.append_assoc], ?_, fun i y hy => ?_, ?_⟩
  · have h4 := offW_perm hw h1
    have e1 : (msOf x.m).st = st := h2
    have e2 : (msOf x.m).mid = nx' := h3
    rw [e1, e2] at h4
    rw [List.map_append, List.append_assoc]
    exact a2.trans (h4.append_left _)
  · rcases Nat.lt_or_ge i ms.length with hi | hi
    · rw [List.getElem?_append_left hi] at hy
      exact a3 i y hy
    · have hi2 : i = ms.length := by
        have := (List.getElem?_eq_some_iff.1 hy).1
        simp at this
        omega
      subst hi2
      rw [List.getElem?_append_right (Nat.le_refl _), Nat.sub_self] at hy
      simp only [List.getElem?_cons_zero, Option.some.injEq] at hy
      subst hy
      exact ⟨h2, by rw [h3, a4]⟩
  · rw [a4, List.length_append, List.length_singleton]
    have := modN_pos (inter := inter)
    rw [Nat.add_mod, Nat.mod_mod, ← Nat.add_mod]
    congr 1
theorem offW_lt {st mid : Nat} {m : Jo.Ms} (hm : m ∈ wait) (h1 : m.st = st) (h2 : m.mid = mid) : (offW wait st mid).length < wait.length := by
  unfold offW
  rcases Nat.lt_or_ge (wait.filter fun m => !decide (m.st = st ∧ m.mid = mid)).length wait.length with h | h
  · exact h
  · have h3 := List.length_filter_le (fun m : Jo.Ms => !decide (m.st = st ∧ m.mid = mid)) wait
    have h4 : (wait.filter fun m => !decide (m.st = st ∧ m.mid = mid)).length = wait.length := by omega
    have h5 := List.length_filter_eq_length_iff.1 h4 m hm
    simp [h1, h2] at h5
theorem ownS_ext {T T1 : Nat → Nat} {w1 : World} (he : Ext w w1 T T1) (hs : w.heap.size ≤ w1.heap.size) : ∀ i, i < w.heap.size → ownS w1 T1 i → ownS w T i := fun i hi e => ⟨hi, by rw [← he.old i hi]; exact e.2⟩
def AdvDone (w : World) (T : Nat → Nat) (p : Nat) (inter : Bool) (bl bo h : Nat) (xs : List Mg) (Om : Nat → Option Nat) (Wb next : Nat → Nat) (wait : List Jo.Ms) (st : Nat) (e : Ending) (w' : World) : Prop :=
  ∃ T' rv' xs' wait' nx', e = .returned (.tuple #[]) ∧ AdvR inter st (next st) xs xs' wait wait' nx' ∧ waitB wait' st nx' = false ∧ JO w' T' p inter bl bo rv' h xs' Om Wb (setN next st nx') wait' ∧ Fr (ownS w T) w w' ∧ Ext w w' T T'
set_option maxHeartbeats 4000000 in
theorem advance_any (k : JO w T p inter bl bo rv h xs Om Wb next wait) (hxl : xs.length + wait.length ≤ 2000000001) {st b : Nat} (ho : Om st = some b) :
    Calls Try.prog 62 #[jptr p, optr b] w (AdvDone w T p inter bl bo h xs Om Wb next wait st) := by
  have HK := Lib.hid k
  have HO := Lib.hid ho
  clear k ho
  go_enter Try.func62, Try.ntmps62
  go_wp2_with fail
  go_loopg [] wait.length (fun g wr => ∃ (T1 : Nat → Nat) (rv1 : Value) (xs1 : List Mg) (wait1 : List Jo.Ms) (nx1 : Nat), wait1.length ≤ g ∧ xs1.length + wait1.length ≤ 2000000001 ∧ MidOk inter nx1 ∧ Hid (AdvR inter st (next st) xs xs1 wait wait1 nx1) ∧ Hid (JO wr T1 p inter bl bo rv1 h xs1 Om Wb (setN next st nx1) wait1) ∧ Hid (Fr (ownS w T) w wr) ∧ Hid (Ext w wr T T1))
  case atStart => exact ⟨T, rv, xs, wait, next st, Nat.le_refl _, hxl, HK.out.ord.nx st, AdvR.zero (HK.out.ord.nx st), (by rw [setN_self]; exact HK), Fr.refl _ _, Ext.refl HK.out.out⟩
  case round =>
    obtain ⟨T1, rv1, xs1, wait1, nx1, hg, hxl1, hm1, HA, HJ, HF, HE⟩ := hrel
    have cb := (HJ.out.ord.ord st b HO.out).blk.cell 0
    rw [setN_at] at cb
    simp only [List.getElem?_toArray, List.getElem?_cons_zero] at cb
    go_wp2_with fail
    refine (release_any HJ.out (by omega) HO.out hm1).mono ?_
    rintro e w2 ⟨r, T2, rv2, xs2, wait2, rfl, hr, hj2, hf2, he2⟩
    have HF2 : Hid (Fr (ownS w T) w w2) := HF.out.trans hf2 (fun i hi e => ownS_ext HE.out HF.out.size i hi e)
    have HE2 : Hid (Ext w w2 T T2) := HE.out.trans he2 HF.out.size
    have HJ2 := Lib.hid hj2
    clear hj2 hf2 he2 cb
    rcases hr with ⟨rfl, rfl, rfl, hwf⟩ | ⟨rfl, x, rfl, hx1, hx2, hx3, rfl⟩
    · go_wp2
      go_end0
      exact ⟨T2, rv2, _, _, nx1, rfl, HA.out, hwf, HJ2.out, HF2.out, HE2.out⟩
    · have hlen := offW_lt hx1 hx2 hx3
      have HA2 : Hid (AdvR inter st (next st) xs (xs1 ++ [x]) wait (offW wait1 st nx1) ((nx1 + 1) % Jo.modN inter)) := HA.out.snoc HJ.out.ord.wnd hx1 hx2 hx3
      have cb2 := (HJ2.out.ord.ord st b HO.out).blk.cell 0
      have fb2 := (HJ2.out.ord.ord st b HO.out).blk.frozen 0
      rw [setN_at] at cb2
      simp only [List.getElem?_toArray, List.getElem?_cons_zero] at cb2
      have h32 := small32 hm1
      obtain ⟨y, hy⟩ : ∃ y, y = (nx1 + 1) % 4294967296 := ⟨_, rfl⟩
      have hy2 : y < 4294967296 := by omega
      have hwy : ((nx1 : Int) + 1) % 4294967296 = (y : Int) := by omega
      have hz : midN inter y = (nx1 + 1) % Jo.modN inter := by
        rw [hy]
        unfold midN Jo.modN
        cases inter
        · show (nx1 + 1) % 4294967296 % 65536 = (nx1 + 1) % 65536
          omega
        · rfl
      have hnum := number_any HJ2.out.jb.c0 hy2
      obtain ⟨z, hzz⟩ : ∃ z, z = midN inter y := ⟨_, rfl⟩
      have hzok : MidOk inter z := by rw [hzz]; exact mid_small inter hy2
      rw [← hzz] at hnum hz
      rw [← hz] at HA2
      clear hx1 hx2 hx3 hz hy hzz
      go_upto_region 1 with (fail)
      have HNX := Lib.hid (HJ2.out.setNext HO.out hzok)
      go_wp2_with (go_at_call 28; refine hnum.mono ?_; rintro e w' ⟨rfl, rfl⟩)
      go_roundg (offW wait1 st nx1).length
      case measure => omega
      case rel =>
        have h5 := HNX.out.2
        have hb3 := (HJ2.out.ord.ord st b HO.out).tb
        have hblt := HJ2.out.ord.lt HO.out
        refine ⟨T2, rv2, xs1 ++ [x], offW wait1 st nx1, z, Nat.le_refl _, by rw [List.length_append, List.length_singleton]; omega, hzok, HA2, (by have h6 := HNX.out.1; rw [setN_setN] at h6; exact h6), HF2.out.trans h5 (fun i hi e => ⟨hi, ?_⟩), ⟨fun i hi => HE2.out.old i hi, fun i hi => HE2.out.out i (by simpa [World.setCell] using hi)⟩⟩
        rw [← HE2.out.old i hi, show i = b from e, hb3]
        exact .inr (.inl rfl)
end
end Go.Proofs.Ytioddokjogbmnaa.Chk

set_option linter.unusedVariables false
set_option linter.unusedSimpArgs false
set_option maxRecDepth 20000
namespace Go.Proofs.Ytioddokjogbmnaa.Chk
open Go.ChangeShapes Go.WideShapes Go.ChangeAt Go.RowKit Go.Deep Go.Maps Go.Proofs.Ytioddokjogbmnaa.Words Go.Proofs.Ytioddokjogbmnaa.Oct Go.Proofs.Ytioddokjogbmnaa.Par Go.Proofs.Ytioddokjogbmnaa.Mx
section
variable {w w' : World} {T T' : Nat → Nat} {p bl bo h : Nat} {inter : Bool} {rv : Value} {xs : List Mg} {Om : Nat → Option Nat} {Wb next : Nat → Nat} {wait wait' : List Jo.Ms} {S : Nat → Prop}
/-- A message is put beside what waits. -/
theorem OrdR.put (k : OrdR w T bo inter Om Wb next wait) {st b : Nat} {x : Mg} (ho : Om st = some b) (hs : x.m.st = st) (hlo : x.m.lo = false) (hm : MidOk inter x.m.mid) (hst : st < 65536) (hno : waitB wait st x.m.mid = false) (hok : MgOk w T x) :
    ∃ w1, (Instr.mapUpdate 105 (.map (some (Wb st))) (.int .u32 (x.m.mid : Int)) (mgV x)).run Try.prog w = .ok () w1 ∧ OrdR w1 T bo inter Om Wb next (wait ++ [msOf x.m]) ∧ Fr (fun i => i = Wb st) w w1 := by
  obtain ⟨W, h1, h2, h3⟩ := (k.ord st b ho).ws
  obtain ⟨w1, hrun, hm1, hturn⟩ := MapX.put h1 (t := 105) Try.underlying105 (x := x.m.mid) (small32 hm) (mgV x)
  have hf : Fr (fun i => i = Wb st) w w1 := (Fr.of_grown hturn.grown).mono (fun i hi e => by injection e)
  have hn3 : ∀ j, T j = 5 → ¬ j = Wb st := fun j hj e => by rw [e, (k.ord st b ho).twb] at hj; cases hj
  have hin : ∀ m, m ∈ wait ++ [msOf x.m] ↔ (m ∈ wait ∨ m = msOf x.m) := fun m => by simp
  have hms : (msOf x.m).st = st ∧ (msOf x.m).mid = x.m.mid := ⟨hs, rfl⟩
  refine ⟨w1, hrun, ⟨k.tbo, k.map.fr hf (fun e => (k.ord st b ho).ne e.symm), fun s b' hs' => ?_, fun s hs' => ⟨(k.none_ s hs').1, fun m hm' e => ?_⟩, k.inj, k.sep, fun m hm' => ?_, k.nx, ?_⟩, hf⟩
  · by_cases e : s = st
    · subst e
      rw [ho] at hs'
      injection hs' with hs'
      subst hs'
      have kk := k.ord s b ho
      refine ⟨kk.tb, kk.twb, kk.ne, hf.blk kk.blk (fun e => k.ne ho ho e), fun i => if i = x.m.mid then some x else W i, hm1.as_ (fun i => ?_), fun i y hy => ?_, fun m hm' hms' => ?_⟩
      · unfold putF
        show (if i = x.m.mid then some (mgV x) else (W i).map mgV) = (if i = x.m.mid then some x else W i).map mgV
        by_cases e : i = x.m.mid
        · rw [if_pos e, if_pos e]; rfl
        · rw [if_neg e, if_neg e]
      · have hy : (if i = x.m.mid then some x else W i) = some y := hy
        by_cases e : i = x.m.mid
        · rw [if_pos e] at hy
          injection hy with hy
          subst hy
          exact ⟨e.symm, hs, (hin _).2 (.inr rfl), hok.fr hf (fun j hj h5 => hn3 j h5) (fun _ _ => rfl)⟩
        · rw [if_neg e] at hy
          obtain ⟨a1, a2, a3, a4⟩ := h2 i y hy
          exact ⟨a1, a2, (hin _).2 (.inl a3), a4.fr hf (fun j hj h5 => hn3 j h5) (fun _ _ => rfl)⟩
      · rcases (hin m).1 hm' with hm' | rfl
        · have hne : m.mid ≠ x.m.mid := fun e => by
            have := waitB_iff.2 ⟨m, hm', hms', e⟩
            rw [hno] at this; cases this
          obtain ⟨y, a3, a4⟩ := h3 m hm' hms'
          exact ⟨y, (by show (if m.mid = x.m.mid then some x else W m.mid) = some y; rw [if_neg hne]; exact a3), a4⟩
        · exact ⟨x, (if_pos hms.2 : (if (msOf x.m).mid = x.m.mid then some x else W (msOf x.m).mid) = some x), rfl⟩
    · have kk := (k.ord s b' hs').fr (T' := T) hf ⟨fun e' => k.ne hs' ho e', fun e' => e (k.sep s st b' b hs' ho e')⟩ (fun j hj h5 => hn3 j h5) (fun _ _ => rfl)
      exact kk.wait_ (fun m hms' => ⟨fun hx => by
        rcases (hin m).1 hx with hx | rfl
        · exact hx
        · exact absurd (hms'.symm.trans hms.1) e, fun hx => (hin m).2 (.inl hx)⟩)
  · rcases (hin m).1 hm' with hm' | rfl
    · exact (k.none_ s hs').2 m hm' e
    · have e2 : s = st := e.symm.trans hms.1
      rw [e2, ho] at hs'; cases hs'
  · rcases (hin m).1 hm' with hm' | rfl
    · exact k.wok m hm'
    · exact ⟨hlo, hm, by rw [hms.1]; exact hst⟩
  · rw [List.pairwise_append]
    refine ⟨k.wnd, by simp, fun a ha c hc => ?_⟩
    rw [List.mem_singleton] at hc
    subst hc
    intro e
    have := waitB_iff.2 ⟨a, ha, e.1.trans hms.1, e.2.trans hms.2⟩
    rw [hno] at this; cases this
def ArrDone (w : World) (T : Nat → Nat) (p : Nat) (inter : Bool) (bl bo h : Nat) (xs : List Mg) (next : Nat → Nat) (wait : List Jo.Ms) (x : Mg) (e : Ending) (w' : World) : Prop :=
  ∃ T' rv' xs' Om' Wb' next' wait', e = .returned (.tuple #[]) ∧ ((x.m.lo = true ∧ xs' = xs ++ [x] ∧ wait' = wait ∧ next' = next) ∨ (x.m.lo = false ∧ ∃ nx', AdvR inter x.m.st (next x.m.st) xs xs' (wait ++ [msOf x.m]) wait' nx' ∧ waitB wait' x.m.st nx' = false ∧ next' = setN next x.m.st nx')) ∧
    JO w' T' p inter bl bo rv' h xs' Om' Wb' next' wait' ∧ Fr (ownS w T) w w' ∧ Ext w w' T T'
set_option maxHeartbeats 4000000 in
theorem arrive_any (k : JO w T p inter bl bo rv h xs Om Wb next wait) (hxl : xs.length + wait.length ≤ 2000000000) {x : Mg} (hok : MgOk w T x) (hst : x.m.st < 65536) (hm : x.m.lo = false → MidOk inter x.m.mid ∧ waitB wait x.m.st x.m.mid = false) :
    Calls Try.prog 36 #[jptr p, .agg (mgCells x).toArray] w (ArrDone w T p inter bl bo h xs next wait x) := by
  obtain ⟨⟨x1, x2, x3, x4, x5⟩, xA, xc⟩ := x
  obtain ⟨X, hX⟩ : ∃ X : Mg, X = ⟨⟨x1, x2, x3, x4, x5⟩, xA, xc⟩ := ⟨_, rfl⟩
  rw [← hX] at hok hm ⊢
  have hmc : (mgCells X).toArray = #[.int .u16 (x1 : Int), .bool x2, .int .u32 (x3 : Int), .int .u32 (x4 : Int), .slice xA x5.length xc] := by rw [hX]; rfl
  have HMC := Lib.hid hmc
  obtain ⟨xn, hxn⟩ : ∃ xn, xn = x5.length := ⟨_, rfl⟩
  rw [← hxn] at HMC
  rw [HMC.out]
  have HXE : Hid (X.m.st = x1 ∧ X.m.lo = x2 ∧ X.m.mid = x3) := by rw [hX]; exact ⟨rfl, rfl, rfl⟩
  have hst1 : x1 < 65536 := hst
  have HK := Lib.hid k
  have HOK := Lib.hid hok
  have HM := Lib.hid hm
  clear hX hmc hxn k hok hm hst
  go_enter Try.func36, Try.ntmps36
  go_upto_region 1 with (fail)
  obtain ⟨W1, hW1⟩ : ∃ W1, W1 = w.alloc (.cells #[.int .u16 (x1 : Int), .bool x2, .int .u32 (x3 : Int), .int .u32 (x4 : Int), .slice xA xn xc] 43) := ⟨_, rfl⟩
  obtain ⟨gm, hgm⟩ : ∃ gm, gm = w.heap.size := ⟨_, rfl⟩
  have HGB : Hid (Blk W1 gm 43 (mgCells X).toArray) := by rw [hW1, hgm, HMC.out]; exact Blk.new _ _ _
  have HB1 : Hid (Below w.heap.size w W1) := by rw [hW1]; exact below_one w _
  have HS1 : Hid (W1.heap.size = w.heap.size + 1) := by rw [hW1]; show _ = _; simp
  have HGM := Lib.hid hgm
  have HK1 := Lib.hid (HK.out.grows HB1.out)
  have HOK1 : Hid (MgOk W1 T X) := HOK.out.fr (Fr.of_below HB1.out) (fun i hi _ e => by have e' : w.heap.size ≤ i := e; omega) (fun _ _ => rfl)
  have HF1 : Hid (Fr (ownS w T) w W1) := (Fr.of_below HB1.out).mono (fun i hi e => by have e' : w.heap.size ≤ i := e; omega)
  have hcells : ∀ j u, (mgCells X)[j]? = some u → W1.cell? ⟨gm, j, none⟩ = some u := fun j u hu => by
    have := HGB.out.cell j
    rw [this]
    simpa using hu
  have hmg : mgCells X = [.int .u16 (x1 : Int), .bool x2, .int .u32 (x3 : Int), .int .u32 (x4 : Int), .slice xA xn xc] := by have := congrArg Array.toList HMC.out; simpa using this
  have f0 := hcells 0 (.int .u16 (x1 : Int)) (by rw [hmg]; rfl)
  have f1 := hcells 1 (.bool x2) (by rw [hmg]; rfl)
  have f2 := hcells 2 (.int .u32 (x3 : Int)) (by rw [hmg]; rfl)
  rw [← hW1, ← hgm]
  clear hW1 hgm hcells hmg
  cases x2
  · go_upto_region 3 with (fail)
    go_wp2_with fail
    refine (order_any HK1.out hst1).mono ?_
    rintro e W2 ⟨b, T2, Om2, Wb2, rfl, ho2, hk2, hf2, he2⟩
    have hno := HM.out HXE.out.2.1
    have hok2 : MgOk W2 T2 X := HOK1.out.fr hf2 (fun i hi h5 e => by have := e.2; rw [h5] at this; cases this) he2.old
    have HK2 := Lib.hid hk2
    have HO2 := Lib.hid ho2
    have HF2 : Hid (Fr (ownS w T) w W2) := HF1.out.trans hf2 (fun i hi e => ⟨hi, .inr (.inl e.2)⟩)
    have HE2 : Hid (Ext w W2 T T2) := ⟨fun i hi => he2.old i (by have := HS1.out; omega), he2.out⟩
    have hgt : ¬ (gm < W1.heap.size ∧ T gm = 3) := fun e => by
      have h1 := HK.out.out gm (by have := HGM.out; omega)
      rw [h1] at e; cases e.2
    have HGB2 : Hid (Blk W2 gm 43 (mgCells X).toArray) := hf2.blk HGB.out hgt
    have cm2 : W2.cell? ⟨gm, 2, none⟩ = some (.int .u32 (x3 : Int)) := by
      have := HGB2.out.cell 2
      rw [this, HMC.out]; rfl
    have cb2 := (hk2.ord.ord x1 b ho2).blk.cell 1
    simp only [List.getElem?_toArray, List.getElem?_cons_succ, List.getElem?_cons_zero] at cb2
    have hx3 : X.m.mid = x3 := HXE.out.2.2
    obtain ⟨W3, hrun, hord, hfp⟩ := (hk2.drewN 1).ord.put ho2 HXE.out.1 HXE.out.2.1 hno.1 hst1 (by rw [← HXE.out.1]; exact hno.2) (show MgOk (W2.drewN 1) T2 X from hok2.fr ((Fr.refl (fun _ => False) W2).drewN 1) (fun _ _ _ h => h) (fun _ _ => rfl))
    rw [hx3] at hrun
    have hv : mgV X = .agg #[.int .u16 (x1 : Int), .bool false, .int .u32 (x3 : Int), .int .u32 (x4 : Int), .slice xA xn xc] := by rw [← HMC.out]; rfl
    rw [hv] at hrun
    have hrun2 : (Instr.mapUpdate 105 (.map (some (Wb2 x1))) (.int .u32 (x3 : Int)) (.agg #[.int .u16 (x1 : Int), .bool false, .int .u32 (x3 : Int), .int .u32 (x4 : Int), .slice xA xn xc])).run Try.prog W2.drew = .ok () W3 := hrun
    have e0 : W2.cell? ⟨gm, 0, none⟩ = some (.int .u16 (x1 : Int)) := by rw [HGB2.out.cell 0, HMC.out]; rfl
    have e1 : W2.cell? ⟨gm, 1, none⟩ = some (.bool false) := by rw [HGB2.out.cell 1, HMC.out]; rfl
    have e3 : W2.cell? ⟨gm, 3, none⟩ = some (.int .u32 (x4 : Int)) := by rw [HGB2.out.cell 3, HMC.out]; rfl
    have e4 : W2.cell? ⟨gm, 4, none⟩ = some (.slice xA xn xc) := by rw [HGB2.out.cell 4, HMC.out]; rfl
    have hwb3 : T2 (Wb2 x1) = 3 := (hk2.ord.ord x1 b ho2).twb
    have hwlt : Wb2 x1 < W2.heap.size := hk2.ord.wlt ho2
    have hn3 : ∀ j, T2 j ≠ 3 → j ≠ Wb2 x1 := fun j hj e => hj (by rw [e]; exact hwb3)
    have hfp' : Fr (fun i => i = Wb2 x1) W2 W3 := (Fr.refl (fun i => i = Wb2 x1) W2).drew.same hfp
    have HJ3 : Hid (JO W3 T2 p inter bl bo rv h xs Om2 Wb2 next (wait ++ [msOf X.m])) := ⟨hk2.jb.fr hfp' (hn3 p (by rw [hk2.tp]; decide)), hk2.tp, hord, hk2.rdy.fr hfp' (fun i hi e => hn3 i (by rw [e]; decide)) (fun _ _ => rfl), fun y hy => (hk2.rok y hy).fr hfp' (fun i hi e => hn3 i (by rw [e]; decide)) (fun _ _ => rfl), fun i hi => hk2.out i (by have := hfp'.size; omega)⟩
    have HF3 : Hid (Fr (ownS w T) w W3) := HF2.out.trans hfp' (fun i hi e => ⟨hi, by rw [← HE2.out.old i hi, show i = Wb2 x1 from e, hwb3]; exact .inr (.inl rfl)⟩)
    have HE3 : Hid (Ext w W3 T T2) := ⟨HE2.out.old, fun i hi => HE2.out.out i (by have := hfp'.size; omega)⟩
    clear hrun hord hfp hfp' hn3 hv hk2 ho2 hf2 he2 hok2 hwb3 hwlt hgt hno f0 f1 f2
    go_upto_region 4 with (fail)
    go_region
    have hadv := advance_any HJ3.out (by rw [List.length_append, List.length_singleton]; omega) HO2.out
    go_wp2_with fail
    refine hadv.mono ?_
    rintro e W5 ⟨T5, rv5, xs5, wait5, nx5, rfl, ha5, hw5, hj5, hf5, he5⟩
    go_wp2_with fail
    go_end0
    refine ⟨T5, rv5, xs5, Om2, Wb2, _, wait5, rfl, .inr ⟨HXE.out.2.1, nx5, ?_, ?_, rfl⟩, ?_, HF3.out.trans hf5 (fun i hi e => ownS_ext HE3.out HF3.out.size i hi e), HE3.out.trans he5 HF3.out.size⟩
    · rw [HXE.out.1]; exact ha5
    · rw [HXE.out.1]; exact hw5
    · rw [HXE.out.1]; exact hj5
  · have HTG : Hid (T gm = 0) := HK.out.out gm (by have := HGM.out; omega)
    have HRC : Hid (∀ V m, RdS W1.drew T m V → V.cell? ⟨p, 3, none⟩ = some rv ∧ V.frozen? ⟨p, 3, none⟩ = false) := fun V m hS => by
      have h1 : JB V p inter bl bo rv h := JB.fr (w := W1.drew) HK1.out.jb hS.1 (fun hx => by have := hx.2; rw [HK1.out.tp] at this; cases this)
      exact ⟨h1.c3, Blk.frozen h1 3⟩
    have HMB : Hid (∀ V m, RdS W1.drew T m V → Blk V gm 43 (mgCells X).toArray) := fun V m hS => hS.1.blk (show Blk W1.drew gm _ _ from HGB.out) (fun hx => by have := hx.2; rw [HTG.out] at this; cases this)
    go_upto_region 2 with (fail)
    clear f0 f1 f2
    refine wp_region_stage_tail 8 (RdRel W1.drew T) (RdS W1.drew T) [(false, .exact (.pointer (some ⟨p, 0, none⟩))),
        (false, .exact (.pointer (some ⟨p, 0, none⟩))),
        (false, .exact (.pointer (some ⟨p, 0, none⟩))),
        (false, .exact (.pointer (some ⟨p, 3, none⟩))),
        (false, .exact (rv)),
        (false, .exact (.agg (mgCells X).toArray)),
        (false, .grows (BsP W1.drew.heap.size X)),
        (true, .grows (ApP W1.drew T (xs ++ [X])))] (by kernel_rfl) (by kernel_rfl) (by kernel_rfl) rfl (of_decide_eq_true (by kernel_rfl)) (by kernel_rfl) (by kernel_rfl) ?lasts ?start ?walk
    case lasts => exact ⟨fun m v V V' _ h k => BsP.lasts h k, fun m v V V' hm h k => ApP.lasts (Nat.lt_of_le_of_lt (Nat.zero_le _) (hm rfl)) h k, trivial⟩
    case start => exact ⟨(Fr.refl _ _), fun _ => Fr.refl _ _⟩
    case walk =>
      simp only [List.take_succ_cons, List.take_zero, List.drop_succ_cons, List.drop_zero]
      refine stageT_pure rfl (fun m V => RdRel.refl _ _ m V) (fun V m hS hl => by go_simp) ?_
      simp only [Act.put, List.setIfInBounds_toArray, List.set_cons_zero, List.set_cons_succ, List.cons_append, List.nil_append]
      refine stageT_pure rfl (fun m V => RdRel.refl _ _ m V) (fun V m hS hl => by go_simp) ?_
      simp only [Act.put, List.setIfInBounds_toArray, List.set_cons_zero, List.set_cons_succ, List.cons_append, List.nil_append]
      refine stageT_pure rfl (fun m V => RdRel.refl _ _ m V) (fun V m hS hl => by go_simp) ?_
      simp only [Act.put, List.setIfInBounds_toArray, List.set_cons_zero, List.set_cons_succ, List.cons_append, List.nil_append]
      refine stageT_pure rfl (fun m V => RdRel.refl _ _ m V) (fun V m hS hl => by go_simp) ?_
      simp only [Act.put, List.setIfInBounds_toArray, List.set_cons_zero, List.set_cons_succ, List.cons_append, List.nil_append]
      refine stageT_pure rfl (fun m V => RdRel.refl _ _ m V) (fun V m hS hl => by
          have hc := (HRC.out V m hS).1
          go_simp) ?_
      simp only [Act.put, List.setIfInBounds_toArray, List.set_cons_zero, List.set_cons_succ, List.cons_append, List.nil_append]
      refine stageT_pure rfl (fun m V => RdRel.refl _ _ m V) (fun V m hS hl => by exact exec_load_any rfl rfl (mg_load (HMB.out V m hS)) Try.underlying43 rfl msg_info) ?_
      simp only [Act.put, List.setIfInBounds_toArray, List.set_cons_zero, List.set_cons_succ, List.cons_append, List.nil_append]
      refine stageT_grows rfl (fun V m hS hl => by
          show Words.Leaves _ _ _
          rw [exec_slice_mg _ rfl X rfl]
          exact ⟨⟨(Fr.refl _ V).alloc _, fun _ => (Fr.refl _ V).alloc _⟩, ⟨_, rfl, hS.1.size, Blk.new V _ _⟩, ⟨hS.1.alloc _, fun e => (hS.2 e).alloc _⟩⟩) (fun v13 => ?_)
      simp only [Act.put, List.setIfInBounds_toArray, List.set_cons_zero, List.set_cons_succ, List.cons_append, List.nil_append]
      refine stageT_move_grows rfl (fun V hS hl => by
          obtain ⟨g1, e1, hB1, hb1⟩ := (hl.1 (by kernel_rfl))
          obtain ⟨v', w5, hrun, hr, hf⟩ := ((show ReadyR W1.drew T rv xs from HK1.out.rdy.fr ((Fr.refl (fun _ => False) W1).drew) (fun _ _ _ h => h) (fun _ _ => rfl)).fr (T' := T) (hS.2 rfl) (fun _ _ _ h => h) (fun _ _ => rfl)).append (by omega) hb1 74
          show Words.Leaves _ _ _
          rw [exec_append rfl rfl e1 hrun]
          exact push_ap HK1.out.out hS.1 hr hf) (fun v14 => ?_)
      simp only [Act.put, List.setIfInBounds_toArray, List.set_cons_zero, List.set_cons_succ, List.cons_append, List.nil_append]
      refine stageT_nil (fun V2 hS hF => ?_)
      have hF2 : BsP W1.drew.heap.size X v13 V2 ∧ ApP W1.drew T (xs ++ [X]) v14 V2 ∧ True := hF
      have HAP := Lib.hid hF2.2.1
      obtain ⟨T9, h91, h92, h93⟩ := HAP.out
      obtain ⟨A9, c9, rfl, h9a, h9b⟩ := h91.form
      obtain ⟨n9, hn9⟩ : ∃ n9, n9 = (xs ++ [X]).length := ⟨_, rfl⟩
      rw [← hn9] at HAP h9a ⊢
      have hc3 := (HRC.out V2 _ hS).1
      have hz3 := (HRC.out V2 _ hS).2
      have HS2 : Hid (Fr (fun i => i < W1.heap.size ∧ T i = 4) W1 V2) := (Fr.refl (fun i => i < W1.heap.size ∧ T i = 4) W1).drew.same hS.1
      clear hS hF hF2 h91 h92 h93 hn9
      go_wp2_with fail
      (try simp only [Exit.inBlock, Exit.then])
      refine bodyPost_ret (results_none rfl _ _ _) rfl ?_
      obtain ⟨T', k1, k2, k3⟩ := HK1.out.push HOK1.out HS2.out (show ApP W1 T (xs ++ [X]) _ V2 from HAP.out)
      exact ⟨T', _, _, _, _, _, _, rfl, .inl ⟨HXE.out.2.1, rfl, rfl, rfl⟩, k1, HF1.out.trans k2 (fun i hi e => ⟨hi, (show T i = 1 ∨ T i = 4 from e.2).elim .inl (fun e => .inr (.inr e))⟩), ⟨fun i hi => k3.old i (by have := HF1.out.size; omega), k3.out⟩⟩
end
end Go.Proofs.Ytioddokjogbmnaa.Chk
