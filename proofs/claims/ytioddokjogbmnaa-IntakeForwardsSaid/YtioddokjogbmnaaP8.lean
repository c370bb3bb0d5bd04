/-
  Of the texts FrA: what the laws reach.
-/
import Derived.Test.YtioddokjogbmnaaP7
import Derived.Test.YtioddokjogbmnaaP4
import Derived.BigQuiet
import Derived.Test.YtioddokjogbmnaaP6
import Derived.OrdersIn
import Derived.RangeFuncCalls
import Derived.RangeFuncNested
import Derived.RangeFuncBound
import Derived.RangeFuncLeaves
import Derived.Shelf.Abstract
import Derived.Shelf.RegionOpen
import Derived.OwnWalkIn
import Derived.TacticsInMore
import Derived.LoopNIn
import Derived.LoopIn
import Derived.Great.BuildSlice

set_option linter.unusedVariables false
set_option linter.unusedSimpArgs false
namespace Go.Proofs.Ytioddokjogbmnaa.Chk
open Go.ChangeShapes Go.WideShapes Go.ChangeAt Go.RowKit Go.Deep Go.Proofs.Ytioddokjogbmnaa.Words Go.Proofs.Ytioddokjogbmnaa.Oct Go.Proofs.Ytioddokjogbmnaa.Par
structure Msg where
  st : Nat
  lo : Bool
  mid : Nat
  pp : Nat
  body : List UInt8
structure Msg.ok (m : Msg) : Prop where
  st : m.st < 65536
  mid : m.mid < 4294967296
  pp : m.pp < 4294967296
/-- A message's cells. -/
abbrev mCells (m : Msg) (v : Value) : Array Value := #[.int .u16 (m.st : Int), .bool m.lo, .int .u32 (m.mid : Int), .int .u32 (m.pp : Int), v]
def roomF (inter : Bool) : Nat := if inter = true then 1168 else 1172
theorem roomF_le (b : Bool) : 1 ≤ roomF b ∧ roomF b ≤ 1172 := by cases b <;> decide
def midF (m : Msg) (inter : Bool) : Nat := if inter = true then m.mid else m.mid % 65536
/-- The i-th pieceF of most bytes. -/
def pieceF (m : Msg) (most : Nat) (inter : Bool) (i : Nat) : Ck :=
  { zeroC (if inter = true then 64 else 0) with bg := decide (i = 0), en := decide (m.body.length ≤ (i + 1) * most), lo := m.lo, st := m.st, mid := midF m inter, pp := m.pp, fr := if inter = true then i else 0, body := (m.body.drop (i * most)).take most }
def cutN (m : Msg) (most : Nat) (inter : Bool) (k : Nat) : List Ck := (List.range k).map (pieceF m most inter)
/-- How many pieces. -/
def np (n most : Nat) : Nat := (n + most - 1) / most
def cutF (m : Msg) (most : Nat) (inter : Bool) : List Ck := cutN m most inter (np m.body.length most)
def cutE (m : Msg) (most : Int) (inter : Bool) : Nat := if most < 1 ∨ (roomF inter : Int) < most then 2 else if m.body.length = 0 then 42 else if 65536 < m.body.length then 43 else 0
theorem cutN_length (m : Msg) (most : Nat) (inter : Bool) (k : Nat) : (cutN m most inter k).length = k := by unfold cutN; simp
theorem cutN_at (m : Msg) (most : Nat) (inter : Bool) {k i : Nat} (h : i < k) : (cutN m most inter k)[i]? = some (pieceF m most inter i) := by
  unfold cutN
  rw [List.getElem?_map, List.getElem?_range h]
  rfl
theorem np_lt {n most i : Nat} (h : 1 ≤ most) : i < np n most ↔ i * most < n := by
  unfold np
  rw [Nat.lt_iff_add_one_le, Nat.le_div_iff_mul_le (by omega), Nat.add_mul]
  omega
theorem np_end {n most i : Nat} (h : 1 ≤ most) (h1 : i ≤ np n most) (h2 : n ≤ i * most) : i = np n most := by
  have := not_congr (np_lt (n := n) (i := i) h)
  omega
theorem np_le {n most : Nat} (h : 1 ≤ most) : np n most ≤ n := by
  have h1 := not_congr (np_lt (n := n) (i := n) h)
  have h2 : n ≤ n * most := Nat.le_mul_of_pos_right n (by omega)
  omega
theorem cutF_get {m : Msg} {most k : Nat} {inter : Bool} (h : k < (cutF m most inter).length) : (cutF m most inter)[k] = pieceF m most inter k := by
  have h1 := h
  unfold cutF at h1
  rw [cutN_length] at h1
  have h2 := cutN_at m most inter h1
  have h3 : (cutF m most inter)[k]? = some (pieceF m most inter k) := h2
  rw [List.getElem?_eq_getElem h] at h3
  injection h3
theorem pieceF_ok {m : Msg} (ok : m.ok) (most : Nat) (inter : Bool) {i : Nat} (hi : i < 4294967296) : (pieceF m most inter i).ok := by
  have h1 := ok.st
  have h2 := ok.mid
  have h3 := ok.pp
  refine ⟨?_, by show 0 < _; omega, h1, ?_, h3, ?_, by show 0 < _; omega, by show 0 < _; omega, by show 0 < _; omega, by show 0 < _; omega, fun _ h => by simp [pieceF, zeroC] at h, fun _ h => by simp [pieceF, zeroC] at h, fun _ h => by simp [pieceF, zeroC] at h, fun _ h => by simp [pieceF, zeroC] at h⟩
  · show (if inter = true then 64 else 0) < 256
    split <;> omega
  · show midF m inter < _
    unfold midF
    split <;> omega
  · show (if inter = true then i else 0) < _
    split <;> omega
/-- What Cut leaves. -/
def CutDone (w : World) (m : Msg) (most : Int) (inter : Bool) (e : Ending) (w' : World) : Prop :=
  ∃ (A : Option Addr) (n c : Nat), e = .returned (.tuple #[.slice A n c, .int .i64 (cutE m most inter : Int)]) ∧ n ≤ c ∧ c ≤ 9223372036854775807 ∧
    Hid (n = if cutE m most inter = 0 then np m.body.length most.toNat else 0) ∧ Hid (OwnCks w' w.heap.size (.slice A n c) (if cutE m most inter = 0 then cutF m most.toNat inter else [])) ∧ Hid (Below w.heap.size w w')
theorem cut_fails {w w' : World} {m : Msg} {most : Int} {inter : Bool} {k : Nat} (h : cutE m most inter = k) (hk : k ≠ 0) (hb : Below w.heap.size w w') : CutDone w m most inter (.returned (.tuple #[.slice none 0 0, .int .i64 (k : Int)])) w' :=
  ⟨none, 0, 0, by rw [h], Nat.le_refl _, by omega, by rw [h, if_neg hk]; exact rfl, by rw [h, if_neg hk]; exact OwnCks.nil _ _, hb⟩
theorem cut_does {w w' : World} {m : Msg} {most : Int} {inter : Bool} {A : Option Addr} {n c : Nat} (h : cutE m most inter = 0) (hn : n = np m.body.length most.toNat) (hnc : n ≤ c) (hc : c ≤ 9223372036854775807) (ho : OwnCks w' w.heap.size (.slice A n c) (cutF m most.toNat inter)) (hb : Below w.heap.size w w') : CutDone w m most inter (.returned (.tuple #[.slice A n c, .int .i64 0])) w' :=
  ⟨A, n, c, by rw [h]; rfl, hnc, hc, by rw [h, if_pos rfl]; exact hn, by rw [h, if_pos rfl]; exact ho, hb⟩
theorem blk_below {w w' : World} {B g : Nat} {t : TypeId} {cs : Array Value} (h : Blk w g t cs) (hb : Below B w w') (hg : g < B) : Blk w' g t cs := (hb.block g hg).trans h
section
variable {w : World} {g : Nat} {c : Ck} {gv dv sv pv bv : Value}
theorem set_kind (h : CkBlk w g (ckArr c gv dv sv pv bv)) (x : Nat) : CkBlk (w.setCell ⟨g, 0, none⟩ (.int .u8 (x : Int))) g (ckArr { c with kind := x } gv dv sv pv bv) := h.set_ 0 _
theorem set_mid (h : CkBlk w g (ckArr c gv dv sv pv bv)) (x : Nat) : CkBlk (w.setCell ⟨g, 7, none⟩ (.int .u32 (x : Int))) g (ckArr { c with mid := x } gv dv sv pv bv) := h.set_ 7 _
theorem set_fr (h : CkBlk w g (ckArr c gv dv sv pv bv)) (x : Nat) : CkBlk (w.setCell ⟨g, 9, none⟩ (.int .u32 (x : Int))) g (ckArr { c with fr := x } gv dv sv pv bv) := h.set_ 9 _
end
end Go.Proofs.Ytioddokjogbmnaa.Chk
namespace Go.Proofs.Ytioddokjogbmnaa.Chk
open Go.ChangeShapes Go.WideShapes Go.ChangeAt Go.RowKit Go.Deep Go.Proofs.Ytioddokjogbmnaa.Words Go.Proofs.Ytioddokjogbmnaa.Oct Go.Proofs.Ytioddokjogbmnaa.Par
abbrev TM : TypeId := 43
/-- The document's Cut in its loop: i pieces are cut. -/
structure RcSt (W1 V : World) (m : Msg) (M : Nat) (inter : Bool) (B i at_ k : Nat) (v : Value) : Prop where
  at_ : at_ = i * M
  le : i ≤ np m.body.length M
  k : k = i
  own : OwnCks V B v (cutN m M inter i)
  bel : Below W1.heap.size W1 V
end Go.Proofs.Ytioddokjogbmnaa.Chk
namespace Go.Proofs.Ytioddokjogbmnaa.Chk
open Go.ChangeShapes Go.WideShapes Go.ChangeAt Go.RowKit Go.Deep Go.Proofs.Ytioddokjogbmnaa.Words Go.Proofs.Ytioddokjogbmnaa.Oct Go.Proofs.Ytioddokjogbmnaa.Par
def CutC : Prop := ∀ {w : World} {A : Option Addr} {n c : Nat} {m : Msg} {most : Int} {inter : Bool}, m.ok → n = m.body.length → n ≤ c → c ≤ 9223372036854775807 → Byt w w.heap.size A m.body → (-9223372036854775808 ≤ most ∧ most ≤ 9223372036854775807) →
  Calls Try.prog 21 #[.agg (mCells m (.slice A n c)), .int .i64 most, .bool inter] w (CutDone w m most inter)
def RoomC : Prop := ∀ (w : World) (b : Bool), Calls Try.prog 45 #[.bool b] w fun e w' => e = .returned (.int .i64 (roomF b : Int)) ∧ w = w'
theorem msg_info : (Try.prog.info? 43).map (·.size) = some 5 := by kernel_rfl
theorem exec_load_any {P : Program} {ρ : Operand → Value} {o : Oper} {ty : TypeId} {x : Operand} {ad : Addr} {cs : Array Value} {d : TypeDesc} {w : World} (ho : o.op = .load ty x) (hx : ρ x = .pointer (some ad)) (hc : ∀ j v, cs[j]? = some v → w.cell? (ad.add j) = some v)
    (hu : P.underlying ty = some d) (hd : d.isRow = true) (hi : (P.info? ty).map (·.size) = some cs.size) : (execOp ρ o).run P w = .ok (.value (.agg cs)) w := by
  unfold execOp
  simp only [ho, hx, Instr.loadAt, Instr.sureAddr, Sem.run_bind, Sem.run_pure, Result.andThen_ok, run_loadVar_any w ad ty cs d hc hu hd hi]
/-- A row of chunks of a call's own, cell by cell. -/
theorem OwnCks.cells {w : World} {B n c : Nat} {A : Option Addr} {ls : List Ck} (h : OwnCks w B (.slice A n c) ls) (hn : 0 < ls.length) :
    ∃ g, A = some ⟨g, 0, none⟩ ∧ B ≤ g ∧ g < w.heap.size ∧ ∀ k c, ls[k]? = some c → ∃ cs : Array Value, CkAt w w.heap.size cs c ∧ ∀ j u, cs[j]? = some u → w.cell? ⟨g, k * 19 + j, none⟩ = some u := by
  obtain ⟨xs, h1, h2⟩ := h
  obtain ⟨g, cap, hv, hg1, hg2⟩ := h1.form (by omega)
  injection hv with hv _ _
  subst hv
  refine ⟨g, rfl, hg1, hg2, fun k c hk => ?_⟩
  obtain ⟨h3, cs, h4, h5⟩ := h2 k c hk
  exact ⟨cs, h5.at_ h3, fun j u hu => by
    have h6 := h1.cells (g := g) rfl _ _ (h4 j u hu)
    have e : (⟨g, 0, none⟩ : Addr).add (k * 19 + j) = ⟨g, k * 19 + j, none⟩ := by
      by_cases h0 : k * 19 + j = 0
      · rw [h0]; rfl
      · unfold Addr.add; simp; omega
    rw [← e]
    exact h6⟩
end Go.Proofs.Ytioddokjogbmnaa.Chk
namespace Go.Proofs.Ytioddokjogbmnaa.Words
open Go.ChangeShapes Go.WideShapes Go.ChangeAt Go.RowKit
section
variable {P : Program} {ops : Array Oper}
def defersNot (l : List Oper) : Bool := l.all fun o => match o.op with | .defer _ => false | _ => true
theorem defersNot_spec {l : List Oper} (h : defersNot l = true) : ∀ o, o ∈ l → ∀ c, o.op ≠ .defer c := by
  intro o ho c hc
  have := List.all_eq_true.1 h o ho
  rw [hc] at this
  cases this
theorem rowsIn_round {l n : Nat} {row : String} {args : Array Value} {w : World} {R : Value → World → Prop} (h : Rows P row args w R) : RowsIn (Fence.wide.inRound l) n P row args w R :=
  fun c cs _ => let ⟨v, w', r, s⟩ := h c cs; ⟨v, w', r, stepsIn_wide.2 s⟩
/-- An operation, carried out within a round. -/
theorem oper_round {l n : Nat} {o : Oper} {a : Act} {w : World} {K : Act → World → Prop} {Q : Exit → Act → World → Prop} (hd : ∀ c, o.op ≠ .defer c) (h : o.wp P a w K Q) : o.wpIn (Fence.wide.inRound l) n P a w K Q := by
  unfold Oper.wpIn
  refine ⟨fun f _ => trivial, ?_⟩
  rw [Fence.inRound_round, Oper.semAt_some l a.eval o hd]
  unfold Oper.wp at h
  generalize (execOp a.eval o).run P w = r at *
  have hdep : ∀ {p : Prop}, ((Fence.wide.inRound l).depth.isSome = true → p) := fun h => by cases h
  cases r with
  | ok x w' =>
    cases x <;> simp only [Oper.upon] at h <;> simp only [Oper.uponIn]
    case value => exact h
    case skip => exact h
    case defer => exact h
    case enter f args => exact ⟨hdep, CallsIn.inRound l (callsIn_wide.2 h)⟩
    case row row args => exact ⟨hdep, rowsIn_round h⟩
  | halt x w' =>
    cases x <;> simp only [Oper.upon] at h <;> simp only [Oper.uponIn]
    exact h
theorem wpAnyIn_round {l n : Nat} {md : Region.Mode} {Q : Exit → Act → World → Prop} (hQ : ¬ LetsOut Q) (hd : ∀ o, o ∈ ops.toList → ∀ c, o.op ≠ .defer c) :
    ∀ (fuel : Nat) (listed : Array Bool) (a : Act) (w : World), wpAny P md ops Q fuel listed a w → wpAnyIn (Fence.wide.inRound l) n P md ops Q fuel listed a w := by
  intro fuel
  induction fuel with
  | zero => intro listed a w h; exact h
  | succ fuel ih =>
    intro listed a w h
    refine ⟨h.1, fun i hi => ?_⟩
    have h2 := h.2 i hi
    unfold wpOp at h2
    unfold wpOpIn
    cases ho : ops[i]? with
    | none =>
      rw [ho] at h2
      exact ih _ _ _ h2
    | some o =>
      rw [ho] at h2
      simp only at h2 ⊢
      have hmem : o ∈ ops.toList := by
        obtain ⟨h1, h3⟩ := Array.getElem?_eq_some_iff.1 ho
        rw [← h3]
        simp
      split
      · rename_i hw
        rw [if_pos hw] at h2
        rcases h2 with h2 | h2
        · exact oper_round (hd o hmem) (Oper.wp_mono (fun a w h => ih _ a w h) h2)
        · exact absurd h2.2 hQ
      · rename_i hw
        rw [if_neg hw] at h2
        exact ⟨fun f _ => trivial, ih _ _ _ h2⟩
/-- The same as wp_region_stage_tail (XStageT), within a round. -/
theorem wpIn_region_stage_tail {lp kk : Nat} (n : Nat) (Rel : Nat → World → World → Prop) (S : Nat → World → Prop) {id : Nat} {a0 : Act} {w : World} {l : List Oper} {Q : Exit → Act → World → Prop} (specs : List Spec) (hm : P.follows .mixedOrders = true) (hB : growB l.toArray = true) (hC : chainB l.toArray (moversFrom 0 specs) = true)
    (hlen : specs.length = n) (hn : n ≤ l.length) (hT : tailB l.toArray n = true) (hseq : Region.seqB .any l.toArray (l.toArray.size - n) n (headL l.toArray.size n) = true) (hst0 : lastsT Rel 0 specs) (h0 : S 0 w.drew)
    (hQ : ¬ LetsOut Q) (hd : defersNot l = true) (h : StageTWalk P Rel S l.toArray (fun b w' => wpList P l.toArray Q (l.drop n) b w') (l.take n) specs 0 a0 []) : (Code.region id l.toArray true).wpIn (Fence.wide.inRound lp) kk P Q a0 w := by
  have hlt : (l.take n).length = specs.length := by rw [List.length_take, hlen]; omega
  have hst := lastsT_of specs 0 hst0
  have hB' := hB
  simp only [growB, Bool.and_eq_true] at hB'
  obtain ⟨⟨⟨hB1, hB2⟩, hB3⟩, hB4⟩ := hB'
  have hmem : ∀ j mv t, specs[j]? = some (mv, t) → (j ∈ moversFrom 0 specs ↔ mv = true) := fun j mv t hj => by
    rw [moversFrom_mem, Nat.sub_zero, hj]
    simp
  have hms : ∀ k ∈ moversFrom 0 specs, k < n := fun k hk => by
    have := ((moversFrom_mem specs 0 k).1 hk).2
    rw [Nat.sub_zero] at this
    rcases Nat.lt_or_ge k specs.length with h1 | h1
    · omega
    · rw [List.getElem?_eq_none h1] at this; cases this
  have hun0 : unlisted (Array.replicate l.toArray.size false) (List.range n) = n := by
    unfold unlisted
    have : (List.range n).countP (fun i => !(Array.replicate l.toArray.size false).getD i true) = (List.range n).length := by
      rw [List.countP_eq_length]
      intro i hi
      have hi' : i < n := by simpa using hi
      have : i < l.length := by omega
      simp [this]
    rw [this, List.length_range]
  have hgo := wpAny_stage_tail (P := P) (ops := l.toArray) (Q := Q) (Rel := Rel) (S := S) (ms := moversFrom 0 specs) (a0 := a0) (Φ := fun i v w' => match specs[i]? with | some x => x.2.holds v w' | none => True) n (by simpa using hn) hB hC hms hT hseq ?_ ?_ ?_ n (Array.replicate l.toArray.size false) a0 w.drew (by simp) hun0 (fun k _ hk => ?_) ⟨fun _ => undef, 0, ?_, h0, Nat.zero_le _, fun n k hk => ?_, fun i hi h => ?_, fun i o hi h => ?_⟩
  · refine wpIn_region_any hm (wpAnyIn_round hQ (defersNot_spec hd) _ _ _ _ ?_)
    rw [show n + (l.toArray.size - n) = l.toArray.size by simp; omega] at hgo
    exact hgo
  · intro i v w1 w2 m hrk hv hr
    cases hs : specs[i]? with
    | none => simp [hs]
    | some x =>
      simp only [hs] at hv ⊢
      refine hst i x hs m v w1 w2 (fun e => ?_) hv hr
      have him : i ∈ moversFrom 0 specs := (moversFrom_mem specs 0 i).2 ⟨Nat.zero_le _, by rw [Nat.sub_zero, hs]; simp [e]⟩
      obtain ⟨n', hn', hni⟩ := List.mem_iff_getElem.1 him
      have hn2 : (moversFrom 0 specs)[n']? = some i := by rw [List.getElem?_eq_getElem hn', hni]
      have h1 := (moversFrom_at specs 0 n' i hn2).2
      have h2 := hrk n' hn2
      rw [Nat.sub_zero] at h1
      omega
  · intro j o hj hjn
    have hj' : l[j]? = some o := by simpa using hj
    have hjt : (l.take n)[j]? = some o := by rw [List.getElem?_take, if_pos hjn]; exact hj'
    have hjl : j < l.length := (List.getElem?_eq_some_iff.1 hj').1
    obtain ⟨mv, t, hsj⟩ : ∃ mv t, specs[j]? = some (mv, t) := ⟨_, _, List.getElem?_eq_getElem (by omega)⟩
    intro vs w1 m hS hmv hf
    have hwalk := stageTWalk_at (specs := specs) vs (l.take n) specs 0 0 a0 hlt (fun i => by simp) (by simpa using h)
    have hob := hwalk.1 j o mv t hjt hsj w1 m hS (fun hmt => by
      have := (moversFrom_at specs 0 m j (hmv ((hmem j mv t hsj).2 hmt))).2
      rw [Nat.sub_zero] at this
      omega) (by
      rw [Nat.zero_add]
      refine leans_of j 0 (fun i _ hi hw u hu => ?_)
      have hi2 := hf i hw
      unfold toldsOf at hu
      rw [List.getElem?_map] at hu
      cases hsi : specs[i]? with
      | none => rw [hsi] at hu; cases hu
      | some x =>
        rw [hsi] at hu
        simp only [Option.map_some, Option.some.injEq] at hu
        subst hu
        simp only [hsi] at hi2
        exact hi2)
    rw [← puts_take n l 0 (fun i => decide (i < 0 + j)) (laidV (toldsOf specs) vs) a0 (fun i hi _ => by simp; omega)] at hob
    have hm3 := monoAll_spec l.toArray.toList 0 hB3 j o (by simpa using hj')
    rw [Nat.zero_add] at hm3
    have hag : Agree (o.looksAt l.toArray) (puts l.toArray.toList 0 (fun k => decide (k < j)) vs a0) (puts l 0 (fun i => decide (i < 0 + j)) (laidV (toldsOf specs) vs) a0) := by
      have gen : ∀ (r : List Oper) (k : Nat) (a b : Act), (∀ i x, r[i]? = some x → l[k + i]? = some x) → Agree (o.looksAt l.toArray) a b → Agree (o.looksAt l.toArray) (puts r k (fun k => decide (k < j)) vs a) (puts r k (fun i => decide (i < 0 + j)) (laidV (toldsOf specs) vs) b) := by
        intro r
        induction r with
        | nil => intro k a b _ hab; exact hab
        | cons x r ih =>
          intro k a b hr hab
          unfold puts
          refine ih (k + 1) _ _ (fun i y hy => by have := hr (i + 1) y (by simpa using hy); rwa [show k + 1 + i = k + (i + 1) by omega]) ?_
          rw [Nat.zero_add]
          by_cases hkj : k < j
          · rw [if_pos (by simpa using hkj), if_pos (by simpa using hkj)]
            have hx := hr 0 x (by simp)
            rw [Nat.add_zero] at hx
            by_cases hw : waits o k = true
            · have hk := hf k hw
              have e : laidV (toldsOf specs) vs k = vs k := by
                obtain ⟨mvk, tk, hsk⟩ : ∃ mv t, specs[k]? = some (mv, t) := ⟨_, _, List.getElem?_eq_getElem (by omega)⟩
                rw [laidV_of hsk]
                simp only [hsk] at hk
                cases tk with
                | exact u => exact hk.symm
                | grows R => rfl
              rw [e]
              exact hab.put _ _
            · have hla := monoFrom_spec l.toArray.toList 0 hm3 k x (by simpa using hx)
              rw [Nat.zero_add] at hla
              have hno : ∀ d, x.dst = some d → d ∉ o.looksAt l.toArray := by
                intro d hd hmem
                unfold looksApart at hla
                rw [hd] at hla
                simp only [Bool.or_eq_true, Bool.not_eq_true', List.contains_eq_mem, decide_eq_false_iff_not] at hla
                rcases hla with hla | hla
                · exact hla hmem
                · rw [if_pos hkj] at hla; exact hw hla
              exact ((hab.left _ _ hno).symm.left _ _ hno).symm
          · rw [if_neg (by simpa using hkj), if_neg (by simpa using hkj)]
            exact hab
      have := gen l 0 a0 a0 (fun i x hx => by rwa [Nat.zero_add]) ⟨rfl, fun _ _ => rfl⟩
      simpa using this
    have hmj := hmem j mv t hsj
    have hs2 : (match specs[j]? with | some x => x.2.holds undef w1 | none => True) = t.holds undef w1 := by rw [hsj]
    have hs3 : ∀ (v : Value) (w' : World), (Rel m w1 w' ∧ t.holds v w' ∧ S (if mv = true then m + 1 else m) w') → (Rel m w1 w' ∧ (match specs[j]? with | some x => x.2.holds v w' | none => True) ∧ ((j ∈ moversFrom 0 specs → S (m + 1) w') ∧ (j ∉ moversFrom 0 specs → S m w'))) := by
      rintro v w' ⟨h1, h2, h3⟩
      refine ⟨h1, by rw [hsj]; exact h2, fun hin => ?_, fun hin => ?_⟩
      · rw [if_pos (hmj.1 hin)] at h3; exact h3
      · rw [if_neg (fun e => hin (hmj.2 e))] at h3; exact h3
    rw [hag.wanted, hag.exec (fun cs b => Region.noSelect_spec hB2 j o cs b hj)]
    split at hob
    · rename_i hw
      rw [if_pos hw]
      generalize (execOp (puts l 0 (fun i => decide (i < 0 + j)) (laidV (toldsOf specs) vs) a0).eval o).run P w1 = rr at hob
      cases rr with
      | ok nx w' =>
        cases nx <;> simp only [Leaves] at hob ⊢
        case value v => exact hs3 _ _ hob
        case skip => exact hs3 _ _ hob
        case enter f args => exact hob.mono fun e w'' ⟨v, he, hv⟩ => ⟨v, he, hs3 _ _ hv⟩
      | halt x w' => simp only [Leaves] at hob
    · rename_i hw
      rw [if_neg hw]
      refine ⟨fun hin => ?_, by show (match specs[j]? with | some x => x.2.holds undef w1 | none => True); rw [hs2]; exact hob.2⟩
      rw [hmj.1 hin] at hob
      cases hob.1
  · intro vs w' hS hall
    have hwalk := stageTWalk_at (specs := specs) vs (l.take n) specs 0 0 a0 hlt (fun i => by simp) (by simpa using h)
    rw [moversFrom_len] at hS
    have hend := hwalk.2 w' (by rw [Nat.zero_add]; exact hS) (factsAll_of _ 0 (fun i _ hi u hu => by
      have hi2 := hall i (by simp only [List.length_take] at hi; omega)
      unfold toldsOf at hu
      rw [List.getElem?_map] at hu
      cases hsi : specs[i]? with
      | none => rw [hsi] at hu; cases hu
      | some x =>
        rw [hsi] at hu
        simp only [Option.map_some, Option.some.injEq] at hu
        subst hu
        simp only [hsi] at hi2
        exact hi2))
    have e : puts l.toArray.toList 0 (fun k => decide (k < n)) vs a0 = puts (l.take n) 0 (fun _ => true) (laidV (toldsOf specs) vs) a0 := by
      have gen : ∀ (r : List Oper) (k : Nat) (a : Act), k + r.length ≤ n → puts r k (fun _ => true) vs a = puts r k (fun _ => true) (laidV (toldsOf specs) vs) a := by
        intro r
        induction r with
        | nil => intros; rfl
        | cons x r ih =>
          intro k a hk
          unfold puts
          simp only [List.length_cons] at hk
          have e : laidV (toldsOf specs) vs k = vs k := by
            obtain ⟨mvk, tk, hsk⟩ : ∃ mv t, specs[k]? = some (mv, t) := ⟨_, _, List.getElem?_eq_getElem (by omega)⟩
            rw [laidV_of hsk]
            have := hall k (by omega)
            simp only [hsk] at this
            cases tk with
            | exact u => exact this.symm
            | grows R => rfl
          rw [e]
          exact ih (k + 1) _ (by omega)
      have h1 := puts_take n l 0 (fun k => decide (k < n)) vs a0 (fun i hi _ => by simp; omega)
      have h2 := puts_congr2 (l.take n) 0 (fun k => decide (k < n)) (fun _ => true) vs a0 (fun i _ hi => by rw [List.length_take] at hi; simp; omega)
      have h3 := gen (l.take n) 0 a0 (by rw [List.length_take]; omega)
      show puts l 0 (fun k => decide (k < n)) vs a0 = _
      rw [h1, h2, h3]
    rw [e]
    exact hend
  · have hk' : k < l.length := by simpa using hk
    simp [hk']
  · have : ∀ (l : List Oper) (k : Nat) (L : Nat → Bool) (vs : Nat → Value) (a : Act), (∀ i, i < l.length → L (k + i) = false) → puts l k L vs a = a := by
      intro l
      induction l with
      | nil => intros; rfl
      | cons o r ih =>
        intro k L vs a h
        unfold puts
        have h0 := h 0 (by simp)
        rw [Nat.add_zero] at h0
        rw [h0, if_neg (by decide)]
        exact ih (k + 1) L vs a (fun i hi => by have := h (i + 1) (by simpa using hi); rwa [show k + 1 + i = k + (i + 1) by omega])
    exact (this l.toArray.toList 0 _ _ a0 (fun i hi => by simp at hi; simp [hi])).symm
  · have hk' := chainB_size _ hC k (List.mem_of_getElem? hk)
    simp at hk'
    simp [hk']
  · have hi' : i < l.length := by simpa using hi
    exfalso
    simp [hi'] at h
  · have hi' : i < l.length := by
      have := (Array.getElem?_eq_some_iff.1 hi).1
      simpa using this
    exfalso
    simp [hi'] at h
end
end Go.Proofs.Ytioddokjogbmnaa.Words
namespace Go.Proofs.Ytioddokjogbmnaa.Words
open Go.ChangeShapes Go.WideShapes Go.ChangeAt Go.RowKit
/-- How a round is left. -/
def wentT (T : Nat → Prop) (I : Nat → World → Prop) (q : Nat) (W : World) : Exit → Act → World → Prop
  | .normal, _, W' => Fr T W W' ∧ I q W'
  | .ret, _, _ => False
  | .exit _, _, _ => False
  | .goto _, _, _ => False
  | .panic _, _, _ => False
  | .outgrown, _, _ => False
/-- What the iterator must do: hand out N times, one behind the other; it turns its own block bx alone. -/
def HandsT (P : Program) (gf : Nat) (lb : Array Value) (Enc : Nat → Array Value → Prop) (N bx : Nat) (T : Nat → Prop) (w : World) : Prop :=
  ∀ (l : Nat) (J : Nat → World → Prop) (W : World), w.heap.size ≤ l → l < W.heap.size → Below w.heap.size w W →
    (∀ q A A', J q A → Fr (fun k => k = bx) A A' → J q A') →
    (∀ q W1 xs, J q W1 → q < N → Enc q xs → YieldAt Fence.wide 2 P l xs W1 fun e W' => e = .returned (.bool true) ∧ J (q + 1) W' ∧ Fr (fun k => T k ∨ k = l) W1 W') →
    J 0 W → CallsIn Fence.wide 3 P gf (#[.func (.yield l) #[] #[]] ++ lb) W fun e W' => (∃ v, e = .returned v) ∧ J N W'
theorem frT_putObj {S : Nat → Prop} {W W' : World} (h : Fr S W W') {l : Nat} (hl : S l) (o : Obj) : Fr S W (W'.putObj l o) :=
  ⟨h.os, h.tape, h.output, by simpa using h.size, fun k hk hn => (World.putObj_heap_other (fun e => hn (by rw [e]; exact hl))).trans (h.block k hk hn)⟩
theorem wp_range_handsT {P : Program} {g : Operand} {ps : Array Tmp} {assign body : Code} {Q : Exit → Act → World → Prop} {a : Act} {w : World}
    {gf : Nat} {lb : Array Value} (hg : a.eval g = .func (.func gf) #[] lb) (eg : ∀ args w, (callFunc gf args).run P w = .ok (.enter gf args) w)
    {Enc : Nat → Array Value → Prop} {N bx : Nat} {T : Nat → Prop} (hT : ∀ k, T k → k ≠ w.heap.size ∧ k ≠ w.heap.size + 1) (hbx : bx < w.heap.size) (hps : ∀ q xs, Enc q xs → xs.size = ps.size) (hseq : HandsT P gf lb Enc N bx T w)
    (I : Nat → World → Prop) (hI : ∀ q A A', I q A → w.heap.size + 2 ≤ A.heap.size → Fr (fun k => k = bx ∨ k = w.heap.size ∨ k = w.heap.size + 1) A A' → I q A')
    (h0 : ∀ W1, Below w.heap.size w W1 → W1.heap.size = w.heap.size + 2 → I 0 W1) (Ax : Array Value → Nat → Act → World → Prop)
    (hAx : ∀ q a' A l r o, Ax a.tmps q a' A → A.heap[l]? = some (.loop r) → Ax a.tmps q a' (A.putObj l o))
    (hassign : ∀ (l q : Nat) (W : World) (xs : Array Value) (K : Act → World → Prop), q < N → Enc q xs → (∀ a' W', Fr (fun _ => False) W W' → Ax a.tmps q a' W' → K a' W') →
      assign.wpIn (Fence.wide.inRound l) 2 P (Exit.then K (fun _ _ _ => False)) { tmps := (ps.zip xs).foldl (fun t (x : Tmp × Value) => t.setIfInBounds x.1 x.2) a.tmps, defers := [] } W)
    (hbody : ∀ (l q : Nat) (a' : Act) (W : World), I q W → q < N → Ax a.tmps q a' W → w.heap.size + 2 ≤ W.heap.size → body.wpIn (Fence.wide.inRound l) 2 P (wentT T I (q + 1) W) a' W)
    (hdone : ∀ W : World, I N W → W.heap[w.heap.size]? = some (.deferred (some [])) → Q .normal { a with defers := { target := .collected w.heap.size, args := #[] } :: a.defers } W) :
    (Code.rangeFunc g ps assign body).wp P Q a w := by
  refine (wpIn_wide (n := 4)).1 ?_
  refine wpIn_rangeFunc ?_
  intro fn _
  obtain ⟨rec, hrec⟩ : ∃ rec : LoopState → Option Code → Loop, rec = fun s pe => { state := s, pending := pe, fn, tmps := a.tmps, params := ps, assign, body, defers := w.heap.size } := ⟨_, rfl⟩
  obtain ⟨W1, hW1⟩ : ∃ W1, (w.alloc (.deferred (some []))).alloc (.loop (rec .ready none)) = W1 := ⟨_, rfl⟩
  have hs1 : W1.heap.size = w.heap.size + 2 := by rw [← hW1]; simp
  have hL1 : W1.heap[w.heap.size + 1]? = some (.loop (rec .ready none)) := by
    rw [← hW1]
    have := World.alloc_heap_new (w.alloc (.deferred (some []))) (.loop (rec .ready none))
    rwa [World.size_alloc] at this
  have hK1 : W1.heap[w.heap.size]? = some (.deferred (some [])) := by
    rw [← hW1]
    exact (Below.heap_alloc _ _ _ (by simp)).trans (World.alloc_heap_new w _)
  have hb1 : Below w.heap.size w W1 := by rw [← hW1]; exact ((Below.refl _ w).alloc (Nat.le_refl _) _).alloc (by simp) _
  refine ⟨w.heap.size + 1, [{ target := .collected w.heap.size, args := #[] }], W1, { target := .fn (.func gf) lb, args := #[.func (.yield (w.heap.size + 1)) #[] #[]] }, W1, gf,
    #[.func (.yield (w.heap.size + 1)) #[] #[]] ++ lb, W1, ?_, ?_, ?_, ?_, (fun _ => by omega), ?_⟩
  · rw [← hW1, hrec]
    exact run_enterLoop_outer _ _ _ _ _
  · simp only [resolve, hg]
    simp [go_sem]
  · intro f' _
    trivial
  · simp [invoke, go_sem, eg]
  · obtain ⟨J, hJ⟩ : ∃ J : Nat → World → Prop, J = fun q W => I q W ∧ W.heap[w.heap.size + 1]? = some (.loop (rec .ready none)) ∧ W.heap[w.heap.size]? = some (.deferred (some [])) ∧ w.heap.size + 2 ≤ W.heap.size := ⟨_, rfl⟩
    refine (hseq (w.heap.size + 1) J W1 (by omega) (by omega) hb1 ?_ ?_ ?_).mono ?_
    · intro q A A' hj hb
      rw [hJ] at hj ⊢
      exact ⟨hI q A A' hj.1 hj.2.2.2 (hb.mono fun _ _ h => .inl h), (hb.block _ (by omega) (by omega)).trans hj.2.1, (hb.block _ (by omega) (by omega)).trans hj.2.2.1, Nat.le_trans hj.2.2.2 hb.size⟩
    · intro q W xs hj hq henc
      rw [hJ] at hj
      obtain ⟨hi, hl, hk, hsz⟩ := hj
      have hy := run_yield (P := P) (args := xs) hl (by rw [hrec]; simp [hps q xs henc])
      rw [hrec] at hy
      refine ⟨fn, _, assign, body, hy, roundIn_of_wpIn trivial (hassign _ q W xs _ hq henc ?_)⟩
      intro a' W' hfA hax
      have hszA := hfA.size
      have hlA : W'.heap[w.heap.size + 1]? = some (.loop (rec .ready none)) := (hfA.block _ (by omega) (fun h => h)).trans hl
      have hkA : W'.heap[w.heap.size]? = some (.deferred (some [])) := (hfA.block _ (by omega) (fun h => h)).trans hk
      have hiA : I q W' := hI _ _ _ hi hsz (hfA.mono fun x _ hx => hx.elim)
      refine ⟨_, run_beginRound hlA (by rw [hrec]), ?_⟩
      have hl2 : (W'.putObj (w.heap.size + 1) (.loop { rec .ready none with state := .busy })).heap[w.heap.size + 1]? = some (.loop { rec .ready none with state := .busy }) := World.putObj_heap_same (by omega)
      have hk2 : (W'.putObj (w.heap.size + 1) (.loop { rec .ready none with state := .busy })).heap[w.heap.size]? = some (.deferred (some [])) := (World.putObj_heap_other (by omega)).trans hkA
      refine wpIn_mono (hbody _ q a' _ (hI _ _ _ hiA (by omega) (frT_putObj (Fr.refl _ _) (.inr (.inr rfl)) _)) hq (hAx _ _ _ _ _ _ hax hlA) (by simp; omega)) ?_
      intro e a3 W3 hp
      cases e with
      | normal =>
        obtain ⟨hf, hi3⟩ := hp
        have hl3 := (hf.block (w.heap.size + 1) (by simp; omega) (fun h => (hT _ h).2 rfl)).trans hl2
        have hk3 := (hf.block w.heap.size (by simp; omega) (fun h => (hT _ h).1 rfl)).trans hk2
        have hr := run_endRound (P := P) none hl3
        rw [hrec] at hr
        refine ⟨_, _, hr, rfl, ?_, ?_⟩
        · rw [hJ]
          have hsz3 := hf.size
          simp only [World.putObj_size] at hsz3
          refine ⟨hI _ _ _ hi3 (by omega) (frT_putObj (Fr.refl _ _) (.inr (.inr rfl)) _), ?_, (World.putObj_heap_other (by omega)).trans hk3, by simp; omega⟩
          rw [hrec]
          exact World.putObj_heap_same (by omega)
        · refine frT_putObj ?_ (.inr rfl) _
          have h1 : Fr (fun k => T k ∨ k = w.heap.size + 1) W (W'.putObj (w.heap.size + 1) (.loop { rec .ready none with state := .busy })) := frT_putObj (hfA.mono (fun x _ hx => hx.elim)) (.inr rfl) _
          exact h1.trans hf (fun x _ hx => .inl hx)
      | ret => exact hp.elim
      | exit id => exact hp.elim
      | goto t => exact hp.elim
      | panic ch => exact hp.elim
      | outgrown => exact hp.elim
    · rw [hJ]
      exact ⟨h0 _ hb1 hs1, hL1, hK1, by omega⟩
    · rintro e W2 ⟨⟨v, rfl⟩, hj⟩
      rw [hJ] at hj
      obtain ⟨hi, hl, hk, hsz⟩ := hj
      have hr := run_endLoop (P := P) hl (by rw [hrec]; simp)
      rw [hrec] at hr
      exact ⟨none, _, hr, hdone _ (hI _ _ _ hi (by omega) (frT_putObj (Fr.refl _ _) (.inr (.inr rfl)) _)) ((World.putObj_heap_other (by omega)).trans hk)⟩
end Go.Proofs.Ytioddokjogbmnaa.Words
namespace Go.Proofs.Ytioddokjogbmnaa.Chk
attribute [local go_sem] Oper.semAt_some
open Go.ChangeShapes Go.WideShapes Go.ChangeAt Go.RowKit Go.Deep Go.Proofs.Ytioddokjogbmnaa.Words Go.Proofs.Ytioddokjogbmnaa.Oct Go.Proofs.Ytioddokjogbmnaa.Par
theorem room_c : RoomC := by
  intro w b
  cases b
  all_goals
    go_enter Try.func45, Try.ntmps45
    go_wp2_with fail
    go_ret
    exact ⟨rfl, rfl⟩
set_option maxHeartbeats 1000000 in
theorem bclone_as (A : Option Addr) (l : List UInt8) (n c : Nat) (w : World) (hn : n = l.length) (hl : n ≤ 1000000) (h : Byt w w.heap.size A l) :
    Calls Try.prog 32 #[.slice A n c] w fun e w' => (∃ v, e = .returned v ∧ Words.Own w' w.heap.size v l) ∧ Below w.heap.size w w' := by
  obtain ⟨i0, hi0, hz0, hz1, hz2⟩ := info_parts3 u8_info
  have hnil := fun (W : World) (a : Option Addr) (n c : Nat) => Lib.run_eql_slice_nil (P := Try.prog) W 39 5 a n c 0 0 Try.underlying39
  rcases A with _ | ad
  · have h0 : l = [] := by
      rcases Nat.eq_zero_or_pos l.length with h0 | h0
      · exact List.eq_nil_of_length_eq_zero h0
      · obtain ⟨ad, e, _⟩ := h.2 h0; cases e
    subst h0
    go_enter Try.func32, Try.ntmps32
    go_wp2
    go_ret
    exact ⟨⟨_, rfl, World.ownsRow_nil _ _ _ _⟩, Below.refl _ _⟩
  · have HB := Lib.hid h
    have HN := Lib.hid hn
    clear h hn
    go_enter Try.func32, Try.ntmps32
    go_wp2_with (at_builtin; refine wpList_append_any _ rfl (.tmp 5) (.tmp 6) _ rfl w.heap.size 5 i0 _ 1 1 Try.underlying39 hi0 hz0 hz1 hz2 rfl (by omega) (.slice (some ⟨w.heap.size, 0, none⟩) 0 0) 0 [] rfl (own_empty w _) w.heap.size (some ad) n c (u8s l) rfl (by have := HB.out; unfold Byt at this; rw [← HN.out] at this; exact this.alloc (Nat.le_refl _) _) (u8s_one l) (by simp only [maxLen]; omega) (by omega) (by simp) ?_; intro v1 w1 hown1 hg1 hat1)
    go_ret
    refine ⟨⟨v1, rfl, ?_⟩, ?_⟩
    · simp only [Nat.zero_add, List.nil_append] at hown1
      unfold Words.Own
      rw [← HN.out]
      exact hown1
    · exact ((Below.refl _ _).alloc (Nat.le_refl _) _).grown hg1 (by simp) (fun b e => by simp [Value.ownBlock] at e; omega)
theorem exec_build {P : Program} {ρ : Operand → Value} {o : Oper} {w : World} {t : TypeId} {parts : Array (Nat × Operand)} {cells : Array Value} (ho : o.op = .build t parts) (hf : P.built t (parts.map fun (i, x) => (i, ρ x)).toList = some cells) :
    (execOp ρ o).run P w = .ok (.value (.agg cells)) w := by
  unfold execOp
  simp only [ho, Sem.run_bind, run_build w t _ cells hf, Result.andThen_ok, Sem.run_pure]
theorem exec_build6 {P : Program} {ρ : Operand → Value} {o : Oper} {w : World} (t : TypeId) {x0 x3 x6 x7 x8 x18 : Operand} (ho : o.op = .build t #[(0, x0), (3, x3), (6, x6), (7, x7), (8, x8), (18, x18)]) (v0 v3 v6 v7 v8 v18 : Value)
    (h0 : ρ x0 = v0) (h3 : ρ x3 = v3) (h6 : ρ x6 = v6) (h7 : ρ x7 = v7) (h8 : ρ x8 = v8) (h18 : ρ x18 = v18) (cells : Array Value) (hf : P.built t [(0, v0), (3, v3), (6, v6), (7, v7), (8, v8), (18, v18)] = some cells) :
    (execOp ρ o).run P w = .ok (.value (.agg cells)) w := by
  subst h0 h3 h6 h7 h8 h18
  exact exec_build ho (by simpa using hf)
theorem exec_buildSlice {P : Program} {ρ : Operand → Value} {o : Oper} {w : World} (t e : TypeId) (len : Nat) (parts : Array (Nat × Operand)) (ho : o.op = .buildSlice t len parts) (cells : Array Value) (ie : TypeInfo) (z : Value)
    (hu : P.underlying t = some (.slice e)) (hie : P.info? e = some ie) (hz : ie.zero = some z) (hsmall : ¬ len * ie.size > 2 ^ 24) (hpos : ¬ len * ie.size = 0)
    (hf : Instr.fill (fun i => some (i * ie.size, ie.size)) ((Array.range (len * ie.size)).map (z.cells[· % z.cells.size]!)) (parts.map fun (i, x) => (i, ρ x)).toList = some cells) :
    (execOp ρ o).run P w = .ok (.value (.slice (some ⟨w.heap.size, 0, none⟩) len len)) (w.alloc (.cells cells e)) := by
  unfold execOp
  simp only [ho, Sem.run_bind, run_buildSlice w t e len _ cells ie z hu hie hz hsmall hpos hf, Result.andThen_ok, Sem.run_pure]
theorem exec_slice_ck {ρ : Operand → Value} {o : Oper} {w : World} (x : Operand) (ho : o.op = .buildSlice 26 1 #[(0, x)]) (cs : Array Value) (hx : ρ x = .agg cs) (hcs : ∃ c gv dv sv pv bv, cs = ckArr c gv dv sv pv bv) :
    (execOp ρ o).run Try.prog w = .ok (.value (.slice (some ⟨w.heap.size, 0, none⟩) 1 1)) (w.alloc (.cells cs 41)) := by
  obtain ⟨c, gv, dv, sv, pv, bv, rfl⟩ := hcs
  obtain ⟨i, hi, hz, hs, _⟩ := info_parts3 chunk_info3
  refine exec_buildSlice 26 41 1 #[(0, x)] ho (ckArr c gv dv sv pv bv) i (.agg zeroA) Try.underlying26 hi hz (by rw [hs]; decide) (by rw [hs]; decide) ?_
  rw [hs]
  have e : ((#[(0, x)] : Array (Nat × Operand)).map fun (i, x) => (i, ρ x)).toList = [(0, .agg (ckArr c gv dv sv pv bv))] := by simp [hx]
  rw [e]
  exact fill_ck c gv dv sv pv bv
theorem exec_alloc_ck {ρ : Operand → Value} {o : Oper} {w : World} (ho : o.op = .alloc 41) : (execOp ρ o).run Try.prog w = .ok (.value (.pointer (some ⟨w.heap.size, 0, none⟩))) (w.alloc (.cells zeroA 41)) := by
  have h : ∀ W, (Instr.alloc 41 true (.tuple #[])).run Try.prog W = .ok (.pointer (some ⟨W.heap.size, 0, none⟩)) (W.alloc (.cells zeroA 41)) := fun W => by
    obtain ⟨i, hi, hz, hs, _⟩ := info_parts3 chunk_info3
    go_simp
    rfl
  unfold execOp
  simp [ho, h]
/-- The parts of a fragment, but its kind. -/
theorem frag_built (lo : Bool) (st mid pp : Nat) (b : List UInt8) (A : Option Addr) (n c : Nat) : Try.prog.built 41 [(0, .int .u8 0), (3, .bool lo), (6, .int .u16 (st : Int)), (7, .int .u32 (mid : Int)), (8, .int .u32 (pp : Int)), (18, .slice A n c)] = some (ckArr { zeroC 0 with lo := lo, st := st, mid := mid, pp := pp, body := b } nilV nilV nilV nilV (.slice A n c)) := by kernel_rfl
/-- The cells of a chunk that has a body alone, as a value. -/
def FrV (B : Nat) (C : Ck) (l : List UInt8) (v : Value) (W : World) : Prop := ∃ bv, v = .agg (ckArr C nilV nilV nilV nilV bv) ∧ Words.Own W B bv l
theorem FrV.grows {B : Nat} {C : Ck} {l : List UInt8} {v : Value} {W W' : World} (h : FrV B C l v W) (k : Below W.heap.size W W') : FrV B C l v W' := by
  obtain ⟨bv, rfl, h1⟩ := h
  exact ⟨bv, rfl, (Fr.of_below k).own h1 (fun g hg hi => by have := (h1.lt g hg).2; omega)⟩
theorem own_ne {w : World} {B g : Nat} {v : Value} {l : List UInt8} {cs : Array Value} (h : Words.Own w B v l) (hb : CkBlk w g cs) : ∀ b, v.ownBlock = some b → b ≠ g := by
  rintro b hv rfl
  rcases h.2 with ⟨hh, _⟩ | ⟨g', cap, cur, h1, h2, h3, h4⟩
  · rw [hh] at hv
    simp [Value.ownBlock] at hv
  · subst h1
    simp only [Value.ownBlock, Option.some.injEq] at hv
    subst hv
    have h5 : w.heap[g']? = some (.cells cs 41 (0, 0)) := hb
    rw [h3] at h5
    injection h5 with h5
    injection h5 with _ h6
    exact absurd h6 (by decide)
/-- A chunk's variable, just made. -/
def ZroC (B : Nat) (v : Value) (W : World) : Prop := ∃ g, v = .pointer (some ⟨g, 0, none⟩) ∧ B ≤ g ∧ CkBlk W g zeroA
theorem ZroC.grows {B : Nat} {v : Value} {W W' : World} (h : ZroC B v W) (k : Below W.heap.size W W') : ZroC B v W' := by
  obtain ⟨g, rfl, h1, h2⟩ := h
  exact ⟨g, rfl, h1, h2.below k h2.lt⟩
theorem below_one (w : World) (o : Obj) : Below w.heap.size w (w.alloc o) := (Below.refl _ _).alloc (Nat.le_refl _) _
def OwnV (B : Nat) (l : List UInt8) (v : Value) (W : World) : Prop := Words.Own W B v l
theorem OwnV.grows {B : Nat} {l : List UInt8} {v : Value} {W W' : World} (h : OwnV B l v W) (k : Below W.heap.size W W') : OwnV B l v W' := by
  have h' : Words.Own W B v l := h
  exact (Fr.of_below k).own h' (fun g hg hi => by have := (h'.lt g hg).2; omega)
/-- What fragment answers. -/
def fragC (m : Msg) (i : Nat) (l : List UInt8) (inter : Bool) : Ck := { zeroC (if inter = true then 64 else 0) with lo := m.lo, st := m.st, mid := midF m inter, pp := m.pp, fr := if inter = true then i else 0, body := l }
set_option maxHeartbeats 8000000 in
set_option maxRecDepth 100000 in
theorem fragment_any {w : World} {A A0 : Option Addr} {n c n0 c0 i : Nat} {l : List UInt8} {m : Msg} {inter : Bool} (ok : m.ok) (hi : i < 4294967296) (hn : n = l.length) (hl6 : n ≤ 1000000) (hy : Byt w w.heap.size A l) :
    Calls Try.prog 47 #[.agg (mCells m (.slice A0 n0 c0)), .int .i64 (i : Int), .slice A n c, .bool inter] w fun e w' => (∃ cs, e = .returned (.agg cs) ∧ CkOwn w' w.heap.size cs (fragC m i l inter)) ∧ Below w.heap.size w w' := by
  have st1 := ok.st
  have mid1 := ok.mid
  have pp1 := ok.pp
  have HY := Lib.hid hy
  have HN := Lib.hid hn
  obtain ⟨mst, hst⟩ : ∃ x, x = m.st := ⟨_, rfl⟩
  obtain ⟨mlo, hlo⟩ : ∃ x, x = m.lo := ⟨_, rfl⟩
  obtain ⟨mmid, hmid⟩ : ∃ x, x = m.mid := ⟨_, rfl⟩
  obtain ⟨mpp, hpp⟩ : ∃ x, x = m.pp := ⟨_, rfl⟩
  have HFC : Hid (fragC m i l inter = { zeroC (if inter = true then 64 else 0) with lo := mlo, st := mst, mid := (if inter = true then mmid else mmid % 65536), pp := mpp, fr := if inter = true then i else 0, body := l }) := by
    show fragC m i l inter = _
    rw [hst, hlo, hmid, hpp]
    rfl
  simp only [mCells, ← hst, ← hlo, ← hmid, ← hpp]
  rw [← hst] at st1
  rw [← hmid] at mid1
  rw [← hpp] at pp1
  obtain ⟨W1, hW1⟩ : ∃ W1, W1 = (w.alloc (.cells #[.int .u16 (mst : Int), .bool mlo, .int .u32 (mmid : Int), .int .u32 (mpp : Int), .slice A0 n0 c0] TM)).alloc (.cells zeroA 41) := ⟨_, rfl⟩
  obtain ⟨gm, hgm⟩ : ∃ g, g = w.heap.size := ⟨_, rfl⟩
  have HB1 : Hid (Below w.heap.size w W1) := by rw [hW1]; exact ((Below.refl _ w).alloc (Nat.le_refl _) _).alloc (by simp) _
  have HM1 : Hid (Blk W1 gm TM #[.int .u16 (mst : Int), .bool mlo, .int .u32 (mmid : Int), .int .u32 (mpp : Int), .slice A0 n0 c0]) := by
    rw [hW1, hgm]
    exact (Blk.new w _ _).below (below_one _ _) (by simp)
  have HR1 : Hid (CkBlk W1 (gm + 1) zeroA) := by
    rw [hW1, hgm]
    have := Blk.new (w.alloc (.cells #[.int .u16 (mst : Int), .bool mlo, .int .u32 (mmid : Int), .int .u32 (mpp : Int), .slice A0 n0 c0] TM)) 41 zeroA
    rw [World.size_alloc] at this
    exact this
  have HSZ1 : Hid (W1.heap.size = gm + 2) := by show _ = _; rw [hW1, hgm]; simp
  have HGM := Lib.hid hgm
  clear hst hlo hmid hpp ok hy hn
  go_enter Try.func47, Try.ntmps47
  go_upto_region 1 with (fail)
  have hW2 : W1 = (w.alloc (.cells #[.int .u16 (mst : Int), .bool mlo, .int .u32 (mmid : Int), .int .u32 (mpp : Int), .slice A0 n0 c0] 43)).alloc (.cells #[.int .u8 0, .bool false, .bool false, .bool false, .bool false, .int .u32 0, .int .u16 0, .int .u32 0, .int .u32 0, .int .u32 0, .int .u32 0, .int .u32 0, .int .u16 0, .int .u16 0, .slice none 0 0, .slice none 0 0, .slice none 0 0, .slice none 0 0, .slice none 0 0] 41) := hW1
  rw [← hW2]
  rw [show (w.heap.size + 1 : Nat) = gm + 1 by rw [hgm], ← hgm]
  clear hW1 hW2 hgm
  have HST : Hid (Below W1.heap.size W1 W1.drew) := Below.drew (Below.refl _ _)
  have HCM : Hid (∀ V, Below W1.heap.size W1 V → V.cell? ⟨gm, 0, none⟩ = some (.int .u16 (mst : Int)) ∧ V.cell? ⟨gm, 1, none⟩ = some (.bool mlo) ∧ V.cell? ⟨gm, 2, none⟩ = some (.int .u32 (mmid : Int)) ∧ V.cell? ⟨gm, 3, none⟩ = some (.int .u32 (mpp : Int))) := fun V h => by
    have := blk_below HM1.out h HM1.out.lt
    exact ⟨this.cell 0, this.cell 1, this.cell 2, this.cell 3⟩
  have HBY : Hid (∀ V, Below W1.heap.size W1 V → Byt V V.heap.size A l) := fun V h => by
    have hb := HB1.out.trans (h.mono HB1.out.size)
    exact (HY.out.below hb).more hb.size
  refine wp_region_stage_tail 12 (fun _ V V' => Below V.heap.size V V') (fun m V => Hid (Below W1.heap.size W1 V)) [(false, .exact (.pointer (some ⟨gm, 1, none⟩))),
      (false, .exact (.bool mlo)),
      (false, .exact (.pointer (some ⟨gm, 0, none⟩))),
      (false, .exact (.int .u16 (mst : Int))),
      (false, .exact (.pointer (some ⟨gm, 2, none⟩))),
      (false, .exact (.int .u32 (mmid : Int))),
      (false, .exact (.pointer (some ⟨gm, 3, none⟩))),
      (false, .exact (.int .u32 (mpp : Int))),
      (false, .exact (.slice A n c)),
      (false, .grows (OwnV W1.heap.size l)),
      (false, .grows (FrV W1.heap.size { zeroC 0 with lo := mlo, st := mst, mid := mmid, pp := mpp, body := l } l)),
      (false, .grows (ZroC W1.heap.size))] (by kernel_rfl) (by kernel_rfl) (by kernel_rfl) rfl (of_decide_eq_true (by kernel_rfl)) (by kernel_rfl) (by kernel_rfl) ?lasts ?start ?walk
  case lasts => exact ⟨fun m v V V' _ h k => h.grows k, fun m v V V' _ h k => h.grows k, fun m v V V' _ h k => h.grows k, trivial⟩
  case start => exact HST
  case walk =>
    simp only [List.take_succ_cons, List.take_zero, List.drop_succ_cons, List.drop_zero]
    refine stageT_pure rfl (fun _ V => Below.refl _ V) (fun V m hS hl => by go_simp) ?_
    simp only [Act.put, List.setIfInBounds_toArray, List.set_cons_zero, List.set_cons_succ, List.cons_append, List.nil_append]
    refine stageT_pure rfl (fun _ V => Below.refl _ V) (fun V m hS hl => by
        have hc := (HCM.out V hS.out).2.1
        go_simp) ?_
    simp only [Act.put, List.setIfInBounds_toArray, List.set_cons_zero, List.set_cons_succ, List.cons_append, List.nil_append]
    refine stageT_pure rfl (fun _ V => Below.refl _ V) (fun V m hS hl => by go_simp) ?_
    simp only [Act.put, List.setIfInBounds_toArray, List.set_cons_zero, List.set_cons_succ, List.cons_append, List.nil_append]
    refine stageT_pure rfl (fun _ V => Below.refl _ V) (fun V m hS hl => by
        have hc := (HCM.out V hS.out).1
        go_simp) ?_
    simp only [Act.put, List.setIfInBounds_toArray, List.set_cons_zero, List.set_cons_succ, List.cons_append, List.nil_append]
    refine stageT_pure rfl (fun _ V => Below.refl _ V) (fun V m hS hl => by go_simp) ?_
    simp only [Act.put, List.setIfInBounds_toArray, List.set_cons_zero, List.set_cons_succ, List.cons_append, List.nil_append]
    refine stageT_pure rfl (fun _ V => Below.refl _ V) (fun V m hS hl => by
        have hc := (HCM.out V hS.out).2.2.1
        go_simp) ?_
    simp only [Act.put, List.setIfInBounds_toArray, List.set_cons_zero, List.set_cons_succ, List.cons_append, List.nil_append]
    refine stageT_pure rfl (fun _ V => Below.refl _ V) (fun V m hS hl => by go_simp) ?_
    simp only [Act.put, List.setIfInBounds_toArray, List.set_cons_zero, List.set_cons_succ, List.cons_append, List.nil_append]
    refine stageT_pure rfl (fun _ V => Below.refl _ V) (fun V m hS hl => by
        have hc := (HCM.out V hS.out).2.2.2
        go_simp) ?_
    simp only [Act.put, List.setIfInBounds_toArray, List.set_cons_zero, List.set_cons_succ, List.cons_append, List.nil_append]
    refine stageT_pure rfl (fun _ V => Below.refl _ V) (fun V m hS hl => by go_simp) ?_
    simp only [Act.put, List.setIfInBounds_toArray, List.set_cons_zero, List.set_cons_succ, List.cons_append, List.nil_append]
    refine stageT_grows rfl (fun V m hS hl => by
        go_simp
        refine (bclone_as A l n c V HN.out hl6 (HBY.out V hS.out)).mono ?_
        rintro e V' ⟨⟨v, rfl, ho⟩, hb⟩
        exact ⟨_, rfl, hb, own_mono ho hS.out.size, hS.out.trans (hb.mono hS.out.size)⟩) (fun v19 => ?_)
    simp only [Act.put, List.setIfInBounds_toArray, List.set_cons_zero, List.set_cons_succ, List.cons_append, List.nil_append]
    refine stageT_grows rfl (fun V m hS hl => by
        show Words.Leaves _ _ _
        have ho := (hl.1 (by kernel_rfl))
        obtain ⟨A9, c9, rfl, h9a, h9b⟩ := own_slice ho
        rw [exec_build6 41 rfl (.int .u8 0) (.bool mlo) (.int .u16 (mst : Int)) (.int .u32 (mmid : Int)) (.int .u32 (mpp : Int)) (.slice A9 l.length c9) rfl rfl rfl rfl rfl rfl _ (frag_built mlo mst mmid mpp l A9 l.length c9)]
        exact ⟨Below.refl _ _, ⟨_, rfl, ho⟩, hS.out⟩) (fun v20 => ?_)
    simp only [Act.put, List.setIfInBounds_toArray, List.set_cons_zero, List.set_cons_succ, List.cons_append, List.nil_append]
    refine stageT_grows rfl (fun V m hS hl => by
        show Words.Leaves _ _ _
        rw [exec_alloc_ck rfl]
        exact ⟨below_one V _, ⟨_, rfl, hS.out.size, Blk.new V _ _⟩, hS.out.trans ((below_one V _).mono hS.out.size)⟩) (fun v9 => ?_)
    simp only [Act.put, List.setIfInBounds_toArray, List.set_cons_zero, List.set_cons_succ, List.cons_append, List.nil_append]
    refine stageT_nil (fun V2 hS hF => ?_)
    have hF2 : OwnV W1.heap.size l v19 V2 ∧ FrV W1.heap.size { zeroC 0 with lo := mlo, st := mst, mid := mmid, pp := mpp, body := l } l v20 V2 ∧ ZroC W1.heap.size v9 V2 ∧ True := hF
    obtain ⟨bv, rfl, ho⟩ := hF2.2.1
    obtain ⟨g, rfl, hgB, hgb⟩ := hF2.2.2.1
    have hne := own_ne ho hgb
    obtain ⟨A9, c9, rfl, h9a, h9b⟩ := own_slice ho
    obtain ⟨C, hC⟩ : ∃ C : Ck, C = { zeroC 0 with lo := mlo, st := mst, mid := mmid, pp := mpp, body := l } := ⟨_, rfl⟩
    rw [← hC]
    have HC := Lib.hid hC
    have HO := Lib.hid ho
    have HNE := Lib.hid hne
    have HS2 := Lib.hid hS.out
    have HGB := Lib.hid hgb
    have HGL := Lib.hid hgB
    obtain ⟨bv, hbv⟩ : ∃ bv, bv = Value.slice A9 l.length c9 := ⟨_, rfl⟩
    have HONE : Hid ((ckArr C nilV nilV nilV nilV bv).all (·.oneCell') = true) := by show _ = true; rw [hbv]; simp [ckArr, Value.oneCell']
    rw [← hbv] at HO HNE ⊢
    have HBV := Lib.hid hbv
    clear hS hF HST hF2 ho hne hC hgb hgB hbv
    show wpList _ _ _ _ _ _
    obtain ⟨W3, hW3⟩ : ∃ W, W = V2.setRow g (ckArr C nilV nilV nilV nilV bv) := ⟨_, rfl⟩
    have HC3 : Hid (CkBlk W3 g (ckArr C nilV nilV nilV nilV bv)) := by show CkBlk _ _ _; rw [hW3]; exact setRow_blk HGB.out
    have HF3 : Hid (Fr (fun k => k = g) V2 W3) := by show Fr _ _ _; rw [hW3]; exact setRow_fr _ _ _
    have HW3 := Lib.hid hW3
    clear hW3
    go_upto_if 21 with (refine wpList_store_row rfl 41 _ _ rfl g (ckArr C nilV nilV nilV nilV bv) rfl rfl 41 _ HGB.out chunk_info rfl HONE.out ?_; rw [← HW3.out])
    go_cut [] from 22 to 30 (fun wx => ∃ C', C' = { C with kind := if inter = true then 64 else 0, mid := if inter = true then mmid else mmid % 65536, fr := if inter = true then i else 0 } ∧ Hid (CkBlk wx g (ckArr C' nilV nilV nilV nilV bv)) ∧ Hid (Fr (fun k => k = g) V2 wx))
    case first =>
      have HGM1 : Hid (gm < V2.heap.size ∧ ¬ gm = g) := ⟨Nat.lt_of_lt_of_le (by have := HSZ1.out; omega) HS2.out.size, fun e => by have := HSZ1.out; have := HGL.out; omega⟩
      have ms : W3.cell? ⟨gm, 2, none⟩ = some (.int .u32 (mmid : Int)) := (World.cell?_of_block (HF3.out.block gm HGM1.out.1 HGM1.out.2)).trans (HCM.out V2 HS2.out).2.2.1
      cases inter
      · have cf : W3.cell? ⟨g, 7, none⟩ = some (.int .u32 (C.mid : Int)) := HC3.out.cell 7
        have zf := Blk.frozen HC3.out 7
        go_wp2_with fail
        rw [show IntKind.u16.wrap (mmid : Int) % 4294967296 = ((mmid % 65536 : Nat) : Int) by simp [IntKind.wrap, IntKind.bits, IntKind.signed]; omega]
        go_meet
        refine ⟨{ C with mid := mmid % 65536 }, by rw [HC.out]; rfl, ?_, HF3.out.setCell (p := ⟨g, 7, none⟩) (.inl rfl) _⟩
        exact set_mid HC3.out (mmid % 65536)
      · have cf : W3.cell? ⟨g, 0, none⟩ = some (.int .u8 (C.kind : Int)) := HC3.out.cell 0
        have cf9 : W3.cell? ⟨g, 9, none⟩ = some (.int .u32 (C.fr : Int)) := HC3.out.cell 9
        have zf := Blk.frozen HC3.out 0
        have zf9 := Blk.frozen HC3.out 9
        go_wp2_with fail
        go_meet
        refine ⟨{ C with kind := 64, fr := i }, by rw [HC.out]; rfl, ?_, (HF3.out.setCell (p := ⟨g, 0, none⟩) (.inl rfl) _).setCell (p := ⟨g, 9, none⟩) (.inl rfl) _⟩
        exact set_fr (set_kind HC3.out 64) i
    case rest =>
      obtain ⟨C', hC', HC4, HF4⟩ := hcut
      have HC' := Lib.hid hC'
      clear hC'
      obtain ⟨W4, hW4⟩ : ∃ W, W = wc := ⟨_, rfl⟩
      rw [← hW4] at HC4 HF4 ⊢
      clear hW4
      have HR4 : Hid (CkBlk W4 (gm + 1) zeroA) := HF4.out.blk (HR1.out.below HS2.out HR1.out.lt) (fun e => by have := HSZ1.out; have := HGL.out; omega)
      have HON4 : Hid ((ckArr C' nilV nilV nilV nilV bv).all (·.oneCell') = true) := by show _ = true; rw [HBV.out]; simp [ckArr, Value.oneCell']
      go_wp2_with (first | refine wpList_load_row rfl 41 _ rfl g rfl 41 (ckArr C' nilV nilV nilV nilV bv) (0, 0) _ HC4.out Try.underlying41 rfl chunk_info ?_ | refine wpList_store_row rfl 41 _ _ rfl (gm + 1) (ckArr C' nilV nilV nilV nilV bv) rfl rfl 41 _ HR4.out chunk_info rfl HON4.out ?_)
      (try simp only [Exit.inBlock, Exit.then])
      refine bodyPost_ret (results_cell_row rfl _ _ (gm + 1) 41 (ckArr C' nilV nilV nilV nilV bv) (0, 0) _ rfl (setRow_blk HR4.out) Try.underlying41 rfl chunk_info) rfl ?_
      have hf := (HF4.out.mono (T := fun k => k = g ∨ k = gm + 1) (fun _ _ h => .inl h)).trans (setRow_fr W4 (gm + 1) (ckArr C' nilV nilV nilV nilV bv)) (fun _ _ h => .inr h)
      have hgl : gm + 2 ≤ g := by have := HSZ1.out; have := HGL.out; omega
      have hown : Words.Own (W4.setRow (gm + 1) (ckArr C' nilV nilV nilV nilV bv)) W1.heap.size bv l := hf.own HO.out (fun b hb e => by
        rcases e with e | e
        · exact HNE.out b hb e
        · have := (HO.out.lt b hb).1; have := HSZ1.out; omega)
      have he : C' = fragC m i l inter := by
        rw [HFC.out, HC'.out, HC.out]
        rfl
      refine ⟨⟨_, rfl, ?_⟩, below_fr (HB1.out.trans (HS2.out.mono HB1.out.size)) hf (Nat.le_refl _) (fun x hx => by have := HGM.out; rcases hx with hx | hx <;> omega)⟩
      rw [he] at hown ⊢
      exact ⟨nilV, nilV, nilV, nilV, bv, rfl, nilG, nilD, nilS, OwnPs.nil _ _, own_mono hown HB1.out.size⟩
theorem pieces_any (A : Option Addr) (n c M : Nat) (w : World) : Calls Try.prog 46 #[.slice A n c, .int .i64 (M : Int)] w fun e w' =>
    e = .returned (.func (.func 68) #[] #[.pointer (some ⟨w.heap.size, 0, none⟩), .pointer (some ⟨w.heap.size + 1, 0, none⟩)]) ∧ w' = (w.alloc (.cells #[.slice A n c] 39)).alloc (.cells #[.int .i64 (M : Int)] 3) := by
  go_enter Try.func46, Try.ntmps46
  go_wp2
  go_ret
  exact ⟨rfl, rfl⟩
/-- The q-th piece's bytes. -/
def pcB (L : List UInt8) (M q : Nat) : List UInt8 := (L.drop (q * M)).take M
/-- What is handed out at a time. -/
def EncP (w : World) (B : Nat) (L : List UInt8) (M : Nat) (q : Nat) (xs : Array Value) : Prop :=
  ∃ a k c, xs = #[.int .i64 (q : Int), .slice a k c] ∧ k = (pcB L M q).length ∧ k ≤ c ∧ c ≤ 9223372036854775807 ∧ Byt w B a (pcB L M q)
/-- Where the iterator is. -/
structure PSt (w0 : World) (J : Nat → World → Prop) (L : List UInt8) (M bx mx B : Nat) (T : Nat → Prop) (l : Nat) (W wr : World) (q m c : Nat) (a : Option Addr) : Prop where
  blk : Blk wr bx 39 #[.slice a m c]
  mblk : Blk wr mx 3 #[.int .i64 (M : Int)]
  byt : Byt w0 B a (L.drop (q * M))
  j : J q wr
  fr : Fr (fun k => T k ∨ k = l ∨ k = bx) W wr
set_option maxRecDepth 20000 in
set_option maxHeartbeats 4000000 in
theorem pieces_hands {L : List UInt8} {n c M bx mx B : Nat} {A : Option Addr} {T : Nat → Prop} {w : World} (hM : 1 ≤ M) (hM2 : M ≤ 1172) (hn : n = L.length) (hn1 : n ≤ 65536) (hnc : n ≤ c) (hc : c ≤ 9223372036854775807)
    (hbx : Blk w bx 39 #[.slice A n c]) (hmx : Blk w mx 3 #[.int .i64 (M : Int)]) (hbm : bx ≠ mx) (hB : B ≤ bx) (hB2 : B ≤ mx) (hT : ∀ k, T k → B ≤ k ∧ k ≠ bx ∧ k ≠ mx) (hy : Byt w B A L) :
    HandsT Try.prog 68 #[.pointer (some ⟨bx, 0, none⟩), .pointer (some ⟨mx, 0, none⟩)] (EncP w B L M) (np n M) bx T w := by
  intro l J W hl1 hl2 hbW hJ hY h0
  refine callsIn_wide.2 ?_
  show Calls Try.prog 68 #[.func (.yield l) #[] #[], .pointer (some ⟨bx, 0, none⟩), .pointer (some ⟨mx, 0, none⟩)] W _
  have hbl := hbx.lt
  have hml := hmx.lt
  have HP0 : Hid (PSt w J L M bx mx B T l W W 0 n c A) := ⟨hbx.below hbW hbl, hmx.below hbW hml, by simpa using hy, h0, Fr.refl _ _⟩
  have HTM : Hid (∀ k, T k ∨ k = l → k ≠ bx ∧ k ≠ mx) := fun k hk => by
    rcases hk with hk | rfl
    · exact (hT k hk).2
    · exact ⟨by omega, by omega⟩
  have HBM := Lib.hid hbm
  have HN := Lib.hid hn
  have HJ := Lib.hid hJ
  have HY := Lib.hid hY
  clear hbx hmx hbm hB hB2 hT hy hl1 hl2 hbW hJ hY h0 hbl hml hn
  go_enter Try.func68, Try.ntmps68
  go_wp2_with fail
  go_loopw [4, 5] (fun i _ wr => ∃ (q m c : Nat) (a : Option Addr), i = .int .i64 (q : Int) ∧ q ≤ 65536 ∧ m ≤ 65536 ∧ m ≤ c ∧ c ≤ 9223372036854775807 ∧ Hid (m = n - q * M) ∧ Hid (q ≤ np n M) ∧ Hid (PSt w J L M bx mx B T l W wr q m c a)) (fun i _ _ => 70000 - (intOf i).toNat)
  case atStart => exact ⟨0, n, c, A, rfl, by omega, by omega, hnc, hc, by show _ = _; omega, Nat.zero_le _, HP0⟩
  case round =>
    clear hnc hc HP0
    obtain ⟨q, m, c, a, rfl, hq, hm, hmc, hcm, HM, HQ, HP⟩ := hrel
    have cb : wr.cell? ⟨bx, 0, none⟩ = some (.slice a m c) := HP.out.blk.cell 0
    have cm : wr.cell? ⟨mx, 0, none⟩ = some (.int .i64 (M : Int)) := HP.out.mblk.cell 0
    by_cases h0 : 0 < m
    · obtain ⟨k, hk⟩ : ∃ k, k = min M m := ⟨_, rfl⟩
      have hkk : (M ≤ m ∧ k = M) ∨ (m < M ∧ k = m) := by omega
      have hk1 : 1 ≤ k := by omega
      have hk2 : k ≤ m := by omega
      have HK := Lib.hid hk
      clear hk
      go_upto_region 3 with (fail)
      go_cut [5] from 11 to 14 (fun u wx => u = .int .i64 (k : Int) ∧ wr = wx)
      case first =>
        rcases hkk with ⟨g1, g2⟩ | ⟨g1, g2⟩
        all_goals
          have g3 := Lib.hid g2
          clear g2 hk1 hk2
          go_wp2_with fail
          go_meet
          exact ⟨by rw [g3.out]; (try rfl), rfl⟩
      case rest =>
        obtain ⟨rfl, rfl⟩ := hcut
        clear hkk
        have hml : m = (L.drop (q * M)).length := by rw [List.length_drop, ← HN.out]; exact HM.out
        have hkl : k = (pcB L M q).length := by unfold pcB; rw [List.length_take, ← hml]; exact HK.out
        have hqN : q < np n M := (np_lt hM).2 (by have := HM.out; omega)
        obtain ⟨fn, tm, asg, bdy, hy, hR⟩ := HY.out q wr #[.int .i64 (q : Int), .slice a k c] HP.out.j hqN ⟨a, k, c, rfl, hkl, by omega, hcm, HP.out.byt.take_ M⟩
        have HQN := Lib.hid hqN
        have HML := Lib.hid hml
        have hq1 : q < 65536 := by have := np_le (n := n) hM; omega
        clear hml hkl hqN
        go_upto_region 4 with (fail)
        refine (wpIn_wide (n := 3)).1 ?_
        obtain ⟨F, hF⟩ : ∃ F, F = Fence.wide := ⟨_, rfl⟩
        have hro : F.round = none := by rw [hF]; rfl
        have hfn : ∀ f, F.fn f := fun f => by rw [hF]; trivial
        rw [← hF] at hR ⊢
        clear hF HY
        have h13 : 1 ≤ 3 := by omega
        gi_wp2_with fail
        refine hR.mono ?_
        rintro ee W3 ⟨rfl, hj3, hf3⟩
        have hb3 : Blk W3 bx 39 #[.slice a m c] := hf3.blk HP.out.blk (fun e => (HTM.out _ e).1 rfl)
        have hm3 : Blk W3 mx 3 #[.int .i64 (M : Int)] := hf3.blk HP.out.mblk (fun e => (HTM.out _ e).2 rfl)
        have HB3 := Lib.hid hb3
        have HM3 := Lib.hid hm3
        have HJ3 := Lib.hid hj3
        have HF3 := Lib.hid hf3
        have cb3 : W3.cell? ⟨bx, 0, none⟩ = some (.slice a m c) := HB3.out.cell 0
        have zb3 := Blk.frozen HB3.out 0
        clear hR hy hj3 hf3 cb cm hb3 hm3
        gi_wp2
        go_wp2
        go_roundw
        case rel =>
          have hml := HML.out
          have hkd := HK.out
          have hmd := HM.out
          have hqd := HQN.out
          have e1 : (q + 1) * M = q * M + M := by rw [Nat.add_mul, Nat.one_mul]
          have e2 : (L.drop (q * M)).drop k = L.drop ((q + 1) * M) := by
            rw [List.drop_drop, e1]
            rcases Nat.le_total M m with h | h
            · rw [show k = M by omega]
            · rw [List.length_drop] at hml
              rw [List.drop_of_length_le (by omega), List.drop_of_length_le (by omega)]
          have hby := HP.out.byt.cut_ (k := k) (cap := c) (by rw [← hml]; exact hk2) (by rw [← hml]; exact hmc)
          rw [e2] at hby
          exact ⟨q + 1, m - k, c - k, _, by go_num, by omega, by omega, by omega, by omega, by show _ = _; omega, hqd, HB3.out.set_ 0 _, Blk.far HM3.out (p := ⟨bx, 0, none⟩) (by first | exact HBM.out | exact fun e => HBM.out e.symm) _, hby,
            HJ.out _ _ _ HJ3.out ((Fr.refl (fun k => k = bx) W3).setCell (p := ⟨bx, 0, none⟩) (.inl rfl) _), (HP.out.fr.trans HF3.out (fun _ _ h => h.elim .inl (fun h => .inr (.inl h)))).setCell (p := ⟨bx, 0, none⟩) (.inl (.inr (.inr rfl))) _⟩
        case measure => simp [intOf]; omega
    · have hqe : q = np n M := np_end hM HQ.out (by have := HM.out; omega)
      have HFIN : Hid (J (np n M) wr) := by show J _ _; rw [← hqe]; exact HP.out.j
      clear hqe
      go_wp2
      go_end0
      exact ⟨⟨_, rfl⟩, HFIN.out⟩
end Go.Proofs.Ytioddokjogbmnaa.Chk
namespace Go.Proofs.Ytioddokjogbmnaa.Chk
attribute [local go_sem] Oper.semAt_some
open Go.ChangeShapes Go.WideShapes Go.ChangeAt Go.RowKit Go.Deep Go.Proofs.Ytioddokjogbmnaa.Words Go.Proofs.Ytioddokjogbmnaa.Oct Go.Proofs.Ytioddokjogbmnaa.Par
/-- The pieces without marks. -/
def fragN (m : Msg) (M : Nat) (inter : Bool) (q : Nat) : List Ck := (List.range q).map fun i => fragC m i (pcB m.body M i) inter
theorem fragN_succ (m : Msg) (M : Nat) (inter : Bool) (q : Nat) : fragN m M inter (q + 1) = fragN m M inter q ++ [fragC m q (pcB m.body M q) inter] := by
  unfold fragN
  rw [List.range_succ, List.map_append]
  rfl
theorem fragN_length (m : Msg) (M : Nat) (inter : Bool) (q : Nat) : (fragN m M inter q).length = q := by unfold fragN; simp
theorem fragN_at (m : Msg) (M : Nat) (inter : Bool) {q i : Nat} (h : i < q) : (fragN m M inter q)[i]? = some (fragC m i (pcB m.body M i) inter) := by
  unfold fragN
  rw [List.getElem?_map, List.getElem?_range h]
  rfl
def bgC (c : Ck) : Ck := { c with bg := true }
def enC (c : Ck) : Ck := { c with en := true }
theorem fragN_marked {m : Msg} {M : Nat} {inter : Bool} (hM : 1 ≤ M) (h0 : 0 < m.body.length) : ((fragN m M inter (np m.body.length M)).modify 0 bgC).modify (np m.body.length M - 1) enC = cutF m M inter := by
  obtain ⟨N, hN⟩ : ∃ N, N = np m.body.length M := ⟨_, rfl⟩
  have hN0 : 0 < N := by rw [hN]; exact (np_lt hM).2 (by omega)
  unfold cutF
  rw [← hN]
  apply List.ext_getElem?
  intro i
  rw [List.getElem?_modify, List.getElem?_modify]
  by_cases hi : i < N
  · rw [fragN_at _ _ _ hi, cutN_at _ _ _ hi]
    have h1 : m.body.length ≤ (i + 1) * M ↔ N - 1 = i := by
      have h := not_congr (np_lt (n := m.body.length) (i := i + 1) hM)
      rw [← hN] at h
      omega
    have e : pieceF m M inter i = { fragC m i (pcB m.body M i) inter with bg := decide (0 = i), en := decide (N - 1 = i) } := by
      rw [← decide_eq_decide.2 h1, decide_eq_decide.2 (eq_comm (a := 0) (b := i))]
      rfl
    rw [e]
    simp only [Option.map_eq_map, Option.map_some]
    by_cases h2 : 0 = i <;> by_cases h3 : N - 1 = i
    · rw [if_pos h2, if_pos h3, decide_eq_true h2, decide_eq_true h3]; rfl
    · rw [if_pos h2, if_neg h3, decide_eq_true h2, decide_eq_false h3]; rfl
    · rw [if_neg h2, if_pos h3, decide_eq_false h2, decide_eq_true h3]; rfl
    · rw [if_neg h2, if_neg h3, decide_eq_false h2, decide_eq_false h3]; rfl
  · rw [List.getElem?_eq_none (by rw [fragN_length]; omega), List.getElem?_eq_none (by rw [cutN_length]; omega)]
    rfl
theorem fragC_ok {m : Msg} (ok : m.ok) (inter : Bool) {i : Nat} (l : List UInt8) (hi : i < 4294967296) : (fragC m i l inter).ok := by
  have h := pieceF_ok ok 1 inter (i := i) hi
  exact ⟨h.kind, h.tsn, h.st, h.mid, h.pp, h.fr, h.tag, h.win, h.out, h.inn, h.gaps, h.dups, h.skips, h.ps⟩
/-- A flag of a chunk in a row of the call's own is set. -/
theorem OwnCks.mark {w : World} {B g c k j : Nat} {ls : List Ck} {f : Ck → Ck} {u : Value} (hj : j < 14) (hf : ∀ c gv dv sv pv bv, (ckArr c gv dv sv pv bv).setIfInBounds j u = ckArr (f c) gv dv sv pv bv) (hok : ∀ c, c.ok → (f c).ok)
    (hl : ∀ c, (f c).gaps = c.gaps ∧ (f c).dups = c.dups ∧ (f c).skips = c.skips ∧ (f c).ps = c.ps ∧ (f c).body = c.body) (h : OwnCks w B (.slice (some ⟨g, 0, none⟩) ls.length c) ls) :
    OwnCks (w.setCell ⟨g, k * 19 + j, none⟩ u) B (.slice (some ⟨g, 0, none⟩) ls.length c) (ls.modify k f) := by
  obtain ⟨xs, h1, h2⟩ := h
  obtain ⟨h3, h4⟩ := h1.stored (k * 19 + j) u
  refine ⟨xs.set (k * 19 + j) u, by rw [List.length_modify]; exact h3, fun i c' hc' => ?_⟩
  rw [List.getElem?_modify] at hc'
  cases hi : ls[i]? with
  | none => rw [hi] at hc'; cases hc'
  | some c0 =>
    rw [hi] at hc'
    simp only [Option.map_eq_map, Option.map_some, Option.some.injEq] at hc'
    obtain ⟨ok, cs, hcs, hown⟩ := h2 i c0 hi
    have hown' := hown.beside h1 h4
    by_cases hki : k = i
    · rw [if_pos hki] at hc'
      subst hki hc'
      obtain ⟨gv, dv, sv, pv, bv, rfl, r1, r2, r3, r4, r5⟩ := hown'
      obtain ⟨l1, l2, l3, l4, l5⟩ := hl c0
      refine ⟨hok _ ok, ckArr (f c0) gv dv sv pv bv, fun j' u' hu' => ?_, gv, dv, sv, pv, bv, rfl, by rw [l1]; exact r1, by rw [l2]; exact r2, by rw [l3]; exact r3, by rw [l4]; exact r4, by rw [l5]; exact r5⟩
      rw [← hf, Array.getElem?_setIfInBounds] at hu'
      split at hu'
      · rename_i e
        subst e
        have hlt : k * 19 + j < xs.length := by
          have h5 := h1.1
          have h6 := (List.getElem?_eq_some_iff.1 hi).1
          rw [h5]
          have : (k + 1) * 19 ≤ ls.length * 19 := Nat.mul_le_mul_right _ h6
          omega
        split at hu'
        · rw [List.getElem?_set_self hlt]
          exact hu'
        · cases hu'
      · rename_i e
        rw [List.getElem?_set_ne (by omega)]
        exact hcs j' u' hu'
    · rw [if_neg hki] at hc'
      subst hc'
      refine ⟨ok, cs, fun j' u' hu' => ?_, hown'⟩
      have hj' : j' < 19 := by have := (Array.getElem?_eq_some_iff.1 hu').1; rw [hown.size] at this; exact this
      rw [List.getElem?_set_ne (by omega)]
      exact hcs j' u' hu'
theorem OwnCks.bg {w : World} {B g c k : Nat} {ls : List Ck} (h : OwnCks w B (.slice (some ⟨g, 0, none⟩) ls.length c) ls) : OwnCks (w.setCell ⟨g, k * 19 + 1, none⟩ (.bool true)) B (.slice (some ⟨g, 0, none⟩) ls.length c) (ls.modify k bgC) :=
  OwnCks.mark (by omega) (fun _ _ _ _ _ _ => rfl) (fun c h => ⟨h.kind, h.tsn, h.st, h.mid, h.pp, h.fr, h.tag, h.win, h.out, h.inn, h.gaps, h.dups, h.skips, h.ps⟩) (fun _ => ⟨rfl, rfl, rfl, rfl, rfl⟩) h
theorem OwnCks.en {w : World} {B g c k : Nat} {ls : List Ck} (h : OwnCks w B (.slice (some ⟨g, 0, none⟩) ls.length c) ls) : OwnCks (w.setCell ⟨g, k * 19 + 2, none⟩ (.bool true)) B (.slice (some ⟨g, 0, none⟩) ls.length c) (ls.modify k enC) :=
  OwnCks.mark (by omega) (fun _ _ _ _ _ _ => rfl) (fun c h => ⟨h.kind, h.tsn, h.st, h.mid, h.pp, h.fr, h.tag, h.win, h.out, h.inn, h.gaps, h.dups, h.skips, h.ps⟩) (fun _ => ⟨rfl, rfl, rfl, rfl, rfl⟩) h
theorem OwnCks.frz {w : World} {B g c : Nat} {ls : List Ck} (h : OwnCks w B (.slice (some ⟨g, 0, none⟩) ls.length c) ls) (j : Nat) : w.frozen? ⟨g, j, none⟩ = false := by
  obtain ⟨xs, h1, _⟩ := h
  exact h1.frozenAt j
theorem OwnCks.flag {w : World} {B g c k j : Nat} {ls : List Ck} (h : OwnCks w B (.slice (some ⟨g, 0, none⟩) ls.length c) ls) (hk : k < ls.length) (hj : j < 19) : ∃ u, w.cell? ⟨g, k * 19 + j, none⟩ = some u := by
  obtain ⟨xs, h1, _⟩ := h
  have h2 : (k + 1) * 19 ≤ ls.length * 19 := Nat.mul_le_mul_right _ hk
  have h3 : k * 19 + j < xs.length := by rw [h1.1]; omega
  rw [h1.cellAt (k * 19 + j) (by omega), List.getElem?_eq_getElem h3]
  exact ⟨_, rfl⟩
/-- A slice of one chunk, just built. -/
def LdV (B : Nat) (C : Ck) (v : Value) (W : World) : Prop := ∃ g cs, v = .slice (some ⟨g, 0, none⟩) 1 1 ∧ B ≤ g ∧ CkBlk W g cs ∧ CkOwn W B cs C
theorem LdV.grows {B : Nat} {C : Ck} {v : Value} {W W' : World} (h : LdV B C v W) (k : Below W.heap.size W W') : LdV B C v W' := by
  obtain ⟨g, cs, rfl, h1, h2, h3⟩ := h
  exact ⟨g, cs, rfl, h1, h2.below k h2.lt, h3.grows k⟩
/-- The cells of a chunk of the call's own, as a value. -/
def CkV (B : Nat) (C : Ck) (v : Value) (W : World) : Prop := ∃ cs, v = .agg cs ∧ CkOwn W B cs C
theorem CkV.grows {B : Nat} {C : Ck} {v : Value} {W W' : World} (h : CkV B C v W) (k : Below W.heap.size W W') : CkV B C v W' := by
  obtain ⟨cs, rfl, h1⟩ := h
  exact ⟨cs, rfl, h1.grows k⟩
/-- Cut in its loop: q pieces are cut. -/
structure CSt (w : World) (m : Msg) (v : Value) (M : Nat) (inter : Bool) (gm q : Nat) (W : World) : Prop where
  var : ∃ As cp, Blk W (gm + 2) 26 #[.slice As q cp] ∧ q ≤ cp ∧ cp ≤ 9223372036854775807 ∧ OwnCks W (gm + 7) (.slice As q cp) (fragN m M inter q)
  msg : Blk W gm TM (mCells m v)
  int : Blk W (gm + 1) 4 #[.bool inter]
  below : Below w.heap.size w W
theorem CSt.fr {w W W' : World} {m : Msg} {v : Value} {M : Nat} {inter : Bool} {gm q : Nat} (h : CSt w m v M inter gm q W) (hg : gm = w.heap.size) (k : Fr (fun k => k = gm + 3 ∨ k = gm + 5 ∨ k = gm + 6) W W') : CSt w m v M inter gm q W' := by
  obtain ⟨⟨As, cp, h1, h2, h3, h4⟩, h5, h6, h7⟩ := h
  exact ⟨⟨As, cp, k.blk h1 (by omega), h2, h3, h4.fr k (fun i hi _ => by omega)⟩, k.blk h5 (by omega), k.blk h6 (by omega), below_fr h7 k (Nat.le_refl _) (fun x hx => by omega)⟩
set_option maxHeartbeats 8000000 in
set_option maxRecDepth 100000 in
theorem cut_c : CutC := by
  intro w A n c m most inter ok hn hnc hc hy hmost
  obtain ⟨j0, hj0, hjz0, hjz1, hjz2⟩ := info_parts3 chunk_info3
  have HB1 : Hid (Below w.heap.size w ((w.alloc (.cells (mCells m (.slice A n c)) TM)).alloc (.cells #[.bool inter] 4))) := ((Below.refl _ w).alloc (Nat.le_refl _) _).alloc (by simp) _
  have HM1 : Hid (Blk ((w.alloc (.cells (mCells m (.slice A n c)) TM)).alloc (.cells #[.bool inter] 4)) w.heap.size TM (mCells m (.slice A n c))) := (Blk.new w _ _).below (below_one _ _) (by simp)
  have HI1 : Hid (Blk ((w.alloc (.cells (mCells m (.slice A n c)) TM)).alloc (.cells #[.bool inter] 4)) (w.heap.size + 1) 4 #[.bool inter]) := by
    have := Blk.new (w.alloc (.cells (mCells m (.slice A n c)) TM)) 4 #[.bool inter]
    rw [World.size_alloc] at this
    exact this
  have HY := Lib.hid hy
  have HN := Lib.hid hn
  have HOK := Lib.hid ok
  have st1 := ok.st
  have mid1 := ok.mid
  have pp1 := ok.pp
  obtain ⟨mst, hst⟩ : ∃ x, x = m.st := ⟨_, rfl⟩
  obtain ⟨mlo, hlo⟩ : ∃ x, x = m.lo := ⟨_, rfl⟩
  obtain ⟨mmid, hmid⟩ : ∃ x, x = m.mid := ⟨_, rfl⟩
  obtain ⟨mpp, hpp⟩ : ∃ x, x = m.pp := ⟨_, rfl⟩
  have HMC : Hid (∀ v, mCells m v = #[.int .u16 (mst : Int), .bool mlo, .int .u32 (mmid : Int), .int .u32 (mpp : Int), v]) := fun v => by rw [hst, hlo, hmid, hpp]
  simp only [mCells, ← hst, ← hlo, ← hmid, ← hpp] at HB1 HM1 HI1 ⊢
  rw [← hst] at st1
  rw [← hmid] at mid1
  rw [← hpp] at pp1
  have HE : Hid (∀ k, (if most < 1 ∨ (roomF inter : Int) < most then 2 else if n = 0 then 42 else if 65536 < n then 43 else 0) = k → cutE m most inter = k) := by
    intro k hk
    unfold cutE
    rw [← HN.out]
    exact hk
  clear hst hlo hmid hpp ok hy hn
  obtain ⟨W1, hW1⟩ : ∃ W1, W1 = (w.alloc (.cells #[.int .u16 (mst : Int), .bool mlo, .int .u32 (mmid : Int), .int .u32 (mpp : Int), .slice A n c] TM)).alloc (.cells #[.bool inter] 4) := ⟨_, rfl⟩
  rw [← hW1] at HB1 HM1 HI1
  have hsz1 : W1.heap.size = w.heap.size + 2 := by rw [hW1]; simp
  have HSZ1 := Lib.hid hsz1
  have HW1 := Lib.hid hW1
  obtain ⟨gm, hgm⟩ : ∃ gm, gm = w.heap.size := ⟨_, rfl⟩
  rw [← hgm] at HM1 HI1
  have HGM := Lib.hid hgm
  have HRL := roomF_le inter
  have HRM := Lib.hid (fun V => room_c V inter)
  obtain ⟨rm, hrm⟩ : ∃ rm, rm = roomF inter := ⟨_, rfl⟩
  rw [← hrm] at HRL HE
  simp only [← hrm] at HRM
  clear hrm hW1 hsz1 hgm
  by_cases h1 : most < 1
  · go_enter Try.func21, Try.ntmps21
    go_upto_region 1 with (fail)
    rw [← HW1.out, ← HGM.out]
    have b4 : W1.cell? ⟨gm, 4, none⟩ = some (.slice A n c) := HM1.out.cell 4
    go_wp2_with fail
    go_ret2
    exact cut_fails (HE.out 2 (by rw [if_pos (.inl h1)])) (by decide) HB1.out
  by_cases h2 : (rm : Int) < most
  · go_enter Try.func21, Try.ntmps21
    go_upto_region 1 with (fail)
    rw [← HW1.out, ← HGM.out]
    have b4 : W1.cell? ⟨gm, 4, none⟩ = some (.slice A n c) := HM1.out.cell 4
    have bi : W1.cell? ⟨gm + 1, 0, none⟩ = some (.bool inter) := HI1.out.cell 0
    go_wp2_with fail
    refine (HRM.out W1).mono ?_
    rintro e V ⟨rfl, rfl⟩
    go_wp2_with fail
    go_ret2
    exact cut_fails (HE.out 2 (by rw [if_pos (.inr h2)])) (by decide) HB1.out
  have h12 : ¬ (most < 1 ∨ (rm : Int) < most) := by omega
  by_cases h3 : n = 0
  · have H3 := Lib.hid h3
    clear h3
    go_enter Try.func21, Try.ntmps21
    go_upto_region 1 with (fail)
    rw [← HW1.out, ← HGM.out]
    have b4 : W1.cell? ⟨gm, 4, none⟩ = some (.slice A n c) := HM1.out.cell 4
    have bi : W1.cell? ⟨gm + 1, 0, none⟩ = some (.bool inter) := HI1.out.cell 0
    have h3' : ((n : Int) == 0) = true := by have := H3.out; simp; omega
    go_wp2_with fail
    refine (HRM.out W1).mono ?_
    rintro e V ⟨rfl, rfl⟩
    go_wp2_with fail
    go_ret2
    exact cut_fails (HE.out 42 (by rw [if_neg h12, if_pos H3.out])) (by decide) HB1.out
  by_cases h4 : 65536 < n
  · have h4' : (65536 : Int) < (n : Int) := by omega
    have h3' : ¬ (n : Int) = 0 := by omega
    go_enter Try.func21, Try.ntmps21
    go_upto_region 1 with (fail)
    rw [← HW1.out, ← HGM.out]
    have b4 : W1.cell? ⟨gm, 4, none⟩ = some (.slice A n c) := HM1.out.cell 4
    have bi : W1.cell? ⟨gm + 1, 0, none⟩ = some (.bool inter) := HI1.out.cell 0
    go_wp2_with fail
    refine (HRM.out W1).mono ?_
    rintro e V ⟨rfl, rfl⟩
    go_wp2_with fail
    go_ret2
    exact cut_fails (HE.out 43 (by rw [if_neg h12, if_neg h3, if_pos h4])) (by decide) HB1.out
  have HE0 : Hid (cutE m most inter = 0) := HE.out 0 (by rw [if_neg h12, if_neg h3, if_neg h4])
  clear HE
  obtain ⟨M, rfl⟩ : ∃ M : Nat, most = (M : Int) := ⟨most.toNat, by omega⟩
  have hM1 : 1 ≤ M := by omega
  have hM2 : M ≤ 1172 := by omega
  have hn1 : n ≤ 65536 := by omega
  have h3' : ¬ (n : Int) = 0 := by omega
  clear h1 h12 hmost
  refine (callsIn_wide (n := 4)).1 ?_
  refine callsIn_of_wp_marks Try.func21 rfl trivial ?_ rfl
  simp only [Try.ntmps21, List.size_toArray, List.length_cons, List.length_nil, Nat.reduceAdd, Nat.reduceSub, Array.replicate_succ, Array.replicate_zero, List.push_toArray, List.append_toArray, List.nil_append, List.cons_append]
  refine wpIn_wide.2 ?_
  go_upto_region 1 with (fail)
  rw [← HW1.out, ← HGM.out]
  have b4 : W1.cell? ⟨gm, 4, none⟩ = some (.slice A n c) := HM1.out.cell 4
  have bi : W1.cell? ⟨gm + 1, 0, none⟩ = some (.bool inter) := HI1.out.cell 0
  go_wp2_with fail
  refine (HRM.out W1).mono ?_
  rintro e V ⟨rfl, rfl⟩
  go_upto_region 7 with (fail)
  have hn0 : 0 < n := by omega
  have hgs : W1.heap.size = gm + 2 := by rw [HSZ1.out, HGM.out]
  clear h2 h3 h3' h4 HRL HRM
  generalize ((n : Int) == 0) = d1
  generalize decide ((65536 : Int) < (n : Int)) = d2
  generalize decide (rm < M) = d3
  generalize decide ((M : Int) < 1) = d4
  obtain ⟨W2, hW2⟩ : ∃ W2, W2 = W1.alloc (.cells #[.slice none 0 0] 26) := ⟨_, rfl⟩
  have hs2 : W2.heap.size = gm + 3 := by rw [hW2, World.size_alloc, hgs]
  have hb2 : Below W1.heap.size W1 W2 := by rw [hW2]; exact below_one _ _
  have HV2 : Hid (Blk W2 (gm + 2) 26 #[.slice none 0 0]) := by
    show Blk _ _ _ _
    rw [hW2, ← hgs]
    exact Blk.new _ _ _
  have HM2 := Lib.hid (blk_below HM1.out hb2 HM1.out.lt)
  have HI2 := Lib.hid (blk_below HI1.out hb2 HI1.out.lt)
  have HB2 := Lib.hid (HB1.out.trans (hb2.mono HB1.out.size))
  go_upto_region 8 with (fail)
  rw [← hW2]
  clear hW2 hb2 b4 bi hgs
  have b4 : W2.cell? ⟨gm, 4, none⟩ = some (.slice A n c) := HM2.out.cell 4
  have HPC := Lib.hid (pieces_any A n c M W2)
  go_wp2_with fail
  refine HPC.out.mono ?_
  rintro e W5 ⟨rfl, hW5⟩
  (try rw [hs2])
  have hs5 : W5.heap.size = gm + 5 := by rw [hW5, World.size_alloc, World.size_alloc, hs2]
  have hb5 : Below W2.heap.size W2 W5 := by rw [hW5]; exact ((Below.refl _ W2).alloc (Nat.le_refl _) _).alloc (by simp) _
  have HX5 : Hid (Blk W5 (gm + 3) 39 #[.slice A n c]) := by
    show Blk _ _ _ _
    rw [hW5, ← hs2]
    exact (Blk.new W2 _ _).below (below_one _ _) (by simp)
  have HZ5 : Hid (Blk W5 (gm + 4) 3 #[.int .i64 (M : Int)]) := by
    show Blk _ _ _ _
    rw [hW5]
    have := Blk.new (W2.alloc (.cells #[.slice A n c] 39)) 3 #[.int .i64 (M : Int)]
    rw [World.size_alloc, hs2] at this
    exact this
  have HV5 := Lib.hid (blk_below HV2.out hb5 HV2.out.lt)
  have HM5 := Lib.hid (blk_below HM2.out hb5 HM2.out.lt)
  have HI5 := Lib.hid (blk_below HI2.out hb5 HI2.out.lt)
  have HB5 := Lib.hid (HB2.out.trans (hb5.mono HB2.out.size))
  have HY5 : Hid (Byt W5 gm A m.body) := by
    have := HY.out.below HB5.out
    rwa [← HGM.out] at this
  clear hW5 hb5 b4 HPC HB2 HI2 HM2 HV2 HB1 HI1 HM1
  have HHH := Lib.hid (pieces_hands (T := fun k => k = gm + 2 ∨ gm + 7 ≤ k) hM1 hM2 HN.out hn1 hnc hc HX5.out HZ5.out (by omega) (B := gm) (by omega) (by omega) (fun k hk => by omega) HY5.out)
  go_wp2_with fail
  refine wp_range_handsT rfl (enters_of Try.func68 (by kernel_rfl) rfl) (T := fun k => k = gm + 2 ∨ gm + 7 ≤ k) (bx := gm + 3) (fun k hk => by omega) (by omega) (by rintro q xs ⟨a, k, c', rfl, _⟩; rfl) HHH.out (fun q W => Hid (CSt w m (.slice A n c) M inter gm q W))
    (fun q A A' h _ hf => h.out.fr HGM.out (hf.mono fun x _ hx => by omega)) (fun V hv hsz => ?_)
    (fun T0 q a' A => ∃ a k c, Hid (k = (pcB m.body M q).length ∧ k ≤ c ∧ c ≤ 9223372036854775807 ∧ Byt W5 gm a (pcB m.body M q)) ∧ a' = { tmps := (((T0.setIfInBounds 34 (.int .i64 (q : Int))).setIfInBounds 35 (.slice a k c)).setIfInBounds 9 (.int .i64 (q : Int))).setIfInBounds 10 (.slice a k c), defers := [] }) ?ax ?assign ?body ?done
  · exact ⟨⟨none, 0, blk_below HV5.out hv HV5.out.lt, Nat.le_refl _, by omega, OwnCks.nil _ _⟩, by rw [HMC.out]; exact blk_below HM5.out hv HM5.out.lt, blk_below HI5.out hv HI5.out.lt, HB5.out.trans (hv.mono HB5.out.size)⟩
  case ax =>
    rintro q a' A l r o ⟨a, k, c, hh, rfl⟩ hl
    exact ⟨a, k, c, hh, rfl⟩
  case assign =>
    rintro l q W xs K hq ⟨a, k, c', rfl, h1, h2, h3, h4⟩ hK
    have HH := Lib.hid (And.intro h1 (And.intro h2 (And.intro h3 h4)))
    clear h1 h2 h3 h4
    simp only [List.zip_toArray, List.zip_cons_cons, List.zip_nil_right, List.foldl_toArray', List.foldl_cons, List.foldl_nil, List.setIfInBounds_toArray, List.set_cons_succ, List.set_cons_zero]
    gi_wp2_with fail
    exact hK _ _ (Fr.refl _ _) ⟨a, k, c', HH, by simp only [List.setIfInBounds_toArray, List.set_cons_succ, List.set_cons_zero]⟩
  case body =>
    intro l q a' W hs hq hax hsz
    obtain ⟨a, k, c', hh, rfl⟩ := hax
    simp only [List.setIfInBounds_toArray, List.set_cons_succ, List.set_cons_zero]
    refine wpIn_block ?_
    obtain ⟨As, cp, hv1, hv2, hv3, hv4⟩ := hs.out.var
    obtain ⟨C, hC⟩ : ∃ C, C = fragC m q (pcB m.body M q) inter := ⟨_, rfl⟩
    have hq6 : q < 65536 := by have := np_le (n := n) hM1; omega
    have HCOK : Hid C.ok := by rw [hC]; exact fragC_ok HOK.out inter _ (by omega)
    have HC := Lib.hid hC
    have HV := Lib.hid hv1
    have HOW := Lib.hid hv4
    have HMS : Hid (Blk W gm TM #[.int .u16 (mst : Int), .bool mlo, .int .u32 (mmid : Int), .int .u32 (mpp : Int), .slice A n c]) := by have := hs.out.msg; rwa [HMC.out] at this
    have HIN := Lib.hid hs.out.int
    have HBL := Lib.hid hs.out.below
    have HBW5 : Hid (Byt W W.heap.size a (pcB m.body M q)) := by
      have h := hh.out.2.2.2
      have h2 : Byt W gm a (pcB m.body M q) := h.keep fun p hp => (hs.out.below.cell (p := p) (by rw [← HGM.out]; exact hp)).trans (HB5.out.cell (p := p) (by rw [← HGM.out]; exact hp)).symm
      exact h2.more (by omega)
    have HST : Hid (Below W.heap.size W W.drew) := Below.drew (Below.refl _ _)
    have HFA : Hid (∀ V, Below W.heap.size W V → Calls Try.prog 47 #[.agg #[.int .u16 (mst : Int), .bool mlo, .int .u32 (mmid : Int), .int .u32 (mpp : Int), .slice A n c], .int .i64 (q : Int), .slice a k c', .bool inter] V fun e w' => (∃ cs, e = .returned (.agg cs) ∧ CkOwn w' V.heap.size cs C) ∧ Below V.heap.size V w') := fun V h => by
      have := fragment_any (w := V) (A := a) (A0 := A) (n := k) (c := c') (n0 := n) (c0 := c) (i := q) (l := pcB m.body M q) (inter := inter) HOK.out (by omega) hh.out.1 (by have := hh.out.1; rw [this]; unfold pcB; rw [List.length_take]; omega) ((HBW5.out.below h).more h.size)
      rw [HMC.out, ← HC.out] at this
      exact this
    clear hv1 hv4 hs hh hC
    refine wpIn_region_stage_tail 7 (fun _ V V' => Below V.heap.size V V') (fun m V => Hid (Below W.heap.size W V)) [(false, .exact (.slice As q cp)),
        (false, .exact (.agg #[.int .u16 (mst : Int), .bool mlo, .int .u32 (mmid : Int), .int .u32 (mpp : Int), .slice A n c])),
        (false, .exact (.int .i64 (q : Int))),
        (false, .exact (.slice a k c')),
        (false, .exact (.bool inter)),
        (false, .grows (CkV W.heap.size C)),
        (false, .grows (LdV W.heap.size C))] (by kernel_rfl) (by kernel_rfl) (by kernel_rfl) rfl (of_decide_eq_true (by kernel_rfl)) (by kernel_rfl) (by kernel_rfl) ?lasts ?start (fun ⟨_, _, h⟩ => h) (by kernel_rfl) ?walk
    case lasts => exact ⟨fun m v V V' _ h k => h.grows k, fun m v V V' _ h k => h.grows k, trivial⟩
    case start => exact HST
    case walk =>
      simp only [List.take_succ_cons, List.take_zero, List.drop_succ_cons, List.drop_zero]
      refine stageT_pure rfl (fun _ V => Below.refl _ V) (fun V m hS hl => by
          have hc := (blk_below HV.out hS.out HV.out.lt).cell 0
          go_simp) ?_
      simp only [Act.put, List.setIfInBounds_toArray, List.set_cons_zero, List.set_cons_succ, List.cons_append, List.nil_append]
      refine stageT_pure rfl (fun _ V => Below.refl _ V) (fun V m hS hl => by
          have hb := blk_below HMS.out hS.out HMS.out.lt
          exact exec_load_any rfl rfl (fun j u hu => by rw [hb.cellAdd]; exact hu) Try.underlying43 rfl msg_info) ?_
      simp only [Act.put, List.setIfInBounds_toArray, List.set_cons_zero, List.set_cons_succ, List.cons_append, List.nil_append]
      refine stageT_pure rfl (fun _ V => Below.refl _ V) (fun V m hS hl => by go_simp) ?_
      simp only [Act.put, List.setIfInBounds_toArray, List.set_cons_zero, List.set_cons_succ, List.cons_append, List.nil_append]
      refine stageT_pure rfl (fun _ V => Below.refl _ V) (fun V m hS hl => by go_simp) ?_
      simp only [Act.put, List.setIfInBounds_toArray, List.set_cons_zero, List.set_cons_succ, List.cons_append, List.nil_append]
      refine stageT_pure rfl (fun _ V => Below.refl _ V) (fun V m hS hl => by
          have hc := (blk_below HIN.out hS.out HIN.out.lt).cell 0
          go_simp) ?_
      simp only [Act.put, List.setIfInBounds_toArray, List.set_cons_zero, List.set_cons_succ, List.cons_append, List.nil_append]
      refine stageT_grows rfl (fun V m hS hl => by
          go_simp
          refine (HFA.out V hS.out).mono ?_
          rintro e V' ⟨⟨cs, rfl, ho⟩, hb⟩
          exact ⟨_, rfl, hb, ⟨_, rfl, ho.mono hS.out.size⟩, hS.out.trans (hb.mono hS.out.size)⟩) (fun v41 => ?_)
      simp only [Act.put, List.setIfInBounds_toArray, List.set_cons_zero, List.set_cons_succ, List.cons_append, List.nil_append]
      refine stageT_grows rfl (fun V m hS hl => by
          show Words.Leaves _ _ _
          obtain ⟨cs, rfl, ho⟩ := (hl.1 (by kernel_rfl))
          rw [exec_slice_ck _ rfl cs rfl ho.arr]
          exact ⟨below_one V _, ⟨_, cs, rfl, hS.out.size, Blk.new V _ _, ho.grows (below_one V _)⟩, hS.out.trans ((below_one V _).mono hS.out.size)⟩) (fun v42 => ?_)
      simp only [Act.put, List.setIfInBounds_toArray, List.set_cons_zero, List.set_cons_succ, List.cons_append, List.nil_append]
      refine stageT_nil (fun V2 hS hF => ?_)
      have hF2 : CkV W.heap.size C v41 V2 ∧ LdV W.heap.size C v42 V2 ∧ True := hF
      obtain ⟨g, cs, rfl, hg1, hg2, hg3⟩ := hF2.2.1
      have HS2 := Lib.hid hS.out
      have HG2 := Lib.hid hg2
      have HG3 := Lib.hid hg3
      have HSZ := Lib.hid hg3.size
      have HARR := Lib.hid hg3.arr
      have HONE := Lib.hid (hg3.at_ HCOK.out).one
      have HV2' := Lib.hid (blk_below HV.out hS.out HV.out.lt)
      have hbs : gm + 7 ≤ V2.heap.size := Nat.le_trans (by omega) hS.out.size
      have hgg : gm + 7 ≤ g := by omega
      obtain ⟨xs, hx1, hx2⟩ := HOW.out.grows hS.out
      have HX1 : Hid (V2.ownsRow (gm + 7) 41 19 (.slice As q cp) q xs) := by
        have := hx1
        rw [fragN_length] at this
        exact this
      have HX2 := Lib.hid hx2
      have GOAL : Hid (∀ (V : World) (v' : Value) (A7 : Option Addr) (c7 : Nat), V.ownsRow (gm + 7) 41 19 v' (q + 1) (xs ++ cs.toList) → V2.grownBy V (Value.slice As q cp).ownBlock → v' = .slice A7 (q + 1) c7 → q + 1 ≤ c7 → c7 ≤ 9223372036854775807 →
          Fr (fun k => k = gm + 2 ∨ gm + 7 ≤ k) W (V.setCell ⟨gm + 2, 0, none⟩ v') ∧ Hid (CSt w m (.slice A n c) M inter gm (q + 1) (V.setCell ⟨gm + 2, 0, none⟩ v'))) := by
        intro V v' A7 c7 ho hg he hc1 hc2
        subst he
        have f1 : Fr (fun k => gm + 7 ≤ k) W V := ((Fr.of_below HS2.out).mono (T := fun k => gm + 7 ≤ k) (fun x _ hx => by omega)).grown hg (fun b hb => .inl (HX1.out.lt b hb).1)
        have f2 : Fr (fun k => k = gm + 2 ∨ gm + 7 ≤ k) W (V.setCell ⟨gm + 2, 0, none⟩ (.slice A7 (q + 1) c7)) := (f1.mono (T := fun k => k = gm + 2 ∨ gm + 7 ≤ k) (fun _ _ h => .inr h)).setCell (p := ⟨gm + 2, 0, none⟩) (.inl (.inl rfl)) _
        have hck : OwnCks V (gm + 7) (.slice A7 (q + 1) c7) (fragN m M inter (q + 1)) := by
          rw [fragN_succ, ← HC.out]
          exact OwnCks.snoc hx1 HX2.out hg ho (by rw [fragN_length]) (HG3.out.mono (by omega)) HCOK.out
        have f3 := (Fr.refl (fun k => k = gm + 2) V).setCell (p := ⟨gm + 2, 0, none⟩) (.inl rfl) (.slice A7 (q + 1) c7)
        refine ⟨f2, ⟨A7, c7, ?_, hc1, hc2, hck.fr f3 (fun i hi _ => by have e : i = gm + 2 := hi; omega)⟩, ?_, ?_, below_fr HBL.out f2 (Nat.le_refl _) (fun x hx => by have := HGM.out; omega)⟩
        · exact (f1.blk HV.out (by omega)).set_ 0 _
        · rw [HMC.out]
          exact f2.blk HMS.out (by omega)
        · exact f2.blk HIN.out (by omega)
      clear hS hF hF2 hg2 hg3 hx1 hx2 HST HFA HBW5 hg1
      show wpList _ _ _ _ _ _
      go_wp2_with (at_builtin; refine wpList_append_any _ rfl (.tmp 36) (.tmp 42) _ rfl (gm + 7) 41 j0 _ 19 160 Try.underlying26 hj0 hjz0 hjz1 hjz2 rfl (by omega) (.slice As q cp) q xs rfl HX1.out (g + 1) (some ⟨g, 0, none⟩) 1 1 cs.toList rfl (blk_reads HG2.out (by simpa using HSZ.out)) (ck_cells1 HARR.out HONE.out) (by simp only [maxLen]; omega) (by omega) hbs ?_; intro v7 w7 hown7 hg7 hat7; obtain ⟨A7, c7, rfl, h7a, h7b⟩ := own_slice hown7; have HG := Lib.hid (GOAL.out w7 _ A7 c7 hown7 hg7 rfl h7a h7b); have HV7 : Hid (Blk w7 (gm + 2) 26 #[.slice As q cp]) := (hg7.block (gm + 2) HV2'.out.lt (fun e => by have := (HX1.out.lt _ e.symm).1; omega)).trans HV2'.out; have cv : w7.cell? ⟨gm + 2, 0, none⟩ = some (.slice As q cp) := HV7.out.cell 0; have zv := Blk.frozen HV7.out 0; clear hown7 hg7 hat7)
      exact HG.out
  case done =>
    intro W hs hD
    dsimp only
    obtain ⟨N, hN⟩ : ∃ N, N = np n M := ⟨_, rfl⟩
    rw [← hN] at hs
    have hN1 : 1 ≤ N := by have := (np_lt (n := n) (i := 0) hM1).2 (by omega); omega
    have hN6 : N ≤ 65536 := by have := np_le (n := n) hM1; omega
    obtain ⟨k, rfl⟩ : ∃ k, N = k + 1 := ⟨N - 1, by omega⟩
    obtain ⟨As, cp, hv1, hv2, hv3, hv4⟩ := hs.out.var
    obtain ⟨ls, hls⟩ : ∃ ls, ls = fragN m M inter (k + 1) := ⟨_, rfl⟩
    have hll : ls.length = k + 1 := by rw [hls, fragN_length]
    rw [← hls] at hv4
    obtain ⟨g, rfl, hg1, hg2, _⟩ := hv4.cells (by omega)
    have h5 : OwnCks W (gm + 7) (.slice (some ⟨g, 0, none⟩) ls.length cp) ls := by rw [hll]; exact hv4
    have HK0 := Lib.hid h5
    have HK1 := Lib.hid (h5.bg (k := 0))
    rw [Nat.zero_mul, Nat.zero_add] at HK1
    have x1 := h5.flag (k := 0) (by omega) (j := 1) (by omega)
    rw [Nat.zero_mul, Nat.zero_add] at x1
    obtain ⟨u1, x1⟩ := x1
    have z1 := h5.frz 1
    have cv : W.cell? ⟨gm + 2, 0, none⟩ = some (.slice (some ⟨g, 0, none⟩) (k + 1) cp) := hv1.cell 0
    have HLS := Lib.hid hls
    have HLL := Lib.hid hll
    have HV0 := Lib.hid hv1
    have HBL := Lib.hid hs.out.below
    have HND := Lib.hid hN
    have HD := Lib.hid hD
    clear hv1 hv4 hls hs h5 hN hll hD
    go_upto_region 13 with (fail)
    obtain ⟨W6, hW6⟩ : ∃ W6, W6 = W.setCell ⟨g, 1, none⟩ (.bool true) := ⟨_, rfl⟩
    rw [← hW6] at HK1 ⊢
    have HV6 : Hid (Blk W6 (gm + 2) 26 #[.slice (some ⟨g, 0, none⟩) (k + 1) cp]) := by
      show Blk _ _ _ _
      rw [hW6]
      exact Blk.far HV0.out (p := ⟨g, 1, none⟩) (fun e => by have e' : g = gm + 2 := (by first | exact e | exact e.symm); omega) _
    have hf6 : Fr (fun x => x = g) W W6 := by rw [hW6]; exact (Fr.refl (fun x => x = g) W).setCell (p := ⟨g, 1, none⟩) (.inl rfl) _
    have HF6 := Lib.hid hf6
    have cv6 : W6.cell? ⟨gm + 2, 0, none⟩ = some (.slice (some ⟨g, 0, none⟩) (k + 1) cp) := HV6.out.cell 0
    have h6 : OwnCks W6 (gm + 7) (.slice (some ⟨g, 0, none⟩) (ls.modify 0 bgC).length cp) (ls.modify 0 bgC) := by rw [List.length_modify]; exact HK1.out
    obtain ⟨u2, x2⟩ := h6.flag (k := k) (by rw [List.length_modify, HLL.out]; omega) (j := 2) (by omega)
    have z2 := h6.frz (k * 19 + 2)
    have HK2 := Lib.hid (h6.en (k := k))
    clear hW6 hf6 h6 cv x1 z1 HK0 HK1
    go_upto_region 14 with (fail)
    obtain ⟨W7, hW7⟩ : ∃ W7, W7 = W6.setCell ⟨g, k * 19 + 2, none⟩ (.bool true) := ⟨_, rfl⟩
    rw [← hW7] at HK2 ⊢
    have HV7 : Hid (Blk W7 (gm + 2) 26 #[.slice (some ⟨g, 0, none⟩) (k + 1) cp]) := by
      show Blk _ _ _ _
      rw [hW7]
      exact Blk.far HV6.out (p := ⟨g, k * 19 + 2, none⟩) (fun e => by have e' : g = gm + 2 := (by first | exact e | exact e.symm); omega) _
    have hf7 : Fr (fun x => x = g) W W7 := by rw [hW7]; exact HF6.out.setCell (p := ⟨g, k * 19 + 2, none⟩) (.inl rfl) _
    have cv7 : W7.cell? ⟨gm + 2, 0, none⟩ = some (.slice (some ⟨g, 0, none⟩) (k + 1) cp) := HV7.out.cell 0
    have hD7 : W7.heap[W5.heap.size]? = some (.deferred (some [])) := (hf7.block _ (Array.getElem?_eq_some_iff.1 HD.out).1 (fun e => by have e' : W5.heap.size = g := e; omega)).trans HD.out
    have HBL7 := Lib.hid (below_fr HBL.out hf7 (Nat.le_refl _) (fun x hx => by have e' : x = g := hx; have := HGM.out; omega))
    have HD7 := Lib.hid hD7
    clear hW7 hf7 cv6 x2 z2 hD7
    go_wp2_with fail
    refine ⟨by simp, .inl ⟨_, _, rfl, run_takeDeferred HD7.out, ?_⟩⟩
    refine ⟨.tuple #[.slice (some ⟨g, 0, none⟩) (k + 1) cp, .int .i64 0], by simp [results, Try.results21, Sem.run_bind, Result.andThen], ?_⟩
    have hnp : np m.body.length M = k + 1 := by rw [← HN.out]; exact HND.out.symm
    have hlist : (ls.modify 0 bgC).modify k enC = cutF m M inter := by
      have h := fragN_marked (m := m) (inter := inter) hM1 (by rw [← HN.out]; exact hn0)
      rw [hnp] at h
      rw [HLS.out]
      exact h
    have ho : OwnCks W7 (gm + 7) (.slice (some ⟨g, 0, none⟩) (k + 1) cp) (cutF m M inter) := by
      have h := HK2.out
      rw [hlist, List.length_modify, HLL.out] at h
      exact h
    have hp := frT_putObj (Fr.refl (fun x => x = W5.heap.size) W7) (l := W5.heap.size) rfl (.deferred none)
    refine cut_does HE0.out (by rw [Int.toNat_natCast]; exact hnp.symm) hv2 hv3 ?_ (below_fr HBL7.out hp (Nat.le_refl _) (fun x hx => by have e' : x = W5.heap.size := hx; have := HGM.out; omega))
    rw [Int.toNat_natCast]
    exact (ho.fr hp (fun i hi _ => by have e' : i = W5.heap.size := hi; omega)).mono (by have := HGM.out; omega)
end Go.Proofs.Ytioddokjogbmnaa.Chk
