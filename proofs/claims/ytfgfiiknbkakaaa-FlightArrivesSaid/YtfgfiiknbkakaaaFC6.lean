/-
  Of the texts FlMk, Cks, FlMw, FlAw, FlAg: what the laws reach.
-/
import Derived.Test.YtfgfiiknbkakaaaFC5
import Derived.Test.YtfgfiiknbkakaaaFC4

set_option linter.unusedVariables false
set_option linter.unusedSimpArgs false
namespace Go.Proofs.Ytfgfiiknbkakaaa.Fl
open Go.ChangeShapes Go.WideShapes Go.ChangeAt Go.RowKit Go.Deep Go.Proofs.Ytfgfiiknbkakaaa.Words Go.Proofs.Ytfgfiiknbkakaaa.Oct Go.Proofs.Ytfgfiiknbkakaaa.Par Go.Proofs.Ytfgfiiknbkakaaa.Chk
theorem modSum {α : Type} (f : α → α) (b : α → Nat) : ∀ (l : List α) (i : Nat) (x : α), l[i]? = some x → ((l.modify i f).map b).sum + b x = (l.map b).sum + b (f x)
  | [], i, x, h => by simp at h
  | a :: l, 0, x, h => by
    have e : a = x := by simpa using h
    subst e
    simp [List.modify]
    omega
  | a :: l, i + 1, x, h => by
    have ih := modSum f b l i x (by simpa using h)
    simp only [List.modify_succ_cons, List.map_cons, List.sum_cons]
    omega
def lbP (q : Pt) : Nat := if q.st = 2 then 0 else q.c.body.length
def lfP (q : Pt) : Nat := if q.left = true then 1 else 0
def lbF (ps : List Pt) : Nat := (ps.map lbP).sum
def lfF' (ps : List Pt) : Nat := (ps.map lfP).sum
theorem left_sum (ps : List Pt) : ps.countP Pt.left = lfF' ps := by
  induction ps with
  | nil => rfl
  | cons q l ih =>
    show (q :: l).countP Pt.left = lfP q + lfF' l
    rw [List.countP_cons, ih]
    unfold lfP
    omega
def OkM (q : Pt) : Prop := (q.st = 0 ∨ q.st = 1 ∨ q.st = 2) ∧ (q.st ≠ 2 → 1 ≤ q.c.body.length)
theorem OkM.arP {q : Pt} : OkM (arP q) := ⟨.inr (.inr (arP_two q)), fun h => absurd (arP_two q) h⟩
theorem OkM.miss {q : Pt} (h : OkM q) : OkM (missP q) ∧ lbP (missP q) = lbP q ∧ lfP (missP q) = lfP q := by
  by_cases h0 : q.st = 0
  · obtain ⟨h1, h2, _⟩ := missP_keep h0
    refine ⟨⟨h1.elim .inl (fun e => .inr (.inl e)), fun _ => by rw [h2]; exact h.2 (by omega)⟩, ?_, ?_⟩
    · unfold lbP
      rw [if_neg (by omega), if_neg (by omega), h2]
    · unfold lfP Pt.left
      rcases h1 with e | e <;> rw [e, h0] <;> rfl
  · have e : missP q = q := by unfold missP; rw [if_neg h0]
    rw [e]
    exact ⟨h, rfl, rfl⟩
theorem pos_zero (ps : List Pt) (h : ∀ q ∈ ps, OkM q) : lfF' ps = 0 ↔ lbF ps = 0 := by
  induction ps with
  | nil => exact Iff.rfl
  | cons q l ih =>
    have ih' := ih (fun r hr => h r (List.mem_cons_of_mem _ hr))
    obtain ⟨h1, h2⟩ := h q List.mem_cons_self
    show lfP q + lfF' l = 0 ↔ lbP q + lbF l = 0
    have h3 : lfP q = 0 ↔ lbP q = 0 := by
      unfold lfP lbP Pt.left
      rcases h1 with e | e | e
      · have := h2 (by omega); simp [e]; intro h; rw [h] at this; simp at this
      · have := h2 (by omega); simp [e]; intro h; rw [h] at this; simp at this
      · simp [e]
    omega
section
variable {now i j n u : Nat} {start b0 : Nat} {a : AS} {s : FS} {c : Ck}
/-- What a fold of arrivals does to what is left. -/
structure ArM (x y : AS) : Prop where
  ok : ∀ q ∈ y.s.ps, OkM q
  lb : lbF y.s.ps + y.bytes = lbF x.s.ps + x.bytes
  lf : lfF' y.s.ps ≤ lfF' x.s.ps
theorem arrM (now : Nat) (a : AS) (i : Nat) (h : ∀ q ∈ a.s.ps, OkM q) : ArM a (arriveF now a i) := by
  unfold arriveF
  cases hp : a.s.ps[i]? with
  | none => exact ⟨h, rfl, Nat.le_refl _⟩
  | some p =>
    simp only
    by_cases h2 : p.st = 2
    · rw [if_pos h2]
      exact ⟨h, rfl, Nat.le_refl _⟩
    · rw [if_neg h2]
      have hm := h p (List.mem_of_getElem? hp)
      have h3 : p.st ≠ 3 := by rcases hm.1 with e | e | e <;> omega
      rw [if_neg h3]
      refine ⟨fun q hq => ?_, ?_, ?_⟩
      · change q ∈ a.s.ps.modify i (Pt.turn 2) at hq
        obtain ⟨k, hk⟩ := List.mem_iff_getElem?.1 hq
        rw [modGet] at hk
        split at hk
        · cases hx : a.s.ps[k]? with
          | none => rw [hx] at hk; cases hk
          | some y =>
            rw [hx] at hk
            injection hk with hk
            rw [← hk]
            exact ⟨.inr (.inr rfl), fun e => absurd rfl e⟩
        · exact h q (List.mem_of_getElem? hk)
      · have := modSum (Pt.turn 2) lbP a.s.ps i p hp
        show ((a.s.ps.modify i (Pt.turn 2)).map lbP).sum + (a.bytes + p.c.body.length) = (a.s.ps.map lbP).sum + a.bytes
        have e1 : lbP p = p.c.body.length := by unfold lbP; rw [if_neg h2]
        have e2 : lbP (p.turn 2) = 0 := rfl
        omega
      · have := modSum (Pt.turn 2) lfP a.s.ps i p hp
        show ((a.s.ps.modify i (Pt.turn 2)).map lfP).sum ≤ (a.s.ps.map lfP).sum
        have e2 : lfP (p.turn 2) = 0 := rfl
        omega
theorem foldM (now : Nat) (l : List Nat) (a : AS) (h : ∀ q ∈ a.s.ps, OkM q) : ArM a (l.foldl (arriveF now) a) := by
  induction l generalizing a with
  | nil => exact ⟨h, rfl, Nat.le_refl _⟩
  | cons i l ih =>
    have h1 := arrM now a i h
    have h2 := ih (arriveF now a i) h1.ok
    exact ⟨h2.ok, h2.lb.trans h1.lb, Nat.le_trans h2.lf h1.lf⟩
theorem missM (s : FS) (n : Nat) (h : ∀ q ∈ s.ps, OkM q) : (∀ q ∈ (s.miss n).ps, OkM q) ∧ lbF (s.miss n).ps = lbF s.ps ∧ lfF' (s.miss n).ps = lfF' s.ps := by
  have ht : ∀ q ∈ s.ps.take n, OkM q := fun q hq => h q (List.mem_of_mem_take hq)
  have e1 : ((s.ps.take n).map missP).map lbP = (s.ps.take n).map lbP := by
    rw [List.map_map]
    exact List.map_congr_left (fun q hq => (ht q hq).miss.2.1)
  have e2 : ((s.ps.take n).map missP).map lfP = (s.ps.take n).map lfP := by
    rw [List.map_map]
    exact List.map_congr_left (fun q hq => (ht q hq).miss.2.2)
  refine ⟨fun q hq => ?_, ?_, ?_⟩
  · change q ∈ (s.ps.take n).map missP ++ s.ps.drop n at hq
    rcases List.mem_append.1 hq with hq | hq
    · obtain ⟨r, hr, rfl⟩ := List.mem_map.1 hq
      exact (ht r hr).miss.1
    · exact h q (List.mem_of_mem_drop hq)
  · show (((s.ps.take n).map missP ++ s.ps.drop n).map lbP).sum = (s.ps.map lbP).sum
    rw [List.map_append, e1, ← List.map_append, List.take_append_drop]
  · show (((s.ps.take n).map missP ++ s.ps.drop n).map lfP).sum = (s.ps.map lfP).sum
    rw [List.map_append, e2, ← List.map_append, List.take_append_drop]
structure MkS (start n u lb : Nat) (s : FS) : Prop where
  mark : s.mark = (start + 4294967295 + u) % 4294967296
  un : u ≤ n
  len : s.ps.length = n - u
  ok : ∀ q ∈ s.ps, OkM q
  lb : lbF s.ps = lb
theorem MkS.left (h : MkS start n u b0 s) : (s.left = 0 ↔ b0 = 0) := by
  unfold FS.left
  rw [left_sum, ← h.lb]
  exact pos_zero _ h.ok
/-- A Sack that is not sound changes nothing. -/
theorem mk_bad (hs : sound s c = false) : ackF 9 s c = (s, badAk) := by
  unfold ackF
  rw [if_neg (by rw [hs]; decide)]
theorem MkS.ack (h : MkS start n u b0 s) (hs : sound s c = true) (hon : distN s.mark c.tsn ≤ n - u) : ∃ lb', MkS start n (u + distN s.mark c.tsn) lb' (ackF 9 s c).1 ∧ lb' + (ackF 9 s c).2.bytes = b0 ∧ (ackF 9 s c).2.bad = false ∧ (ackF 9 s c).1.left ≤ s.left := by
  obtain ⟨on0, hon0⟩ : ∃ on0, distN s.mark c.tsn = on0 := ⟨_, rfl⟩
  have m1 := ackMk 9 hs hon0
  have m3 := ackLen 9 hs hon0
  have m4 := ackBad 9 hs hon0
  have m5 := ackBytes 9 hs hon0
  rw [← hon0] at m1 m3
  clear hon0 on0
  have hf := foldM 9 (hits (distN s.mark c.tsn) c.gaps) ⟨s, 0, 0, -1⟩ h.ok
  have hsame := foldSame 9 (hits (distN s.mark c.tsn) c.gaps) ⟨s, 0, 0, -1⟩
  obtain ⟨on, hone⟩ : ∃ on, on = distN s.mark c.tsn := ⟨_, rfl⟩
  have hA : ackA 9 s c = (hits (distN s.mark c.tsn) c.gaps).foldl (arriveF 9) ⟨s, 0, 0, -1⟩ := rfl
  rw [← hA] at hf hsame
  obtain ⟨mo, mb, ml⟩ := missM (ackA 9 s c).s (ackA 9 s c).newest hf.ok
  have hps : (ackF 9 s c).1.ps = ((ackA 9 s c).s.miss (ackA 9 s c).newest).ps.drop on := by
    unfold ackF
    rw [if_pos hs, hone]
    rfl
  have hfirst : ∀ q ∈ ((ackA 9 s c).s.miss (ackA 9 s c).newest).ps.take on, q.st = 2 := fun q hq => by
    obtain ⟨k, hk⟩ := List.mem_iff_getElem?.1 hq
    rw [List.getElem?_take] at hk
    split at hk
    · rename_i hk2
      rw [missG] at hk
      have hg := foldG 9 (hits (distN s.mark c.tsn) c.gaps) ⟨s, 0, 0, -1⟩ k
      rw [← hA, if_pos (hits_mem.2 (.inl (by rw [← hone]; exact hk2)))] at hg
      rw [hg] at hk
      cases hx : s.ps[k]? with
      | none => simp [hx] at hk
      | some y =>
        simp only [hx, Option.map_some] at hk
        have h2 := arP_two y
        split at hk
        · injection hk with hk
          rw [← hk, missP_two h2]
          exact h2
        · injection hk with hk
          rw [← hk]
          exact h2
    · cases hk
  have hz : ((((ackA 9 s c).s.miss (ackA 9 s c).newest).ps.take on).map lbP).sum = 0 := by
    rw [List.sum_eq_zero_iff_forall_eq_nat]
    intro x hx
    obtain ⟨q, hq, rfl⟩ := List.mem_map.1 hx
    unfold lbP
    rw [if_pos (hfirst q hq)]
  have hsplit : ∀ b : Pt → Nat, (((ackA 9 s c).s.miss (ackA 9 s c).newest).ps.map b).sum = ((((ackA 9 s c).s.miss (ackA 9 s c).newest).ps.take on).map b).sum + ((((ackA 9 s c).s.miss (ackA 9 s c).newest).ps.drop on).map b).sum := fun b => by
    rw [← List.sum_append, ← List.map_append, List.take_append_drop]
  have h1 := hsplit lbP
  have h2 := hsplit lfP
  have hlb2 : lbF (ackF 9 s c).1.ps = lbF (ackA 9 s c).s.ps := by
    rw [hps, ← mb]
    unfold lbF
    omega
  have hfl := hf.lb
  rw [← hone] at hon m1 m3 ⊢
  refine ⟨lbF (ackF 9 s c).1.ps, ⟨?_, by have := h.un; omega, ?_, fun q hq => ?_, rfl⟩, ?_, m4, ?_⟩
  · rw [m1, h.mark]; omega
  · rw [m3, h.len]; omega
  · rw [hps] at hq
    exact mo q (List.mem_of_mem_drop hq)
  · rw [hlb2, m5]
    have e0 : lbF (⟨s, 0, 0, -1⟩ : AS).s.ps = b0 := h.lb
    rw [e0] at hfl
    exact hfl
  · unfold FS.left
    rw [left_sum, left_sum, hps]
    have h4 : lfF' (((ackA 9 s c).s.miss (ackA 9 s c).newest).ps.drop on) ≤ lfF' ((ackA 9 s c).s.miss (ackA 9 s c).newest).ps := by unfold lfF'; omega
    exact Nat.le_trans h4 (by rw [ml]; exact hf.lf)
end
end Go.Proofs.Ytfgfiiknbkakaaa.Fl

set_option linter.unusedVariables false
set_option linter.unusedSimpArgs false
namespace Go.Proofs.Ytfgfiiknbkakaaa.Chk
open Go.ChangeShapes Go.WideShapes Go.ChangeAt Go.RowKit Go.Deep Go.Proofs.Ytfgfiiknbkakaaa.Words Go.Proofs.Ytfgfiiknbkakaaa.Oct Go.Proofs.Ytfgfiiknbkakaaa.Par
theorem run_loadVar_any {P : Program} (w : World) (a : Addr) (ty : TypeId) (cs : Array Value) (d : TypeDesc) (hc : ∀ j v, cs[j]? = some v → w.cell? (a.add j) = some v)
    (hu : P.underlying ty = some d) (hd : d.isRow = true) (hi : (P.info? ty).map (·.size) = some cs.size) : (loadVar ty a).run P w = .ok (.agg cs) w := by
  have hl : (loadCells a cs.size).run P w = .ok cs w := by
    have := run_loadCells_list (P := P) w a cs.toList (fun j v hv => hc j v (by simpa using hv))
    simpa using this
  cases hq : P.info? ty with
  | none => simp [hq] at hi
  | some i =>
    have hs : i.size = cs.size := by simpa [hq] using hi
    have hagg : (isAgg ty).run P w = .ok true w := by
      unfold isAgg
      rw [Sem.run_bind, run_underlying hu w]
      cases d <;> simp_all
    simp [loadVar, Sem.run_bind, hagg, sizeOf, typeInfo, hq, hs, hl]
/-- A slice of chunks that reads as the list ls, below block B. -/
def Cks (w : World) (B : Nat) (A : Option Addr) (ls : List Ck) : Prop :=
  ∀ k c, ls[k]? = some c → ∃ (ad : Addr) (cs : Array Value), A = some ad ∧ ad.block < B ∧ CkAt w B cs c ∧ ∀ j v, cs[j]? = some v → w.cell? ((ad.add (k * 19)).add j) = some v
section
variable {w w' : World} {B B' : Nat} {A : Option Addr} {ls : List Ck}
theorem Cks.keep (h : Cks w B A ls) (hk : ∀ p : Addr, p.block < B → w'.cell? p = w.cell? p) : Cks w' B A ls := fun k c hc => by
  obtain ⟨ad, cs, h1, h2, h3, h4⟩ := h k c hc
  exact ⟨ad, cs, h1, h2, h3.keep hk, fun j v hv => (hk _ (by rw [block_of_add, block_of_add]; exact h2)).trans (h4 j v hv)⟩
theorem Cks.more (h : Cks w B A ls) (hB : B ≤ B') : Cks w B' A ls := fun k c hc => by
  obtain ⟨ad, cs, h1, h2, h3, h4⟩ := h k c hc
  exact ⟨ad, cs, h1, by omega, h3.more hB, h4⟩
theorem Cks.below (h : Cks w B A ls) (hb : Below B w w') : Cks w' B A ls := h.keep fun _ hp => hb.cell hp
theorem Cks.drewN (h : Cks w B A ls) (n : Nat) : Cks (w.drewN n) B A ls := h.keep fun _ _ => rfl
theorem Cks.nil (w : World) (B : Nat) (A : Option Addr) : Cks w B A [] := fun k c hc => by simp at hc
theorem Cks.ok (h : Cks w B A ls) : ∀ c ∈ ls, c.ok := fun c hc => by
  obtain ⟨k, hk, rfl⟩ := List.mem_iff_getElem.1 hc
  obtain ⟨_, _, _, _, h3, _⟩ := h k _ (List.getElem?_eq_getElem hk)
  exact h3.ok
end
instance : Inhabited Ck := ⟨zeroC 0⟩
end Go.Proofs.Ytfgfiiknbkakaaa.Chk

set_option linter.unusedVariables false
set_option linter.unusedSimpArgs false
set_option maxRecDepth 20000
namespace Go.Proofs.Ytfgfiiknbkakaaa.Fl
open Go.ChangeShapes Go.WideShapes Go.ChangeAt Go.RowKit Go.Deep Go.Proofs.Ytfgfiiknbkakaaa.Words Go.Proofs.Ytfgfiiknbkakaaa.Oct Go.Proofs.Ytfgfiiknbkakaaa.Par Go.Proofs.Ytfgfiiknbkakaaa.Chk
def zlF (k : Nat) : List UInt8 := List.replicate k 0
theorem zlF_len (k : Nat) : (zlF k).length = k := List.length_replicate ..
theorem byt_zerosF (V : World) (k : Nat) (hk : k ≤ 1000000) : Byt (V.alloc (.cells (madeCells #[.int .u8 0] k) 5)) (V.alloc (.cells (madeCells #[.int .u8 0] k) 5)).heap.size (some ⟨V.heap.size, 0, none⟩) (zlF k) := by
  have h := own_zeros V 0 k 5 (Nat.zero_le _) (by unfold maxLen; omega)
  have h2 := Reads.of_own h
  unfold Byt
  rw [zlF_len]
  exact h2
/-- A Sack as the law draws it. -/
def skK (T : Nat) (gs : List Gp) : Ck := { zeroC 3 with tsn := T, gaps := gs }
theorem skK_ok {T : Nat} {gs : List Gp} (hT : T < 4294967296) (hg : ∀ g ∈ gs, g.1 < 65536 ∧ g.2 < 65536) : (skK T gs).ok :=
  ⟨by show 3 < 256; omega, hT, by show 0 < _; omega, by show 0 < _; omega, by show 0 < _; omega, by show 0 < _; omega, by show 0 < _; omega, by show 0 < _; omega, by show 0 < _; omega, by show 0 < _; omega, hg, fun _ h => by simp [skK, zeroC] at h, fun _ h => by simp [skK, zeroC] at h, fun _ h => by simp [skK, zeroC] at h⟩
theorem built_sk (T : Nat) : Try.prog.built 35 [(0, .int .u8 3), (5, .int .u32 (T : Int))] = some (ckArr (skK T []) nilV nilV nilV nilV nilV) := by kernel_rfl
theorem skK_one (T : Nat) (gs gs' : List Gp) : (ckArr (skK T gs) nilV nilV nilV nilV nilV).all (·.oneCell') = true := by simp [ckArr, Value.oneCell']
section
variable {st n u b x y T : Nat} {s : FS}
theorem MkS.nil (h : st < 4294967296) : MkS st 0 0 0 (fs0 st) := ⟨rfl, Nat.le_refl _, rfl, fun q hq => (by cases hq), rfl⟩
theorem MkS.snoc (h : MkS st n 0 b s) {m : Int} {lk ln now : Nat} {c : Ck} {k : Nat} (hk : c.body.length = k) (h1 : 1 ≤ k) : MkS st (n + 1) 0 (b + k) (s.send m lk ln c now) := by
  refine ⟨h.mark, Nat.zero_le _, ?_, fun q hq => ?_, ?_⟩
  · show (s.ps ++ [_]).length = _
    rw [List.length_append, h.len]
    rfl
  · change q ∈ s.ps ++ [_] at hq
    rcases List.mem_append.1 hq with hq | hq
    · exact h.ok q hq
    · rw [List.mem_singleton.1 hq]
      exact ⟨.inl rfl, fun _ => by show 1 ≤ c.body.length; omega⟩
  · show ((s.ps ++ [_]).map lbP).sum = _
    rw [List.map_append, List.sum_append]
    have h2 : (s.ps.map lbP).sum = b := h.lb
    rw [h2, ← hk]
    simp [lbP]
def gsY (y : Nat) : List Gp := if 2 ≤ y then [(y, y + y % 3)] else []
theorem gsY_ok (hy : y < 256) : ∀ g ∈ gsY y, g.1 < 65536 ∧ g.2 < 65536 := fun g hg => by
  unfold gsY at hg
  split at hg
  · rw [List.mem_singleton.1 hg]
    exact ⟨by show y < _; omega, by show y + y % 3 < _; omega⟩
  · cases hg
theorem MkS.dist (h : MkS st n u b s) (hn : n ≤ 40) (hx : x < 256) (hT : T = (st + 4294967295 + x) % 4294967296) {D : Nat} (hD : D = (x + 4294967296 - u) % 4294967296) : distN s.mark T = D := by
  have h1 := h.mark
  have h2 := h.un
  generalize s.mark = M at *
  unfold distN
  omega
theorem MkS.inB (h : MkS st n u b s) (hn : n ≤ 40) (hx : x < 256) (hT : T = (st + 4294967295 + x) % 4294967296) {D : Nat} (hD : D = (x + 4294967296 - u) % 4294967296) : Ser.inB (T : Int) (s.mark : Int) (s.last : Int) = decide (D ≤ n - u) := by
  have h1 := h.mark
  have h2 := h.un
  have h3 : s.last = (s.mark + (n - u)) % 4294967296 := by unfold FS.last; rw [h.len]
  generalize s.last = L at *
  generalize s.mark = M at *
  unfold Ser.inB Ser.dist
  have e1 : ((T : Int) - (M : Int)) % 4294967296 = (D : Int) := by omega
  have e2 : ((L : Int) - (M : Int)) % 4294967296 = ((n - u : Nat) : Int) := by omega
  rw [e1, e2]
  apply Bool.eq_iff_iff.2
  simp only [decide_eq_true_eq]
  omega
theorem MkS.far (h : MkS st n u b s) (hn : n ≤ 40) (hx : x < 256) (hT : T = (st + 4294967295 + x) % 4294967296) {D : Nat} (hD : D = (x + 4294967296 - u) % 4294967296) (hd : D ≤ n - u) : distN T s.last = n - x ∧ x ≤ n := by
  have h1 := h.mark
  have h2 := h.un
  have h3 : s.last = (s.mark + (n - u)) % 4294967296 := by unfold FS.last; rw [h.len]
  generalize s.last = L at *
  generalize s.mark = M at *
  have h5 : x ≤ n := by omega
  refine ⟨?_, h5⟩
  unfold distN
  omega
theorem gapsOk_nil (far l : Nat) : gapsOk far l [] = true := rfl
theorem gapsOk_one (far l : Nat) (g : Gp) : gapsOk far l [g] = (decide (l ≤ g.1 ∧ g.1 ≤ g.2 ∧ g.2 ≤ far) && true) := rfl
theorem MkS.sound (h : MkS st n u b s) (hn : n ≤ 40) (hx : x < 256) (hT : T = (st + 4294967295 + x) % 4294967296) {D : Nat} (hD : D = (x + 4294967296 - u) % 4294967296) :
    Fl.sound s (skK T (gsY y)) = decide (D ≤ n - u ∧ (2 ≤ y → x + (y + y % 3) ≤ n)) := by
  have h1 := h.inB hn hx hT hD
  have e : Fl.sound s (skK T (gsY y)) = (decide ((3 : Nat) = 3) && (Ser.inB (T : Int) (s.mark : Int) (s.last : Int) && gapsOk (distN T s.last) 2 (gsY y))) := rfl
  rw [e, h1, decide_eq_true (rfl : (3 : Nat) = 3), Bool.true_and]
  by_cases hd : D ≤ n - u
  · obtain ⟨h2, h3⟩ := h.far hn hx hT hD hd
    rw [h2, decide_eq_true hd, Bool.true_and]
    unfold gsY
    by_cases hy : 2 ≤ y
    · rw [if_pos hy, gapsOk_one, Bool.and_true]
      apply Bool.eq_iff_iff.2
      simp only [decide_eq_true_eq]
      omega
    · rw [if_neg hy, gapsOk_nil, decide_eq_true]
      exact ⟨hd, fun e => absurd e hy⟩
  · rw [decide_eq_false hd, Bool.false_and, decide_eq_false (fun e => hd e.1)]
/-- One Sack, as the law looks at it. -/
structure MkR (st n u b D x y : Nat) (s s' : FS) (a : Ak) (u' b' : Nat) : Prop where
  st : MkS st n u' b' s'
  le : u ≤ u'
  by_ : b' + a.bytes = b
  left : s'.left ≤ s.left
  bad : a.bad = true → s' = s ∧ a.bytes = 0 ∧ u' = u ∧ b' = b
  ans : a.bad = !decide (D ≤ n - u ∧ (2 ≤ y → x + (y + y % 3) ≤ n))
theorem MkS.step (h : MkS st n u b s) (hn : n ≤ 40) (hx : x < 256) (hT : T = (st + 4294967295 + x) % 4294967296) {D : Nat} (hD : D = (x + 4294967296 - u) % 4294967296) : ∃ u' b', MkR st n u b D x y s (ackF 9 s (skK T (gsY y))).1 (ackF 9 s (skK T (gsY y))).2 u' b' := by
  have h1 := h.sound (y := y) hn hx hT hD
  by_cases hs : Fl.sound s (skK T (gsY y)) = true
  · have h2 := h.dist hn hx hT hD
    have h3 : D ≤ n - u ∧ (2 ≤ y → x + (y + y % 3) ≤ n) := by rw [hs] at h1; exact of_decide_eq_true h1.symm
    have h4 : distN s.mark (skK T (gsY y)).tsn = D := h2
    obtain ⟨lb', k1, k2, k3, k4⟩ := h.ack hs (by rw [h4]; exact h3.1)
    rw [h4] at k1
    exact ⟨u + D, lb', k1, Nat.le_add_right _ _, k2, k4, fun e => (by rw [k3] at e; cases e), by rw [k3, decide_eq_true h3]; rfl⟩
  · have hs' : Fl.sound s (skK T (gsY y)) = false := by simpa using hs
    have h2 := mk_bad hs'
    rw [h2]
    rw [hs'] at h1
    exact ⟨u, b, h, Nat.le_refl _, rfl, Nat.le_refl _, fun _ => ⟨rfl, rfl, rfl, rfl⟩, by rw [← h1]; rfl⟩
end
section
variable {R : World → (Nat → Prop) → Nat → FS → Prop} {w V : World} {p : Nat} {S : Nat → Prop} {s : FS}
/-- The gap of a Sack in memory. -/
def GpV (V0 V : World) (y : Nat) (v : Value) : Prop := (y < 2 ∧ v = nilV) ∨ (2 ≤ y ∧ ∃ g, v = .slice (some ⟨g, 0, none⟩) 1 1 ∧ V0.heap.size ≤ g ∧ Blk V g 42 #[.int .u16 (y : Int), .int .u16 ((y + y % 3 : Nat) : Int)])
theorem GpV.below {V0 V V' : World} {y : Nat} {v : Value} (h : GpV V0 V y v) (hb : Below V.heap.size V V') : GpV V0 V' y v := by
  rcases h with h | ⟨h1, g, h2, h3, h4⟩
  · exact .inl h
  · exact .inr ⟨h1, g, h2, h3, blk_below h4 hb⟩
theorem GpV.at_ {V0 V : World} {y T : Nat} {v : Value} (h : GpV V0 V y v) (hT : T < 4294967296) (hy : y < 256) : CkAt V V.heap.size (ckArr (skK T (gsY y)) v nilV nilV nilV nilV) (skK T (gsY y)) := by
  have hok := skK_ok hT (gsY_ok hy)
  rcases h with ⟨h1, rfl⟩ | ⟨h1, g, rfl, h3, h4⟩
  · have e : gsY y = [] := by unfold gsY; rw [if_neg (by omega)]
    rw [e] at hok ⊢
    exact ck_gaps (A := none) (n := 0) (cp := 0) hok rfl rfl rfl rfl rfl (Nat.le_refl _) (by omega) Reads.none_
  · have e : gsY y = [(y, y + y % 3)] := by unfold gsY; rw [if_pos h1]
    rw [e] at hok ⊢
    exact ck_gaps hok rfl rfl rfl rfl rfl (Nat.le_refl _) (by omega) ⟨rfl, fun _ => ⟨_, rfl, h4.lt, fun j u hu => by
      rw [h4.cellAdd j, ← Array.getElem?_toList]
      exact hu⟩⟩
end
end Go.Proofs.Ytfgfiiknbkakaaa.Fl

set_option linter.unusedVariables false
set_option linter.unusedSimpArgs false
set_option maxRecDepth 20000
namespace Go.Proofs.Ytfgfiiknbkakaaa.Fl
open Go.ChangeShapes Go.WideShapes Go.ChangeAt Go.RowKit Go.Deep Go.Proofs.Ytfgfiiknbkakaaa.Words Go.Proofs.Ytfgfiiknbkakaaa.Oct Go.Proofs.Ytfgfiiknbkakaaa.Par Go.Proofs.Ytfgfiiknbkakaaa.Chk
def hasA (K : Nat → Bool) : Array Value := ((List.range 31).map fun j => Value.bool (K j)).toArray
theorem hasA_at (K : Nat → Bool) {j : Nat} (h : j < 31) : (hasA K)[j]? = some (.bool (K j)) := by
  unfold hasA
  simp [h]
theorem hasA_size (K : Nat → Bool) : (hasA K).size = 31 := by unfold hasA; simp
def oneF (K : Nat → Bool) (d : Nat) : Nat → Bool := fun y => if y = d then true else K y
theorem hasA_set (K : Nat → Bool) {j : Nat} (h : j < 31) : (hasA K).setIfInBounds j (.bool true) = hasA (oneF K j) := by
  apply Array.ext_getElem?
  intro x
  rcases Nat.lt_or_ge x 31 with hx | hx
  · rw [hasA_at _ hx, Array.getElem?_setIfInBounds]
    by_cases e : j = x
    · subst e
      rw [if_pos rfl, if_pos (by rw [hasA_size]; exact h)]
      simp [oneF]
    · rw [if_neg e, hasA_at _ hx]
      simp [oneF, show ¬ x = j from fun e' => e e'.symm]
  · rw [Array.getElem?_eq_none (by simp [hasA_size]; exact hx), Array.getElem?_eq_none (by rw [hasA_size]; exact hx)]
theorem info_has : (Try.prog.info? 40).map (fun i => (i.zero, i.size)) = some (some (.agg (hasA fun _ => false)), 31) := by kernel_rfl
theorem alloc_has (w : World) : (Instr.alloc 40 true (.tuple #[])).run Try.prog w = .ok (.pointer (some ⟨w.heap.size, 0, none⟩)) (w.alloc (.cells (hasA fun _ => false) 40)) := run_alloc_agg info_has w
/-- The piece that the law sends: its message's number. -/
def fM (k mid : Nat) : Ck := { zeroC 64 with mid := mid, body := zlF k }
theorem fM_ok {k mid : Nat} (h : mid < 4294967296) : (fM k mid).ok :=
  ⟨by show 64 < 256; omega, by show 0 < _; omega, by show 0 < _; omega, h, by show 0 < _; omega, by show 0 < _; omega, by show 0 < _; omega, by show 0 < _; omega, by show 0 < _; omega, by show 0 < _; omega, fun _ h => by simp [fM, zeroC] at h, fun _ h => by simp [fM, zeroC] at h, fun _ h => by simp [fM, zeroC] at h, fun _ h => by simp [fM, zeroC] at h⟩
theorem fM_bare (k mid : Nat) : Bare (fM k mid) := ⟨rfl, rfl, rfl, rfl⟩
theorem built_fM (k mid : Nat) (A : Option Addr) (n c : Nat) : Try.prog.built 35 [(0, .int .u8 64), (18, .slice A n c), (7, .int .u32 (mid : Int))] = some (bareA (fM k mid) A n c) := by kernel_rfl
section
variable {st n u k : Nat} {sz : Nat → Nat} {s : FS}
theorem ArS.nil (h : st < 4294967296) : ArS st 0 0 (fun _ => false) sz (fun _ x => x = 0) (fs0 st) :=
  ⟨rfl, Nat.le_refl _, rfl, fun _ => rfl, fun j h => by omega, fun i q h => by simp [fs0] at h⟩
theorem ArS.snoc (h : ArS st n 0 (fun _ => false) sz (fun _ x => x = 0) s) {m : Int} {now : Nat} {c : Ck} (hk : c.body.length = sz n) (hm : c.mid = n) (hn : n < 1000) : ArS st (n + 1) 0 (fun _ => false) sz (fun _ x => x = 0) (s.send m 0 0 c now) := by
  have hl := h.len
  refine ⟨h.mark, Nat.zero_le _, ?_, h.gone, fun j h => by omega, fun i q hq => ?_⟩
  · show (s.ps ++ [_]).length = _
    rw [List.length_append, hl]
    rfl
  · change (s.ps ++ [_])[i]? = some q at hq
    rcases Nat.lt_or_ge i s.ps.length with h1 | h1
    · rw [List.getElem?_append_left h1] at hq
      exact h.at_ i q hq
    · rw [List.getElem?_append_right h1] at hq
      have hi : i = n := by
        have := (List.getElem?_eq_some_iff.1 hq).1
        simp at this
        omega
      subst hi
      rw [show i - s.ps.length = 0 by omega] at hq
      have hq' := Option.some.inj hq
      have hmk := h.mark
      have hnx : s.next = (st + (0 + i)) % 4294967296 := by
        unfold FS.next tsnOf
        rw [hl]
        omega
      rw [← hq']
      exact ⟨rfl, fun e => (by cases e), fun _ => ⟨rfl, hnx, by rw [hm, Nat.zero_add], by rw [Nat.zero_add]; exact hk⟩⟩
theorem ArS.all {H : Nat → Bool} (h : ArS st n u H sz (fun j x => x = if j < n then 0 else 1) s) : ArS st n u H sz (fun _ x => x = 0) s :=
  ⟨h.mark, h.un, h.len, h.gone, h.up, fun i q hq => by
    have hl := h.len
    have hi := (List.getElem?_eq_some_iff.1 hq).1
    obtain ⟨a, b, c⟩ := h.at_ i q hq
    refine ⟨a, b, fun hh => ⟨?_, (c hh).2⟩⟩
    have h1 := (c hh).1
    rw [if_pos (by omega)] at h1
    exact h1⟩
end
end Go.Proofs.Ytfgfiiknbkakaaa.Fl

set_option linter.unusedVariables false
set_option linter.unusedSimpArgs false
set_option maxRecDepth 20000
namespace Go.Proofs.Ytfgfiiknbkakaaa.Fl
open Go.ChangeShapes Go.WideShapes Go.ChangeAt Go.RowKit Go.Deep Go.Proofs.Ytfgfiiknbkakaaa.Words Go.Proofs.Ytfgfiiknbkakaaa.Oct Go.Proofs.Ytfgfiiknbkakaaa.Par Go.Proofs.Ytfgfiiknbkakaaa.Chk
abbrev skGA (T : Nat) (gs : List Gp) (gv : Value) : Array Value := ckArr (skK T gs) gv nilV nilV nilV nilV
/-- While the gaps are laid: the Sack's variable g13, its gaps a row of the call's own. -/
structure GpS (V0 wr : World) (g13 T up j : Nat) (H : Nat → Bool) (gs : List Gp) (gv : Value) : Prop where
  bel : Below V0.heap.size V0 wr
  blk : CkBlk wr g13 (skGA T gs gv)
  own : wr.ownsRow V0.heap.size 42 2 gv gs.length (gapC gs)
  gp : GpI up j H gs
  g0 : V0.heap.size ≤ g13
/-- Whether the last gap ends right ahead. -/
structure GpB (b : Bool) (gs : List Gp) (up j : Nat) : Prop where
  yes : b = true → ∃ gs0 g, gs = gs0 ++ [g] ∧ g.2 = j - up
  no : b = false → nextL 2 gs ≠ j - up + 2 ∨ gs = []
section
variable {V0 wr W : World} {g13 T up j n : Nat} {H : Nat → Bool} {gs gs0 : List Gp} {gv v' : Value} {g : Gp}
theorem below_setCell' {V0 w : World} {p : Addr} (h : Below V0.heap.size V0 w) (hp : V0.heap.size ≤ p.block) (u : Value) : Below V0.heap.size V0 (w.setCell p u) :=
  below_fr h ((Fr.refl (fun i => i = p.block) w).setCell (.inl rfl) u) (Nat.le_refl _) (fun i e => by rw [show i = p.block from e]; exact hp)
theorem gapC_app (l l' : List Gp) : gapC (l ++ l') = gapC l ++ gapC l' := by simp [gapC]
theorem gapC_len2 (l : List Gp) : (gapC l).length = l.length * 2 := by
  induction l with
  | nil => rfl
  | cons a l ih =>
    have e : gapC (a :: l) = [Value.int .u16 (a.1 : Int), .int .u16 (a.2 : Int)] ++ gapC l := rfl
    rw [e, List.length_append, ih]
    simp
    omega
theorem GpS.drewN (h : GpS V0 wr g13 T up j H gs gv) (n : Nat) : GpS V0 (wr.drewN n) g13 T up j H gs gv := ⟨below_drewN h.bel n, h.blk, (Fr.refl (fun _ => False) wr).drewN n |>.own h.own (fun _ _ h => h), h.gp, h.g0⟩
theorem GpS.cell14 (h : GpS V0 wr g13 T up j H gs gv) : wr.cell? ⟨g13, 14, none⟩ = some gv := CkBlk.at h.blk rfl
theorem GpS.shape (h : GpS V0 wr g13 T up j H gs gv) (hn : n = gs.length) : ∃ A cp, gv = .slice A n cp ∧ n ≤ cp ∧ cp ≤ 9223372036854775807 := by
  obtain ⟨A, c, e, h1, h2⟩ := own_slice h.own
  exact ⟨A, c, by rw [hn]; exact e, by rw [hn]; exact h1, h2⟩
theorem GpS.no (h : GpS V0 wr g13 T up j H gs gv) (hi : up < j) (hn : H j = false) : GpS V0 wr g13 T up (j + 1) H gs gv := ⟨h.bel, h.blk, h.own, h.gp.no hi hn, h.g0⟩
theorem GpS.few (h : GpS V0 wr g13 T up j H gs gv) (hj : j ≤ 31) : gs.length ≤ 31 := by
  have key : ∀ (l : List Gp) (a far : Nat), gapsOk far a l = true → a ≤ far + 2 → l.length ≤ far + 2 - a := by
    intro l
    induction l with
    | nil => intro a far _ _; exact Nat.zero_le _
    | cons x l ih =>
      intro a far hh ha
      have h' : (decide (a ≤ x.1 ∧ x.1 ≤ x.2 ∧ x.2 ≤ far) && gapsOk far (x.2 + 2) l) = true := hh
      rw [Bool.and_eq_true, decide_eq_true_eq] at h'
      have h2 := ih (x.2 + 2) far h'.2 (by omega)
      rw [List.length_cons]
      omega
  have := key gs 2 (j - up) h.gp.ok (by omega)
  omega
/-- The last gap, in memory. -/
theorem GpS.last (h : GpS V0 wr g13 T up j H (gs0 ++ [g]) gv) (hn : n = gs0.length) : ∃ ga cp, gv = .slice (some ⟨ga, 0, none⟩) (n + 1) cp ∧ n + 1 ≤ cp ∧ cp ≤ 9223372036854775807 ∧ wr.cell? ⟨ga, n * 2 + 1, none⟩ = some (.int .u16 (g.2 : Int)) ∧ wr.frozen? ⟨ga, n * 2 + 1, none⟩ = false ∧ ga ≠ g13 ∧ V0.heap.size ≤ ga := by
  subst hn
  have ho := h.own
  rcases ho.2 with ⟨_, h0⟩ | ⟨ga, cap, cur, rfl, h1, h2, h3, h4, h5, h6⟩
  · rw [List.length_append] at h0; exact absurd h0 (by simp)
  · have e : (gs0 ++ [g]).length = gs0.length + 1 := by simp
    rw [e] at ho h3
    have hb : Blk wr ga 42 cur := h2
    refine ⟨ga, cap, by rw [e], h3, by unfold maxLen at h4; omega, ?_, ho.frozenAt _, hb.ne_ h.blk (by decide), h1⟩
    rw [ho.cellAt (gs0.length * 2 + 1) (by omega), gapC_app, List.getElem?_append_right (by rw [gapC_len2]; omega), gapC_len2]
    rw [show gs0.length * 2 + 1 - gs0.length * 2 = 1 by omega]
    rfl
theorem GpS.grow {ga cp : Nat} (h : GpS V0 wr g13 T up j H (gs0 ++ [g]) (.slice (some ⟨ga, 0, none⟩) (n + 1) cp)) (hn : n = gs0.length) (hi : up < j) (hy : H j = true) (he : g.2 = j - up) {d : Nat} (hd : d = j - up + 1) :
    GpS V0 (wr.setCell ⟨ga, n * 2 + 1, none⟩ (.int .u16 (d : Int))) g13 T up (j + 1) H (gs0 ++ [(g.1, d)]) (.slice (some ⟨ga, 0, none⟩) (n + 1) cp) := by
  subst hn
  have e : (gs0 ++ [g]).length = gs0.length + 1 := by simp
  have e' : (gs0 ++ [(g.1, d)]).length = gs0.length + 1 := by simp
  have ho := h.own
  rw [e] at ho
  have hs := ho.stored (gs0.length * 2 + 1) (.int .u16 (d : Int))
  have hlt := ho.lt ga rfl
  have hne : ga ≠ g13 := by
    rcases ho.2 with ⟨h0, _⟩ | ⟨g', _, cur, h0, _, h2, _⟩
    · cases h0
    · injection h0 with h0 _ _
      injection h0 with h0
      injection h0 with h0 _ _
      have hb : Blk wr g' 42 cur := h2
      rw [h0]
      exact hb.ne_ h.blk (by decide)
  refine ⟨below_setCell' h.bel hlt.1 _, ?_, ?_, ?_, h.g0⟩
  · have hb : CkBlk wr g13 (skGA T (gs0 ++ [(g.1, d)]) (.slice (some ⟨ga, 0, none⟩) (gs0.length + 1) cp)) := h.blk
    exact Blk.far hb (Ne.symm hne) _
  · rw [e']
    have e2 : (gapC (gs0 ++ [g])).set (gs0.length * 2 + 1) (.int .u16 (d : Int)) = gapC (gs0 ++ [(g.1, d)]) := by
      rw [gapC_app, gapC_app, List.set_append_right _ _ (by rw [gapC_len2]; omega), gapC_len2, show gs0.length * 2 + 1 - gs0.length * 2 = 1 by omega]
      rfl
    rw [← e2]
    exact hs.1
  · rw [hd]
    exact h.gp.grow hi hy he
/-- A gap of its own is appended. -/
theorem GpS.more {W : World} {A : Option Addr} {c d : Nat} (h : GpS V0 wr g13 T up j H gs gv) (hi : up < j) (hy : H j = true) (he : nextL 2 gs ≠ j - up + 2 ∨ gs = []) (hd : d = j - up + 1) (hn : n = gs.length + 1)
    (ho : W.ownsRow V0.heap.size 42 2 (.slice A n c) n (gapC gs ++ [.int .u16 (d : Int), .int .u16 (d : Int)])) (hf : Fr (fun i => gv.ownBlock = some i) wr W) :
    GpS V0 (W.setCell ⟨g13, 14, none⟩ (.slice A n c)) g13 T up (j + 1) H (gs ++ [(d, d)]) (.slice A n c) := by
  have hb : CkBlk W g13 (skGA T gs gv) := hf.blk h.blk (fun e => own_blk_ne h.own h.blk (by decide) e)
  have hbel : Below V0.heap.size V0 W := below_fr h.bel hf (Nat.le_refl _) (fun i e => (h.own.lt i e).1)
  refine ⟨below_setCell' hbel h.g0 _, Blk.set_ hb 14 _, ?_, ?_, h.g0⟩
  · have e : (gs ++ [(d, d)]).length = n := by rw [hn]; simp
    have e2 : gapC (gs ++ [(d, d)]) = gapC gs ++ [.int .u16 (d : Int), .int .u16 (d : Int)] := by rw [gapC_app]; rfl
    rw [e, e2]
    exact ((Fr.refl (fun i => i = g13) W).setCell (p := ⟨g13, 14, none⟩) (.inl rfl) _).own ho (fun g e1 e3 => own_blk_ne ho hb (by decide) (by rw [e1, show g = g13 from e3]))
  · rw [hd]
    exact h.gp.more hi hy he
theorem GpS.fin (h : GpS V0 wr g13 T up j H gs gv) (hT : T < 4294967296) (hj : j ≤ 40) : Below V0.heap.size V0 wr ∧ CkBlk wr g13 (skGA T gs gv) ∧ CkAt wr wr.heap.size (skGA T gs gv) (skK T gs) ∧ (∀ (ad : Addr) (n cp : Nat), gv = .slice (some ad) n cp → V0.heap.size ≤ ad.block) ∧ GpI up j H gs := by
  refine ⟨h.bel, h.blk, ?_, fun ad n cp e => (h.own.lt ad.block (by rw [e]; rfl)).1, h.gp⟩
  obtain ⟨A, c, e, h1, h2⟩ := own_slice h.own
  have ho := h.own
  subst e
  have hbd : ∀ (l : List Gp) (a far : Nat), gapsOk far a l = true → ∀ x ∈ l, x.1 ≤ far ∧ x.2 ≤ far := by
    intro l
    induction l with
    | nil => intro a far _ x hx; cases hx
    | cons y l ih =>
      intro a far hh x hx
      have h' : (decide (a ≤ y.1 ∧ y.1 ≤ y.2 ∧ y.2 ≤ far) && gapsOk far (y.2 + 2) l) = true := hh
      rw [Bool.and_eq_true, decide_eq_true_eq] at h'
      rcases List.mem_cons.1 hx with rfl | hx
      · omega
      · exact ih _ _ h'.2 x hx
  exact ck_gaps (skK_ok hT (fun x hx => by have := hbd gs 2 _ h.gp.ok x hx; omega)) rfl rfl rfl rfl rfl h1 h2 (Reads.of_own ho)
theorem GpS.app_own (h : GpS V0 wr g13 T up j H gs gv) (hn : n = gs.length) (o : Obj) : (wr.alloc o).ownsRow V0.heap.size 42 2 gv n (gapC gs) := by
  subst hn
  exact h.own.alloc o
theorem GpS.app_done {A10 : Option Addr} {c10 d : Nat} {o : Obj} (h : GpS V0 wr g13 T up j H gs gv) (hi : up < j) (hy : H j = true) (he : nextL 2 gs ≠ j - up + 2 ∨ gs = []) (hd : d = j - up + 1) (hn : n = gs.length + 1)
    (ho : W.ownsRow V0.heap.size 42 2 (.slice A10 n c10) n (gapC gs ++ [.int .u16 (d : Int), .int .u16 (d : Int)])) (hg : (wr.alloc o).grownBy W gv.ownBlock) :
    W.cell? ⟨g13, 14, none⟩ = some gv ∧ W.frozen? ⟨g13, 14, none⟩ = false ∧ GpS V0 (W.setCell ⟨g13, 14, none⟩ (.slice A10 n c10)) g13 T up (j + 1) H (gs ++ [(d, d)]) (.slice A10 n c10) := by
  have hf : Fr (fun i => gv.ownBlock = some i) wr W := ((Fr.refl _ wr).alloc o).grown hg (fun g e => .inl e)
  have hb : CkBlk W g13 (skGA T gs gv) := hf.blk h.blk (fun e => own_blk_ne h.own h.blk (by decide) e)
  exact ⟨CkBlk.at hb rfl, Blk.frozen hb 14, h.more hi hy he hd hn ho hf⟩
theorem gapC_one1 (d : Nat) : ∀ u ∈ [Value.int .u16 (d : Int), .int .u16 (d : Int)], u.oneCell' = true := by simp [Value.oneCell']
end
end Go.Proofs.Ytfgfiiknbkakaaa.Fl
