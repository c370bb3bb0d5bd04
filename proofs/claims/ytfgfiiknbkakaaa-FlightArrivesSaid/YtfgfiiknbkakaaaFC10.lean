/-
  Of the texts Fl4, FlInv, FlTurn, Fl5: what the laws reach.
-/
import Derived.Test.YtfgfiiknbkakaaaFC9

set_option linter.unusedVariables false
set_option linter.unusedSimpArgs false
set_option maxRecDepth 20000
namespace Go.Proofs.Ytfgfiiknbkakaaa.Fl
open Go.ChangeShapes Go.WideShapes Go.ChangeAt Go.RowKit Go.Deep Go.Maps Go.Proofs.Ytfgfiiknbkakaaa.Words Go.Proofs.Ytfgfiiknbkakaaa.Oct Go.Proofs.Ytfgfiiknbkakaaa.Par Go.Proofs.Ytfgfiiknbkakaaa.Chk Go.Proofs.Ytfgfiiknbkakaaa.Mx
section
variable {w w' : World} {p g o o' off cap i : Nat} {a : Ad} {m : FM} {x x' : XP} {xs : List XP} {v : Value} {fresh : Bool} {S : Nat → Prop}
theorem PsR.at_ (h : PsR w g off cap xs) (hx : xs[i]? = some x) : FrAt w g (off + i * 26) x.1 x.2 := by
  obtain ⟨cur, hb, hs, hc⟩ := h.ex
  exact ⟨fun j hj => (hb.cell _).trans (hc i x hx j hj), kd_blk hb⟩
theorem PsR.frz (h : PsR w g off cap xs) (k : Nat) : w.frozen? ⟨g, k, none⟩ = false := by
  obtain ⟨cur, hb, _⟩ := h.ex
  exact hb.frozen k
/-- One fragment of a row has turned. -/
theorem PsR.upd (h : PsR w g off cap xs) (hx : xs[i]? = some x) (hc : ∀ cur, Blk w g 94 cur → off + cap * 26 = cur.size → (∀ j, j < 26 → cur[off + i * 26 + j]? = (XP.cells x)[j]?) →
    ∃ cur', Blk w' g 94 cur' ∧ cur'.size = cur.size ∧ (∀ k, k < off + i * 26 ∨ off + i * 26 + 26 ≤ k → cur'[k]? = cur[k]?) ∧ ∀ j, j < 26 → cur'[off + i * 26 + j]? = (XP.cells x')[j]?) : PsR w' g off cap (xs.set i x') := by
  obtain ⟨⟨cur, hb, hs, hcc⟩, h1, h2⟩ := h
  obtain ⟨cur', hb', hs', ho, hi⟩ := hc cur hb hs (fun j hj => hcc i x hx j hj)
  refine ⟨⟨cur', hb', by rw [hs']; exact hs, fun k y hy j hj => ?_⟩, by rw [List.length_set]; exact h1, h2⟩
  rw [List.getElem?_set] at hy
  split at hy
  · rename_i e
    subst e
    split at hy
    · injection hy with hy
      subst hy
      exact hi j hj
    · cases hy
  · rename_i e
    rw [ho _ (by omega)]
    exact hcc k y hy j hj
/-- One cell of a fragment. -/
theorem PsR.set1 (h : PsR w g off cap xs) (hx : xs[i]? = some x) {k : Nat} {u : Value} (hk : k < 26) (hc : ∀ j, j < 26 → (XP.cells x')[j]? = if j = k then some u else (XP.cells x)[j]?) : PsR (w.setCell ⟨g, off + i * 26 + k, none⟩ u) g off cap (xs.set i x') :=
  h.upd hx (fun cur hb hs hcc => ⟨_, hb.set_ _ u, by simp, fun n hn => by rw [Array.getElem?_setIfInBounds_ne (by omega)], fun j hj => by
    rw [hc j hj]
    split
    · rename_i e
      subst e
      have h1 := hcc j hj
      have h2 : (XP.cells x)[j]? = some (XP.cells x)[j]! := by
        have : j < (XP.cells x).size := by show j < (frA x.1 x.2).size; rw [frA_size]; exact hj
        simp [this]
      rw [h2] at h1
      have h3 := (Array.getElem?_eq_some_iff.1 h1).1
      rw [Array.getElem?_setIfInBounds_self_of_lt h3]
    · rw [Array.getElem?_setIfInBounds_ne (by omega)]
      exact hcc j hj⟩)
theorem blk_setCells {t : TypeId} : ∀ (vs : List Value) (n : Nat) (w : World) (cur : Array Value), Blk w g t cur → n + vs.length ≤ cur.size →
    ∃ cur', Blk (w.setCells g n vs) g t cur' ∧ cur'.size = cur.size ∧ (∀ k, k < n ∨ n + vs.length ≤ k → cur'[k]? = cur[k]?) ∧ ∀ j, j < vs.length → cur'[n + j]? = vs[j]?
  | [], n, w, cur, h, hn => ⟨cur, h, rfl, fun _ _ => rfl, fun j hj => by simp at hj⟩
  | u :: vs, n, w, cur, h, hn => by
    simp only [List.length_cons] at hn
    obtain ⟨cur', h1, h2, h3, h4⟩ := blk_setCells vs (n + 1) _ _ (h.set_ n u) (by simp; omega)
    refine ⟨cur', h1, by rw [h2]; simp, fun k hk => ?_, fun j hj => ?_⟩
    · simp only [List.length_cons] at hk
      rw [h3 k (by omega), Array.getElem?_setIfInBounds_ne (by omega)]
    · rcases j with _ | j
      · rw [h3 _ (by omega), Nat.add_zero, Array.getElem?_setIfInBounds_self_of_lt (by omega)]
        rfl
      · have := h4 j (by simpa using hj)
        rw [show n + 1 + j = n + (j + 1) by omega] at this
        rw [this]
        rfl
theorem fr_setCells : ∀ (vs : List Value) (n : Nat) (w : World), Fr (fun i => i = g) w (w.setCells g n vs)
  | [], n, w => Fr.refl _ _
  | u :: vs, n, w => (fr_set (p := g) u).same (fr_setCells vs (n + 1) _)
/-- A fragment's chunk. -/
theorem PsR.setC (h : PsR w g off cap xs) (hx : xs[i]? = some x) (hi : i < cap) {c : Ck} {b : Hd} (e : x' = ({ x.1 with c := c }, b)) : PsR (w.setCells g (off + i * 26 + 7) (bareA c b.A c.body.length b.cap).toList) g off cap (xs.set i x') := by
  subst e
  have hl : (bareA c b.A c.body.length b.cap).toList.length = 19 := rfl
  refine h.upd hx (fun cur hb hs hcc => ?_)
  obtain ⟨cur', h1, h2, h3, h4⟩ := blk_setCells (g := g) (bareA c b.A c.body.length b.cap).toList (off + i * 26 + 7) w cur hb (by rw [hl]; omega)
  rw [hl] at h3 h4
  refine ⟨cur', h1, h2, fun k hk => h3 k (by omega), fun j hj => ?_⟩
  rcases Nat.lt_or_ge j 7 with h7 | h7
  · rw [h3 _ (by omega), hcc j hj]
    have : j = 0 ∨ j = 1 ∨ j = 2 ∨ j = 3 ∨ j = 4 ∨ j = 5 ∨ j = 6 := by omega
    rcases this with rfl | rfl | rfl | rfl | rfl | rfl | rfl <;> rfl
  · have := h4 (j - 7) (by omega)
    rw [show off + i * 26 + 7 + (j - 7) = off + i * 26 + j by omega] at this
    rw [this]
    obtain ⟨k, rfl⟩ : ∃ k, j = k + 7 := ⟨j - 7, by omega⟩
    have hk : k < 19 := by omega
    rw [Nat.add_sub_cancel]
    match k, hk with
    | 0, _ => rfl
    | 1, _ => rfl
    | 2, _ => rfl
    | 3, _ => rfl
    | 4, _ => rfl
    | 5, _ => rfl
    | 6, _ => rfl
    | 7, _ => rfl
    | 8, _ => rfl
    | 9, _ => rfl
    | 10, _ => rfl
    | 11, _ => rfl
    | 12, _ => rfl
    | 13, _ => rfl
    | 14, _ => rfl
    | 15, _ => rfl
    | 16, _ => rfl
    | 17, _ => rfl
    | 18, _ => rfl
    | n + 19, h => exact absurd h (by omega)
theorem FlM.rowAt (h : FlM w p a m) (hx : m.xs[i]? = some x) : ∃ g off cap, a.v = .slice (some ⟨g, off, none⟩) m.xs.length cap ∧ m.xs.length ≤ cap ∧ cap ≤ maxLen ∧ PsR w g off cap m.xs ∧ (m.fresh = true → off = 0) ∧ i < m.xs.length := by
  obtain ⟨hl, _⟩ := List.getElem?_eq_some_iff.1 hx
  have hp := h.prt
  generalize hv : a.v = v at hp
  generalize hxs : m.xs = xs at hp hl
  cases hp with
  | nil => simp at hl
  | row h1 h2 => exact ⟨_, _, _, rfl, h1.le, h1.mx, h1, h2, hl⟩
/-- One fragment of a flight has turned. -/
theorem FlM.upd (h : FlM w p a m) (hx : m.xs[i]? = some x) (hv : a.v = .slice (some ⟨g, off, none⟩) m.xs.length cap) (h0 : m.fresh = true → off = 0) (hf : Fr (fun i => i = g) w w') (hr : PsR w' g off cap (m.xs.set i x')) (hb : (XP.bv x' = XP.bv x ∧ x'.1.c.body = x.1.c.body) ∨ (XP.bv x' = nilV ∧ x'.1.c.body = [])) : FlM w' p a { m with xs := m.xs.set i x' } := by
  refine h.prts (ys := m.xs.set i x') (hf.mono fun k _ e => by rw [hv, show k = g from e]; rfl) ?_ (fun y hy => ?_)
  · rw [hv]
    have := PsV.row (fresh := m.fresh) hr h0
    rwa [List.length_set] at this
  · rcases List.mem_or_eq_of_mem_set hy with hy | rfl
    · exact .inl ⟨y, hy, rfl, rfl⟩
    · rcases hb with hb | hb
      · exact .inl ⟨x, List.mem_of_getElem? hx, hb.1, hb.2⟩
      · exact .inr hb
set_option maxHeartbeats 1000000 in
theorem clear_any (h : FlM w p a m) : Calls Try.prog 59 #[eptr p 9] w fun e w' => e = .returned (.tuple #[]) ∧ FlM w' p a { m with rl := 0, lf := fun _ => none } ∧ Fr (fun i => i = p ∨ i = a.la) w w' := by
  have H0 := Lib.hid h
  have c9 : w.cell? ⟨p, 9, none⟩ = some (.int .i64 (m.rl : Int)) := h.blk.cell 9
  have f9 := h.blk.frozen 9
  obtain ⟨W1, hW1⟩ : ∃ W1, W1 = w.setCell ⟨p, 9, none⟩ (.int .i64 0) := ⟨_, rfl⟩
  have h1 : FlM W1 p a { m with rl := 0 } := by rw [hW1]; exact h.set_rl 0
  have hf1 : Fr (fun i => i = p) w W1 := by rw [hW1]; exact fr_set _
  have c10 : W1.cell? ⟨p, 10, none⟩ = some (.map (some a.la)) := h1.blk.cell 10
  obtain ⟨W2, hcl, hm, ht⟩ := mapX_clear h1.lat (t := 84) Try.underlying84 0
  have hcl2 : (Builtin.clear_ #[84] 0 #[.map (some a.la)]).run Try.prog W1 = .ok (.tuple #[]) W2 := hcl
  have hf2 : Fr (fun i => i = a.la) W1 W2 := (Fr.of_grown ht.grown).mono (fun i _ e => by injection e)
  have H2 : Hid (FlM W2 p a { m with rl := 0, lf := fun _ => none }) := h1.lats hf2 hm
  have HF : Hid (Fr (fun i => i = p ∨ i = a.la) w W2) := (hf1.mono fun i _ e => .inl e).same (hf2.mono fun i _ e => .inr e)
  clear h h1 hf1 hf2 hm ht hcl
  go_enter Try.func59, Try.ntmps59
  go_upto_region 1 with (fail)
  rw [← hW1]
  clear hW1 c9 f9
  go_wp2_with fail
  go_end0
  exact ⟨rfl, H2.out, HF.out⟩
theorem FlM.psr {n : Nat} (h : FlM w p a m) (hv : a.v = .slice (some ⟨g, off, none⟩) n cap) : PsR w g off cap m.xs ∧ n = m.xs.length := by
  have hp := h.prt
  rw [hv] at hp
  generalize hxs : m.xs = xs at hp
  generalize hw : Value.slice (some ⟨g, off, none⟩) n cap = v at hp
  cases hp with
  | nil => cases hw
  | row h1 h2 =>
    injection hw with e1 e2 e3
    injection e1 with e1
    injection e1 with e4 e5 _
    subst e3 e4 e5
    exact ⟨h1, e2⟩
theorem wpList_load_midA {P : Program} {ops : Array Oper} {rest : List Oper} {op : Oper} {act : Act} {w : World} {Q : Exit → Act → World → Prop} (hgd : op.guard = none) (ty : TypeId) (x : Operand) (ho : op.op = .load ty x)
    (b o : Nat) (hx : act.eval x = .pointer (some ⟨b, o, none⟩)) (cs : Array Value) (d : TypeDesc) (hc : w.rangeAt b o cs.toList)
    (hu : P.underlying ty = some d) (hd : d.isRow = true) (hi : (P.info? ty).map (·.size) = some cs.size)
    (h : wpList P ops Q rest (act.put op.dst (.agg cs)) w) : wpList P ops Q (op :: rest) act w := by
  refine wpList_load_mid hgd ty x ho b o hx cs.toList d hc hu hd (by rw [hi]; simp) ?_
  rw [Array.toArray_toList]
  exact h
theorem FrAt.range {q : Pt} {b : Hd} (h : FrAt w g o' q b) : w.rangeAt g (o' + 7) (bareA q.c b.A q.c.body.length b.cap).toList := fun j u hu => by
  have hj : j < 19 := by have := (List.getElem?_eq_some_iff.1 hu).1; exact this
  have h1 := h.c (7 + j) (by omega)
  rw [show o' + 7 + j = o' + (7 + j) by omega, h1, ← hu]
  match j, hj with
  | 0, _ => rfl
  | 1, _ => rfl
  | 2, _ => rfl
  | 3, _ => rfl
  | 4, _ => rfl
  | 5, _ => rfl
  | 6, _ => rfl
  | 7, _ => rfl
  | 8, _ => rfl
  | 9, _ => rfl
  | 10, _ => rfl
  | 11, _ => rfl
  | 12, _ => rfl
  | 13, _ => rfl
  | 14, _ => rfl
  | 15, _ => rfl
  | 16, _ => rfl
  | 17, _ => rfl
  | 18, _ => rfl
  | n + 19, h => exact absurd h (by omega)
theorem PsR.there_ (h : PsR w g off cap xs) (hi : i < cap) : w.there g (off + i * 26 + 7) 19 := fun j hj => by
  obtain ⟨cur, hb, hs, _⟩ := h.ex
  refine ⟨?_, hb.frozen _⟩
  rw [hb.cell, Array.getElem?_eq_getElem (by omega)]
  rfl
def turnM (m : FM) (i z : Nat) (x : XP) : FM :=
  let m2 := countM { countM m x.1 (-1) with xs := m.xs.set i ({ x.1 with st := z }, x.2) } { x.1 with st := z } 1
  let m3 := if z = 1 then { m2 with fl := min m.fl i } else if z = 0 then m2 else { m2 with xs := m.xs.set i ({ x.1 with st := z, c := restC x.1.c }, ⟨none, 0⟩) }
  if z = 2 ∧ i < m.rl then { m3 with rl := 0, lf := fun _ => none } else m3
def Sm2 (x : Int) : Prop := -100000000000000000 ≤ x ∧ x ≤ 100000000000000000
structure SmM (m : FM) : Prop where
  nl : Sm2 m.nl
  no : Sm2 m.no
  nb : Sm2 m.nb
  df : ∀ n, Sm2 (m.df n)
theorem countM_sm {z : Int} {q : Pt} (h : SmM m) (hz : z = 1 ∨ z = -1) (hb : q.c.body.length ≤ 1000000) : Sm (countM m q z).nl ∧ Sm (countM m q z).no ∧ Sm (countM m q z).nb ∧ ∀ n, Sm ((countM m q z).df n) := by
  obtain ⟨⟨h1, h2⟩, ⟨h3, h4⟩, ⟨h5, h6⟩, h7⟩ := h
  have hp : -1000000 ≤ z * (q.c.body.length : Int) ∧ z * (q.c.body.length : Int) ≤ 1000000 := by rcases hz with e | e <;> rw [e] <;> omega
  have h8 : ∀ n, Sm (m.df n) := fun n => by obtain ⟨a1, a2⟩ := h7 n; exact ⟨by omega, by omega⟩
  unfold countM
  split
  · refine ⟨⟨by show _ ≤ m.nl + z; omega, by show m.nl + z ≤ _; omega⟩, ?_, ?_, fun n => ?_⟩
    · show Sm (if q.st = 1 then m.no + z else m.no)
      split
      · exact ⟨by omega, by omega⟩
      · exact ⟨by omega, by omega⟩
    · show Sm (if q.st = 1 then m.nb else m.nb + z * (q.c.body.length : Int))
      split
      · exact ⟨by omega, by omega⟩
      · exact ⟨by omega, by omega⟩
    · show Sm ((if q.lk = 2 then fun n => if n = q.ln then m.df n + z else m.df n else m.df) n)
      obtain ⟨a1, a2⟩ := h7 n
      split
      · show Sm (if n = q.ln then m.df n + z else m.df n)
        split
        · exact ⟨by omega, by omega⟩
        · exact ⟨by omega, by omega⟩
      · exact ⟨by omega, by omega⟩
  · exact ⟨⟨by omega, by omega⟩, ⟨by omega, by omega⟩, ⟨by omega, by omega⟩, h8⟩
@[simp] theorem countM_eq (m : FM) (q : Pt) (z : Int) : (countM m q z).xs = m.xs ∧ (countM m q z).fl = m.fl ∧ (countM m q z).rl = m.rl ∧ (countM m q z).fresh = m.fresh ∧ (countM m q z).mark = m.mark ∧ (countM m q z).lf = m.lf := by unfold countM; split <;> exact ⟨rfl, rfl, rfl, rfl, rfl, rfl⟩
/-- The blocks that a fragment's turning may turn. -/
def TS (p : Nat) (a : Ad) (k : Nat) : Prop := k = p ∨ k = a.de ∨ k = a.la ∨ a.v.ownBlock = some k
def TurnDone (w : World) (p : Nat) (a : Ad) (m : FM) (i z : Nat) (x : XP) (e : Ending) (w' : World) : Prop := e = .returned (.tuple #[]) ∧ FlM w' p a (turnM m i z x) ∧ Fr (TS p a) w w'
set_option maxHeartbeats 4000000 in
theorem turn_any (h : FlM w p a m) (hx : m.xs[i]? = some x) {z : Nat} (hz : z ≤ 3) (hs : SmM m) (hb : x.1.c.body.length ≤ 1000000) (hln : x.1.ln < 4294967296) :
    Calls Try.prog 36 #[fptr p, .int .i64 (i : Int), .int .i64 (z : Int)] w (TurnDone w p a m i z x) := by
  obtain ⟨g, off, cap, hv, hle, hcap, hr, h0, hi⟩ := h.rowAt hx
  have c1 : w.cell? ⟨p, 1, none⟩ = some a.v := h.blk.cell 1
  rw [hv] at c1
  obtain ⟨n, hn⟩ : ∃ n, n = m.xs.length := ⟨_, rfl⟩
  rw [← hn] at c1 hi hle hv
  have hi2 : (i : Int) < (n : Int) := by omega
  have hcap2 : cap ≤ 9223372036854775807 := hcap
  obtain ⟨s1, s2, s3, s4⟩ := hs
  obtain ⟨q, b⟩ := x
  have hq : FrAt w g (off + i * 26) q b := hr.at_ hx
  have hc1 := count_any h hq (z := -1) (.inr rfl) ⟨by have := s1.1; omega, by have := s1.2; omega⟩ ⟨by have := s2.1; omega, by have := s2.2; omega⟩ ⟨by have := s3.1; omega, by have := s3.2; omega⟩ ⟨by have := (s4 q.ln).1; omega, by have := (s4 q.ln).2; omega⟩ hb hln
  obtain ⟨t1, t2, t3, t4⟩ := countM_sm (q := q) ⟨s1, s2, s3, s4⟩ (z := -1) (.inr rfl) hb
  have HT1 := Lib.hid t1
  have HT2 := Lib.hid t2
  have HT3 := Lib.hid t3
  have HT4 := Lib.hid t4
  have HV := Lib.hid hv
  have HX := Lib.hid hx
  have HFR := Lib.hid h0
  have HRL : Hid (w.cell? ⟨p, 9, none⟩ = some (.int .i64 (m.rl : Int))) := h.blk.cell 9
  obtain ⟨m1, hm1⟩ : ∃ m1, m1 = countM m q (-1) := ⟨_, rfl⟩
  have HM1 := Lib.hid hm1
  have HB := Lib.hid hb
  have HLN := Lib.hid hln
  clear hn hx hr hv hcap s1 s2 s3 s4 t1 t2 t3 t4 h0 hm1 hb hln hq h
  go_enter Try.func36, Try.ntmps36
  go_wp2_with fail
  refine hc1.mono ?_
  rintro e W1 ⟨rfl, h1, f1⟩
  rw [← HM1.out] at h1
  clear hc1 c1
  have hm1 := HM1.out
  have e1 : m1.xs = m.xs := by rw [hm1]; exact (countM_eq m q (-1)).1
  have hr1 := (h1.psr HV.out).1
  rw [e1] at hr1
  have hq1 := hr1.at_ HX.out
  have c6 : W1.cell? ⟨g, off + i * 26 + 6, none⟩ = some (.int .i64 (q.st : Int)) := hq1.c 6 (by omega)
  have f6 := hr1.frz (off + i * 26 + 6)
  obtain ⟨W2, hW2⟩ : ∃ W2, W2 = W1.setCell ⟨g, off + i * 26 + 6, none⟩ (.int .i64 (z : Int)) := ⟨_, rfl⟩
  obtain ⟨q1, hq1e⟩ : ∃ q1 : Pt, q1 = { q with st := z } := ⟨_, rfl⟩
  have hr2 : PsR W2 g off cap (m.xs.set i (q1, b)) := by
    rw [hW2]
    refine hr1.set1 HX.out (by omega) (fun j hj => ?_)
    rw [hq1e]
    have : j = 0 ∨ j = 1 ∨ j = 2 ∨ j = 3 ∨ j = 4 ∨ j = 5 ∨ j = 6 ∨ 7 ≤ j := by omega
    rcases this with rfl | rfl | rfl | rfl | rfl | rfl | rfl | h7
    · rfl
    · rfl
    · rfl
    · rfl
    · rfl
    · rfl
    · rfl
    · rw [if_neg (by omega)]
      obtain ⟨k, rfl⟩ : ∃ k, j = k + 7 := ⟨j - 7, by omega⟩
      rfl
  have hf2 : Fr (fun k => k = g) W1 W2 := by rw [hW2]; exact fr_set _
  have h2 : FlM W2 p a { m1 with xs := m.xs.set i (q1, b) } := by
    have hx1 : m1.xs[i]? = some (q, b) := by rw [e1]; exact HX.out
    have h3 := h1.upd (x' := (q1, b)) (cap := cap) hx1 (by rw [e1]; have := (h1.psr HV.out).2; rw [e1] at this; rw [← this]; exact HV.out) (fun e => HFR.out (by rw [hm1] at e; rwa [(countM_eq m q (-1)).2.2.2.1] at e)) hf2 (by rw [e1]; exact hr2) (.inl ⟨by rw [hq1e]; rfl, by rw [hq1e]⟩)
    rw [e1] at h3
    exact h3
  have hown : a.v.ownBlock = some g := by rw [HV.out]; rfl
  have HF2 : Hid (Fr (TS p a) w W2) := (f1.mono fun k _ e => e.elim (fun e => .inl e) (fun e => .inr (.inl e))).same (hf2.mono fun k _ e => .inr (.inr (.inr (by rw [hown, show k = g from e]))))
  have hq2 := hr2.at_ (i := i) (x := (q1, b)) (by rw [List.getElem?_set_self (by have := (List.getElem?_eq_some_iff.1 HX.out).1; exact this)])
  have hc3 := count_any h2 hq2 (z := 1) (.inl rfl) (by have := HT1.out; rw [← hm1] at this; exact this) (by have := HT2.out; rw [← hm1] at this; exact this) (by have := HT3.out; rw [← hm1] at this; exact this) (by have := HT4.out q.ln; rw [← hm1] at this; rw [hq1e]; exact this) (by rw [hq1e]; exact HB.out) (by rw [hq1e]; exact HLN.out)
  have HF1 := Lib.hid HF2
  have HQ1 := Lib.hid hq1e
  have HOWN := Lib.hid hown
  obtain ⟨m2, hm2⟩ : ∃ m2, m2 = countM { m1 with xs := m.xs.set i (q1, b) } q1 1 := ⟨_, rfl⟩
  have HM2 := Lib.hid hm2
  unfold CountDone at hc3
  rw [← hm2] at hc3
  clear hm1 e1 hr1 hq1 hr2 hf2 h2 h1 f1 HF2 hq2 hown hm2 HT1 HT2 HT3 HT4 hq1e
  go_upto_region 3 with (fail)
  rw [← hW2]
  clear hW2 c6 f6
  go_wp2_with fail
  refine hc3.mono ?_
  rintro e W3 ⟨rfl, h3, f3⟩
  clear hc3
  have e2 : m2.xs = m.xs.set i (q1, b) := by rw [HM2.out]; exact (countM_eq _ q1 1).1
  have e3 : m2.fl = m.fl := by rw [HM2.out, (countM_eq _ q1 1).2.1]; rw [HM1.out]; exact (countM_eq m q (-1)).2.1
  have e4 : m2.rl = m.rl := by rw [HM2.out, (countM_eq _ q1 1).2.2.1]; rw [HM1.out]; exact (countM_eq m q (-1)).2.2.1
  have e5 : m2.fresh = m.fresh := by rw [HM2.out, (countM_eq _ q1 1).2.2.2.1]; rw [HM1.out]; exact (countM_eq m q (-1)).2.2.2.1
  have eT : m2 = countM { countM m q (-1) with xs := m.xs.set i ({ q with st := z }, b) } { q with st := z } 1 := by rw [HM2.out, HM1.out, HQ1.out]
  have H3 := Lib.hid h3
  have HF3 : Hid (Fr (TS p a) w W3) := HF1.out.same (f3.mono fun k _ e => e.elim (fun e => .inl e) (fun e => .inr (.inl e)))
  have HE2 := Lib.hid e2
  have HE3 := Lib.hid e3
  have HE4 := Lib.hid e4
  have HE5 := Lib.hid e5
  have HET := Lib.hid eT
  have c6 : W3.cell? ⟨p, 6, none⟩ = some (.int .i64 (m.fl : Int)) := by have := h3.blk.cell 6; rw [e3] at this; exact this
  have f6 := h3.blk.frozen 6
  have c9 : W3.cell? ⟨p, 9, none⟩ = some (.int .i64 (m.rl : Int)) := by have := h3.blk.cell 9; rw [e4] at this; exact this
  have hr3 := (h3.psr HV.out).1
  rw [e2] at hr3
  have hx3 : (m.xs.set i (q1, b))[i]? = some (q1, b) := List.getElem?_set_self (List.getElem?_eq_some_iff.1 HX.out).1
  have hq3 := hr3.at_ hx3
  have HR3 := Lib.hid hr3
  have HX3 := Lib.hid hx3
  have HQ3 := Lib.hid hq3
  have hcl := clear_any h3
  clear h3 f3 e2 e3 e4 e5 eT hr3 hx3 hq3 HF1 HM1 HM2 HRL
  have hzz : z = 1 ∨ z = 0 ∨ z = 2 ∨ z = 3 := by omega
  rcases hzz with rfl | rfl | rfl | rfl
  · by_cases hmin : m.fl ≤ i
    · have hm1 : (m.fl : Int) ≤ (i : Int) := by omega
      have hmn : min m.fl i = m.fl := Nat.min_eq_left hmin
      go_upto_region 8 with (fail)
      obtain ⟨W4, hW4⟩ : ∃ W4, W4 = W3.setCell ⟨p, 6, none⟩ (.int .i64 (m.fl : Int)) := ⟨_, rfl⟩
      have H4 : Hid (FlM W4 p a { m2 with fl := min m.fl i }) := by rw [hW4, hmn]; exact H3.out.set_fl _
      have HF4 : Hid (Fr (TS p a) w W4) := HF3.out.same (by rw [hW4]; exact (fr_set _).mono fun k _ e => .inl e)
      rw [← hW4]
      clear hW4 c6 f6 c9 hcl
      go_wp2_with fail
      go_end0
      refine ⟨rfl, ?_, HF4.out⟩
      have e : turnM m i 1 (q, b) = { m2 with fl := min m.fl i } := by
        unfold turnM
        simp only [← HET.out]
        simp
      rw [e]
      exact H4.out
    · have hm1 : ¬ (m.fl : Int) ≤ (i : Int) := by omega
      have hm1' : (i : Int) < (m.fl : Int) := by omega
      have hmn : min m.fl i = i := Nat.min_eq_right (by omega)
      go_upto_region 8 with (fail)
      obtain ⟨W4, hW4⟩ : ∃ W4, W4 = W3.setCell ⟨p, 6, none⟩ (.int .i64 (i : Int)) := ⟨_, rfl⟩
      have H4 : Hid (FlM W4 p a { m2 with fl := min m.fl i }) := by rw [hW4, hmn]; exact H3.out.set_fl _
      have HF4 : Hid (Fr (TS p a) w W4) := HF3.out.same (by rw [hW4]; exact (fr_set _).mono fun k _ e => .inl e)
      rw [← hW4]
      clear hW4 c6 f6 c9 hcl
      go_wp2_with fail
      go_end0
      refine ⟨rfl, ?_, HF4.out⟩
      have e : turnM m i 1 (q, b) = { m2 with fl := min m.fl i } := by
        unfold turnM
        simp only [← HET.out]
        simp
      rw [e]
      exact H4.out
  · have hl := left_any (w := W3) (g := g) (o := off + i * 26) (st := 0) (by have := HQ3.out.c 6 (by omega); rw [this, HQ1.out]; rfl)
    rw [show ((0 : Nat) == 0 || (0 : Nat) == 1) = true from rfl] at hl
    clear hcl c6 f6
    go_wp2_with (go_at_call 44; refine hl.mono ?_; rintro e w' ⟨rfl, rfl⟩)
    go_end0
    refine ⟨rfl, ?_, HF3.out⟩
    have e : turnM m i 0 (q, b) = m2 := by
      unfold turnM
      simp only [← HET.out]
      simp
    rw [e]
    exact H3.out
  · have hl := left_any (w := W3) (g := g) (o := off + i * 26) (st := 2) (by have := HQ3.out.c 6 (by omega); rw [this, HQ1.out]; rfl)
    rw [show ((2 : Nat) == 0 || (2 : Nat) == 1) = false from rfl] at hl
    have hrs := rest_any q1.c b.A q1.c.body.length b.cap W3
    have HRG : Hid (W3.rangeAt g (off + i * 26 + 7) (bareA q1.c b.A q1.c.body.length b.cap).toList) := HQ3.out.range
    obtain ⟨cs, hcs⟩ : ∃ cs, cs = bareA q1.c b.A q1.c.body.length b.cap := ⟨_, rfl⟩
    rw [← hcs] at hrs HRG
    have HCS : Hid ((Try.prog.info? 35).map (·.size) = some cs.size) := by rw [hcs]; exact chunk_info
    obtain ⟨R, hR⟩ : ∃ R, R = bareA (restC q1.c) none 0 0 := ⟨_, rfl⟩
    rw [← hR] at hrs
    have HR := Lib.hid hR
    have HR1 : Hid (R.all (·.oneCell') = true) := by rw [hR]; exact bareA_one _ _ _ _
    have HRS : Hid (R.size = 19) := by rw [hR]; rfl
    have HCI : Hid ((Try.prog.info? 35).map (·.size) = some R.size) := by rw [HRS.out]; exact chunk_info
    clear hcs hR hcl
    go_wp2_with (first
      | (go_at_call 44; refine hl.mono ?_; rintro e w' ⟨rfl, rfl⟩)
      | (refine wpList_load_midA rfl 35 _ rfl g (off + i * 26 + 7) rfl cs _ HRG.out Try.underlying35 rfl HCS.out ?_))
    refine hrs.mono ?_
    rintro e W4 ⟨rfl, hb4⟩
    have H4 := Lib.hid (H3.out.below hb4)
    have HF4 : Hid (Fr (TS p a) w W4) := HF3.out.grows hb4
    have hr4 := (H4.out.psr HV.out).1
    rw [HE2.out] at hr4
    have hic : i < cap := by omega
    have hth : W4.there g (off + i * 26 + 7) R.size := by rw [HRS.out]; exact hr4.there_ hic
    obtain ⟨W5, hW5⟩ : ∃ W5, W5 = W4.setCells g (off + i * 26 + 7) R.toList := ⟨_, rfl⟩
    have hr5 : PsR W5 g off cap ((m.xs.set i (q1, b)).set i ({ q1 with c := restC q1.c }, ⟨none, 0⟩)) := by
      rw [hW5, HR.out]
      exact hr4.setC (c := restC q1.c) (b := ⟨none, 0⟩) HX3.out hic rfl
    have hf5 : Fr (fun k => k = g) W4 W5 := by rw [hW5]; exact fr_setCells _ _ _
    have hx2 : m2.xs[i]? = some (q1, b) := by rw [HE2.out]; exact HX3.out
    have hlen : n = m2.xs.length := (H4.out.psr HV.out).2
    have h5 : FlM W5 p a { m2 with xs := m.xs.set i ({ q1 with c := restC q1.c }, ⟨none, 0⟩) } := by
      have h6 := H4.out.upd (x' := ({ q1 with c := restC q1.c }, ⟨none, 0⟩)) (cap := cap) (w' := W5) hx2 (by rw [← hlen]; exact HV.out) (fun e => HFR.out (by rwa [HE5.out] at e)) hf5 (by rw [HE2.out]; exact hr5) (.inr ⟨rfl, rfl⟩)
      rw [HE2.out, List.set_set] at h6
      exact h6
    have H5 := Lib.hid h5
    have HF5 : Hid (Fr (TS p a) w W5) := HF4.out.same (hf5.mono fun k _ e => .inr (.inr (.inr (by rw [HOWN.out, show k = g from e]))))
    have HTH := Lib.hid hth
    have c9' : W5.cell? ⟨p, 9, none⟩ = some (.int .i64 (m.rl : Int)) := by have := h5.blk.cell 9; rw [show ({ m2 with xs := m.xs.set i ({ q1 with c := restC q1.c }, ⟨none, 0⟩) } : FM).rl = m.rl from HE4.out] at this; exact this
    have hcl := clear_any h5
    clear hr4 hth hr5 hf5 hx2 hlen h5 hb4 hrs hl HF3 HF4 H3
    go_upto_region 8 with (refine wpList_store_mid rfl 35 _ _ rfl g (off + i * 26 + 7) R rfl rfl HTH.out HCI.out HR1.out ?_)
    rw [← hW5]
    clear hW5 HTH c6 f6 c9
    have eq1 : restC q1.c = restC q.c := by rw [HQ1.out]
    by_cases hrl : i < m.rl
    · have hrl2 : (i : Int) < (m.rl : Int) := by omega
      go_wp2_with fail
      refine hcl.mono ?_
      rintro e W6 ⟨rfl, h6, f6⟩
      have H6 := Lib.hid h6
      have HF6 : Hid (Fr (TS p a) w W6) := HF5.out.same (f6.mono fun k _ e => e.elim (fun e => .inl e) (fun e => .inr (.inr (.inl e))))
      clear hcl h6 f6
      go_wp2_with fail
      go_end0
      refine ⟨rfl, ?_, HF6.out⟩
      have e : turnM m i 2 (q, b) = { m2 with xs := m.xs.set i ({ q1 with c := restC q1.c }, ⟨none, 0⟩), rl := 0, lf := fun _ => none } := by
        unfold turnM
        simp only [← HET.out]
        rw [eq1, HQ1.out, if_pos ⟨trivial, hrl⟩]
        simp
      rw [e]
      exact H6.out
    · have hrl2 : ¬ (i : Int) < (m.rl : Int) := by omega
      go_wp2_with fail
      go_end0
      refine ⟨rfl, ?_, HF5.out⟩
      have e : turnM m i 2 (q, b) = { m2 with xs := m.xs.set i ({ q1 with c := restC q1.c }, ⟨none, 0⟩) } := by
        unfold turnM
        simp only [← HET.out]
        rw [eq1, HQ1.out, if_neg (fun h => hrl h.2)]
        simp
      rw [e]
      exact H5.out
  · have hl := left_any (w := W3) (g := g) (o := off + i * 26) (st := 3) (by have := HQ3.out.c 6 (by omega); rw [this, HQ1.out]; rfl)
    rw [show ((3 : Nat) == 0 || (3 : Nat) == 1) = false from rfl] at hl
    have hrs := rest_any q1.c b.A q1.c.body.length b.cap W3
    have HRG : Hid (W3.rangeAt g (off + i * 26 + 7) (bareA q1.c b.A q1.c.body.length b.cap).toList) := HQ3.out.range
    obtain ⟨cs, hcs⟩ : ∃ cs, cs = bareA q1.c b.A q1.c.body.length b.cap := ⟨_, rfl⟩
    rw [← hcs] at hrs HRG
    have HCS : Hid ((Try.prog.info? 35).map (·.size) = some cs.size) := by rw [hcs]; exact chunk_info
    obtain ⟨R, hR⟩ : ∃ R, R = bareA (restC q1.c) none 0 0 := ⟨_, rfl⟩
    rw [← hR] at hrs
    have HR := Lib.hid hR
    have HR1 : Hid (R.all (·.oneCell') = true) := by rw [hR]; exact bareA_one _ _ _ _
    have HRS : Hid (R.size = 19) := by rw [hR]; rfl
    have HCI : Hid ((Try.prog.info? 35).map (·.size) = some R.size) := by rw [HRS.out]; exact chunk_info
    clear hcs hR hcl
    go_wp2_with (first
      | (go_at_call 44; refine hl.mono ?_; rintro e w' ⟨rfl, rfl⟩)
      | (refine wpList_load_midA rfl 35 _ rfl g (off + i * 26 + 7) rfl cs _ HRG.out Try.underlying35 rfl HCS.out ?_))
    refine hrs.mono ?_
    rintro e W4 ⟨rfl, hb4⟩
    have H4 := Lib.hid (H3.out.below hb4)
    have HF4 : Hid (Fr (TS p a) w W4) := HF3.out.grows hb4
    have hr4 := (H4.out.psr HV.out).1
    rw [HE2.out] at hr4
    have hic : i < cap := by omega
    have hth : W4.there g (off + i * 26 + 7) R.size := by rw [HRS.out]; exact hr4.there_ hic
    obtain ⟨W5, hW5⟩ : ∃ W5, W5 = W4.setCells g (off + i * 26 + 7) R.toList := ⟨_, rfl⟩
    have hr5 : PsR W5 g off cap ((m.xs.set i (q1, b)).set i ({ q1 with c := restC q1.c }, ⟨none, 0⟩)) := by
      rw [hW5, HR.out]
      exact hr4.setC (c := restC q1.c) (b := ⟨none, 0⟩) HX3.out hic rfl
    have hf5 : Fr (fun k => k = g) W4 W5 := by rw [hW5]; exact fr_setCells _ _ _
    have hx2 : m2.xs[i]? = some (q1, b) := by rw [HE2.out]; exact HX3.out
    have hlen : n = m2.xs.length := (H4.out.psr HV.out).2
    have h5 : FlM W5 p a { m2 with xs := m.xs.set i ({ q1 with c := restC q1.c }, ⟨none, 0⟩) } := by
      have h6 := H4.out.upd (x' := ({ q1 with c := restC q1.c }, ⟨none, 0⟩)) (cap := cap) (w' := W5) hx2 (by rw [← hlen]; exact HV.out) (fun e => HFR.out (by rwa [HE5.out] at e)) hf5 (by rw [HE2.out]; exact hr5) (.inr ⟨rfl, rfl⟩)
      rw [HE2.out, List.set_set] at h6
      exact h6
    have H5 := Lib.hid h5
    have HF5 : Hid (Fr (TS p a) w W5) := HF4.out.same (hf5.mono fun k _ e => .inr (.inr (.inr (by rw [HOWN.out, show k = g from e]))))
    have HTH := Lib.hid hth
    have c9' : W5.cell? ⟨p, 9, none⟩ = some (.int .i64 (m.rl : Int)) := by have := h5.blk.cell 9; rw [show ({ m2 with xs := m.xs.set i ({ q1 with c := restC q1.c }, ⟨none, 0⟩) } : FM).rl = m.rl from HE4.out] at this; exact this
    have hcl := clear_any h5
    clear hr4 hth hr5 hf5 hx2 hlen h5 hb4 hrs hl HF3 HF4 H3
    go_upto_region 8 with (refine wpList_store_mid rfl 35 _ _ rfl g (off + i * 26 + 7) R rfl rfl HTH.out HCI.out HR1.out ?_)
    rw [← hW5]
    clear hW5 HTH c6 f6 c9
    have eq1 : restC q1.c = restC q.c := by rw [HQ1.out]
    go_wp2_with fail
    go_end0
    refine ⟨rfl, ?_, HF5.out⟩
    have e : turnM m i 3 (q, b) = { m2 with xs := m.xs.set i ({ q1 with c := restC q1.c }, ⟨none, 0⟩) } := by
      unfold turnM
      simp only [← HET.out]
      rw [eq1, HQ1.out]
      simp
    rw [e]
    exact H5.out
end
end Go.Proofs.Ytfgfiiknbkakaaa.Fl

set_option linter.unusedVariables false
set_option linter.unusedSimpArgs false
namespace Go.Proofs.Ytfgfiiknbkakaaa.Fl
open Go.Proofs.Ytfgfiiknbkakaaa.Chk
theorem mid_split {α : Type} {l : List α} {i : Nat} {x : α} (h : l[i]? = some x) : l = l.take i ++ x :: l.drop (i + 1) := by
  obtain ⟨hi, hx⟩ := List.getElem?_eq_some_iff.1 h
  conv => lhs; rw [← List.take_append_drop i l]
  rw [List.drop_eq_getElem_cons hi, hx]
theorem mid_mod {α : Type} {l : List α} {i : Nat} {x : α} (h : l[i]? = some x) (f : α → α) : l.modify i f = l.take i ++ f x :: l.drop (i + 1) := by
  obtain ⟨hi, hx⟩ := List.getElem?_eq_some_iff.1 h
  rw [List.modify_eq_take_cons_drop hi, hx]
theorem mid_count {α : Type} {l : List α} {i : Nat} {x : α} (h : l[i]? = some x) (f : α → α) (b : α → Bool) : ((l.modify i f).countP b : Int) = (l.countP b : Int) - (if b x = true then 1 else 0) + (if b (f x) = true then 1 else 0) := by
  rw [mid_mod h]
  conv => rhs; rw [mid_split h]
  simp only [List.countP_append, List.countP_cons]
  split <;> split <;> simp <;> omega
theorem mid_sum {α : Type} {l : List α} {i : Nat} {x : α} (h : l[i]? = some x) (f : α → α) (b : α → Nat) : ((((l.modify i f).map b).sum : Nat) : Int) = (((l.map b).sum : Nat) : Int) - (b x : Int) + (b (f x) : Int) := by
  rw [mid_mod h]
  conv => rhs; rw [mid_split h]
  simp only [List.map_append, List.map_cons, List.sum_append, List.sum_cons]
  omega
theorem mod_get {α : Type} (l : List α) (i j : Nat) (f : α → α) : (l.modify i f)[j]? = if i = j then (l[j]?).map f else l[j]? := by
  rw [List.getElem?_modify]
  split
  · rename_i h; subst h; cases l[i]? <;> simp
  · rename_i h; cases l[j]? <;> simp
theorem dist_tsn {mark i : Nat} (hm : mark < 4294967296) (hi : i < 4294967295) : Ser.dist (mark : Int) (tsnOf mark i : Int) = (i : Int) + 1 := by
  unfold Ser.dist tsnOf
  omega
theorem tsn_inj {mark i j : Nat} (hi : i < 4294967295) (hj : j < 4294967295) (h : tsnOf mark i = tsnOf mark j) : i = j := by
  unfold tsnOf at h
  omega
def dlP (n : Nat) (p : Pt) : Bool := p.left && (decide (p.lk = 2) && decide (p.ln = n))
def dl (ps : List Pt) (n : Nat) : Nat := ps.countP (dlP n)
structure PtOk (p : Pt) : Prop where
  m : i64ok p.m
  lk : p.lk < 256
  ln : p.ln < 4294967296
  sent : p.sent < 18446744073709551616
  wn : p.wn < 4294967296
  mi : p.mi ≤ 3
  st : p.st ≤ 3
  ok : p.c.ok
  bare : Bare p.c
  len : p.c.body.length ≤ 1000000
/-- Each message's rows of numbers, by their places. -/
structure NumOk (ps : List Pt) (pl : Int → List Nat) : Prop where
  up : ∀ k, (pl k).Pairwise (· < ·)
  at_ : ∀ k j, j ∈ pl k → ∃ p, ps[j]? = some p ∧ p.m = k
  all : ∀ (j : Nat) p, ps[j]? = some p → p.left = true → j ∈ pl p.m
structure IvM (m : FM) (s : FS) : Prop where
  mk_ : m.mark = s.mark
  ps : m.xs.map (·.1) = s.ps
  nb : m.nb = (s.bytes : Int)
  nl : m.nl = (s.left : Int)
  no : m.no = (s.losses : Int)
  fl : m.fl ≤ s.ps.length ∧ ∀ (j : Nat) p, j < m.fl → s.ps[j]? = some p → p.st ≠ 1
  rl : m.rl ≤ s.ps.length ∧ (∀ (j : Nat) p, j < m.rl → s.ps[j]? = some p → p.st = 3) ∧ m.lf = (s.ps.take m.rl).foldl latF fun _ => none
  gone : m.gone = s.gone
  nums : ∃ pl, NumOk s.ps pl ∧ ∀ k, m.nums k = (pl k).map (tsnOf s.mark)
  df : ∀ n, m.df n = (dl s.ps n : Int)
  fresh : m.fresh = s.fresh
  ms : m.ms = s.ms
  mark : s.mark < 4294967296
  len : s.ps.length ≤ s.ms.length ∧ s.ms.length ≤ 1048576
  ok : ∀ p ∈ s.ps, PtOk p
  pm : ∀ p ∈ s.ps, p.m ∈ s.ms
/-- What is in flight was missed less than three times. -/
def MiOk (s : FS) : Prop := ∀ p ∈ s.ps, p.st = 0 → p.mi ≤ 2
section
variable {m : FM} {s : FS} {i z : Nat} {x : XP}
theorem IvM.at_ (h : IvM m s) (hx : m.xs[i]? = some x) : s.ps[i]? = some x.1 := by rw [← h.ps, List.getElem?_map, hx]; rfl
theorem IvM.has (h : IvM m s) {p : Pt} (hp : s.ps[i]? = some p) : ∃ b, m.xs[i]? = some (p, b) := by
  rw [← h.ps, List.getElem?_map] at hp
  cases hx : m.xs[i]? with
  | none => rw [hx] at hp; cases hp
  | some x => rw [hx] at hp; injection hp with hp; exact ⟨x.2, by rw [← hp]⟩
theorem IvM.lt (h : IvM m s) : s.ps.length ≤ 1048576 := Nat.le_trans h.len.1 h.len.2
theorem sum_le (ps : List Pt) (h : ∀ p ∈ ps, PtOk p) : (ps.map bytesP).sum ≤ ps.length * 1000000 := by
  induction ps with
  | nil => simp
  | cons p ps ih =>
    have h1 := ih (fun q hq => h q (List.mem_cons_of_mem _ hq))
    have h2 := (h p List.mem_cons_self).len
    have h3 : bytesP p ≤ 1000000 := by unfold bytesP; split <;> omega
    simp only [List.map_cons, List.sum_cons, List.length_cons]
    omega
theorem IvM.sm (h : IvM m s) : SmM m := by
  have hl := h.lt
  refine ⟨?_, ?_, ?_, fun n => ?_⟩
  · rw [h.nl]
    have : s.left ≤ s.ps.length := List.countP_le_length
    exact ⟨by omega, by omega⟩
  · rw [h.no]
    have : s.losses ≤ s.ps.length := List.countP_le_length
    exact ⟨by omega, by omega⟩
  · rw [h.nb]
    have : s.bytes ≤ s.ps.length * 1000000 := sum_le s.ps h.ok
    exact ⟨by omega, by omega⟩
  · rw [h.df]
    have : dl s.ps n ≤ s.ps.length := List.countP_le_length
    exact ⟨by omega, by omega⟩
theorem rest_ok {c : Ck} (h : c.ok) : (restC c).ok :=
  ⟨by show 0 < _; omega, by show 0 < _; omega, h.st, h.mid, by show 0 < _; omega, by show 0 < _; omega, by show 0 < _; omega, by show 0 < _; omega, by show 0 < _; omega, by show 0 < _; omega, fun _ h => by simp [restC, zeroC] at h, fun _ h => by simp [restC, zeroC] at h, fun _ h => by simp [restC, zeroC] at h, fun _ h => by simp [restC, zeroC] at h⟩
theorem PtOk.turn {p : Pt} (h : PtOk p) (hz : z ≤ 3) : PtOk (p.turn z) := by
  unfold Pt.turn
  rcases Nat.lt_or_ge 1 z with h1 | h1
  · rw [if_neg (by omega)]
    exact ⟨h.m, h.lk, h.ln, h.sent, h.wn, h.mi, hz, rest_ok h.ok, ⟨rfl, rfl, rfl, rfl⟩, by show 0 ≤ _; omega⟩
  · rw [if_pos h1]
    exact ⟨h.m, h.lk, h.ln, h.sent, h.wn, h.mi, hz, h.ok, h.bare, h.len⟩
theorem turn_left (p : Pt) (hz : z ≤ 3) : (p.turn z).left = decide (z ≤ 1) := by
  have : z = 0 ∨ z = 1 ∨ z = 2 ∨ z = 3 := by omega
  rcases this with rfl | rfl | rfl | rfl <;> rfl
def turnX (z : Nat) (x : XP) : XP := if z ≤ 1 then ({ x.1 with st := z }, x.2) else ({ x.1 with st := z, c := restC x.1.c }, ⟨none, 0⟩)
theorem turnX_fst (z : Nat) (x : XP) : (turnX z x).1 = x.1.turn z := by
  unfold turnX Pt.turn
  split <;> rfl
theorem turnM_xs (m : FM) (i : Nat) (x : XP) : (turnM m i z x).xs = m.xs.set i (turnX z x) := by
  unfold turnM turnX
  have e : ∀ (m0 : FM) q, (countM m0 q 1).xs = m0.xs := fun m0 q => (countM_eq m0 q 1).1
  by_cases h1 : z = 1
  · subst h1; simp [e]
  · by_cases h0 : z = 0
    · subst h0; simp [e]
    · have h2 : ¬ z ≤ 1 := by omega
      simp only [if_neg h1, if_neg h0, if_neg h2]
      split <;> rfl
theorem countM_other (m : FM) (q : Pt) (y : Int) : (countM m q y).mark = m.mark ∧ (countM m q y).gone = m.gone ∧ (countM m q y).nums = m.nums ∧ (countM m q y).fresh = m.fresh ∧ (countM m q y).ms = m.ms ∧ (countM m q y).fl = m.fl ∧ (countM m q y).rl = m.rl ∧ (countM m q y).lf = m.lf := by
  unfold countM; split <;> exact ⟨rfl, rfl, rfl, rfl, rfl, rfl, rfl, rfl⟩
theorem turnM_other (m : FM) (i : Nat) (x : XP) : (turnM m i z x).mark = m.mark ∧ (turnM m i z x).gone = m.gone ∧ (turnM m i z x).nums = m.nums ∧ (turnM m i z x).fresh = m.fresh ∧ (turnM m i z x).ms = m.ms := by
  have h1 := fun m0 q => countM_other m0 q 1
  have h2 := countM_other m x.1 (-1)
  unfold turnM
  by_cases hz1 : z = 1
  · simp only [if_pos hz1]
    split
    · omega
    · exact ⟨by rw [(h1 _ _).1]; exact h2.1, by rw [(h1 _ _).2.1]; exact h2.2.1, by rw [(h1 _ _).2.2.1]; exact h2.2.2.1, by rw [(h1 _ _).2.2.2.1]; exact h2.2.2.2.1, by rw [(h1 _ _).2.2.2.2.1]; exact h2.2.2.2.2.1⟩
  · by_cases hz0 : z = 0
    · simp only [if_neg hz1, if_pos hz0]
      split
      · omega
      · exact ⟨by rw [(h1 _ _).1]; exact h2.1, by rw [(h1 _ _).2.1]; exact h2.2.1, by rw [(h1 _ _).2.2.1]; exact h2.2.2.1, by rw [(h1 _ _).2.2.2.1]; exact h2.2.2.2.1, by rw [(h1 _ _).2.2.2.2.1]; exact h2.2.2.2.2.1⟩
    · simp only [if_neg hz1, if_neg hz0]
      split
      · exact ⟨by show (countM _ _ _).mark = _; rw [(h1 _ _).1]; exact h2.1, by show (countM _ _ _).gone = _; rw [(h1 _ _).2.1]; exact h2.2.1, by show (countM _ _ _).nums = _; rw [(h1 _ _).2.2.1]; exact h2.2.2.1, by show (countM _ _ _).fresh = _; rw [(h1 _ _).2.2.2.1]; exact h2.2.2.2.1, by show (countM _ _ _).ms = _; rw [(h1 _ _).2.2.2.2.1]; exact h2.2.2.2.2.1⟩
      · exact ⟨by show (countM _ _ _).mark = _; rw [(h1 _ _).1]; exact h2.1, by show (countM _ _ _).gone = _; rw [(h1 _ _).2.1]; exact h2.2.1, by show (countM _ _ _).nums = _; rw [(h1 _ _).2.2.1]; exact h2.2.2.1, by show (countM _ _ _).fresh = _; rw [(h1 _ _).2.2.2.1]; exact h2.2.2.2.1, by show (countM _ _ _).ms = _; rw [(h1 _ _).2.2.2.2.1]; exact h2.2.2.2.2.1⟩
theorem turnM_fl (m : FM) (i : Nat) (x : XP) : (turnM m i z x).fl = if z = 1 then min m.fl i else m.fl := by
  have h1 := fun m0 q => (countM_other m0 q 1).2.2.2.2.2.1
  have h2 := (countM_other m x.1 (-1)).2.2.2.2.2.1
  unfold turnM
  by_cases hz1 : z = 1
  · simp only [if_pos hz1]
    split
    · rfl
    · rfl
  · by_cases hz0 : z = 0
    · simp only [if_neg hz1, if_pos hz0]
      split
      · omega
      · rw [h1]; exact h2
    · simp only [if_neg hz1, if_neg hz0]
      split
      · show (countM _ _ _).fl = _; rw [h1]; exact h2
      · show (countM _ _ _).fl = _; rw [h1]; exact h2
theorem turnM_rl (m : FM) (i : Nat) (x : XP) : (turnM m i z x).rl = (if z = 2 ∧ i < m.rl then 0 else m.rl) ∧ (turnM m i z x).lf = (if z = 2 ∧ i < m.rl then (fun _ => none) else m.lf) := by
  have h1 := fun m0 q => (countM_other m0 q 1).2.2.2.2.2.2
  have h2 := (countM_other m x.1 (-1)).2.2.2.2.2.2
  unfold turnM
  by_cases hc : z = 2 ∧ i < m.rl
  · simp only [if_pos hc]
    exact ⟨trivial, trivial⟩
  · simp only [if_neg hc]
    by_cases hz1 : z = 1
    · simp only [if_pos hz1]
      exact ⟨by show (countM _ _ _).rl = _; rw [(h1 _ _).1]; exact h2.1, by show (countM _ _ _).lf = _; rw [(h1 _ _).2]; exact h2.2⟩
    · by_cases hz0 : z = 0
      · simp only [if_neg hz1, if_pos hz0]
        exact ⟨by rw [(h1 _ _).1]; exact h2.1, by rw [(h1 _ _).2]; exact h2.2⟩
      · simp only [if_neg hz1, if_neg hz0]
        exact ⟨by show (countM _ _ _).rl = _; rw [(h1 _ _).1]; exact h2.1, by show (countM _ _ _).lf = _; rw [(h1 _ _).2]; exact h2.2⟩
/-- The counts. -/
theorem turnM_cnt (m : FM) (i : Nat) (x : XP) : let q := x.1; let q1 : Pt := { x.1 with st := z };
    (turnM m i z x).nl = m.nl - (if q.left = true then 1 else 0) + (if q1.left = true then 1 else 0) ∧
    (turnM m i z x).no = m.no - (if q.left = true ∧ q.st = 1 then 1 else 0) + (if q1.left = true ∧ z = 1 then 1 else 0) ∧
    (turnM m i z x).nb = m.nb - (if q.left = true ∧ q.st ≠ 1 then (q.c.body.length : Int) else 0) + (if q1.left = true ∧ z ≠ 1 then (q.c.body.length : Int) else 0) ∧
    ∀ n, (turnM m i z x).df n = m.df n - (if q.left = true ∧ q.lk = 2 ∧ q.ln = n then 1 else 0) + (if q1.left = true ∧ q.lk = 2 ∧ q.ln = n then 1 else 0) := by
  have hA : ∀ (m0 : FM) (q : Pt) (y : Int), (countM m0 q y).nl = m0.nl + (if q.left = true then y else 0) ∧ (countM m0 q y).no = m0.no + (if q.left = true ∧ q.st = 1 then y else 0) ∧ (countM m0 q y).nb = m0.nb + (if q.left = true ∧ q.st ≠ 1 then y * (q.c.body.length : Int) else 0) ∧ ∀ n, (countM m0 q y).df n = m0.df n + (if q.left = true ∧ q.lk = 2 ∧ q.ln = n then y else 0) := by
    intro m0 q y
    unfold countM
    by_cases hl : q.left = true
    · simp only [hl, if_true, true_and]
      refine ⟨?_, ?_, fun n => ?_⟩
      · split <;> simp
      · split <;> rename_i hh <;> simp [hh]
      · by_cases h2 : q.lk = 2
        · simp only [h2, if_true, true_and]
          by_cases h3 : n = q.ln
          · subst h3; simp
          · rw [if_neg h3, if_neg (fun e => h3 e.symm)]; simp
        · simp [h2]
    · simp [hl]
  have hB : ∀ m2 : FM, m2 = countM { countM m x.1 (-1) with xs := m.xs.set i ({ x.1 with st := z }, x.2) } { x.1 with st := z } 1 → (turnM m i z x).nl = m2.nl ∧ (turnM m i z x).no = m2.no ∧ (turnM m i z x).nb = m2.nb ∧ (turnM m i z x).df = m2.df := by
    intro m2 e
    unfold turnM
    simp only [← e]
    by_cases hc : z = 2 ∧ i < m.rl
    · simp only [if_pos hc]
      have : ¬ z = 1 ∧ ¬ z = 0 := by omega
      simp only [if_neg this.1, if_neg this.2]
      exact ⟨trivial, trivial, trivial, trivial⟩
    · simp only [if_neg hc]
      by_cases h1 : z = 1
      · simp only [if_pos h1]; exact ⟨trivial, trivial, trivial, trivial⟩
      · by_cases h0 : z = 0
        · simp only [if_neg h1, if_pos h0]; exact ⟨trivial, trivial, trivial, trivial⟩
        · simp only [if_neg h1, if_neg h0]; exact ⟨trivial, trivial, trivial, trivial⟩
  obtain ⟨b1, b2, b3, b4⟩ := hB _ rfl
  obtain ⟨c1, c2, c3, c4⟩ := hA { countM m x.1 (-1) with xs := m.xs.set i ({ x.1 with st := z }, x.2) } { x.1 with st := z } 1
  obtain ⟨d1, d2, d3, d4⟩ := hA m x.1 (-1)
  intro q q1
  refine ⟨?_, ?_, ?_, fun n => ?_⟩
  · rw [b1, c1]
    show (countM m x.1 (-1)).nl + _ = _
    rw [d1]
    show m.nl + (if q.left = true then -1 else 0) + (if q1.left = true then 1 else 0) = _
    split <;> omega
  · rw [b2, c2]
    show (countM m x.1 (-1)).no + _ = _
    rw [d2]
    show m.no + (if q.left = true ∧ q.st = 1 then -1 else 0) + (if q1.left = true ∧ z = 1 then 1 else 0) = _
    split <;> omega
  · rw [b3, c3]
    show (countM m x.1 (-1)).nb + _ = _
    rw [d3]
    show m.nb + (if q.left = true ∧ q.st ≠ 1 then -1 * (q.c.body.length : Int) else 0) + (if q1.left = true ∧ z ≠ 1 then 1 * (q.c.body.length : Int) else 0) = _
    split <;> split <;> omega
  · rw [b4, c4]
    show (countM m x.1 (-1)).df n + _ = _
    rw [d4]
    show m.df n + (if q.left = true ∧ q.lk = 2 ∧ q.ln = n then -1 else 0) + (if q1.left = true ∧ q.lk = 2 ∧ q.ln = n then 1 else 0) = _
    split <;> omega
end
end Go.Proofs.Ytfgfiiknbkakaaa.Fl

set_option linter.unusedVariables false
set_option linter.unusedSimpArgs false
namespace Go.Proofs.Ytfgfiiknbkakaaa.Fl
open Go.ChangeShapes Go.WideShapes Go.ChangeAt Go.RowKit Go.Deep Go.Maps Go.Proofs.Ytfgfiiknbkakaaa.Words Go.Proofs.Ytfgfiiknbkakaaa.Oct Go.Proofs.Ytfgfiiknbkakaaa.Par Go.Proofs.Ytfgfiiknbkakaaa.Chk Go.Proofs.Ytfgfiiknbkakaaa.Mx
section
variable {m : FM} {s : FS} {i z : Nat} {x : XP}
theorem take_mod {α : Type} (l : List α) {i n : Nat} (f : α → α) (h : n ≤ i) : (l.modify i f).take n = l.take n := by
  apply List.ext_getElem?
  intro j
  rw [List.getElem?_take, List.getElem?_take]
  split
  · rw [mod_get, if_neg (by omega)]
  · rfl
theorem IvM.turn (h : IvM m s) (hx : m.xs[i]? = some x) (hz : z ≤ 3) (hl : z ≠ 2 → x.1.left = true) : IvM (turnM m i z x) (s.turn i z) := by
  have hp := h.at_ hx
  obtain ⟨c1, c2, c3, c4⟩ := turnM_cnt (z := z) m i x
  obtain ⟨o1, o2, o3, o4, o5⟩ := turnM_other (z := z) m i x
  have hq1 : ({ x.1 with st := z } : Pt).left = decide (z ≤ 1) := by
    have : z = 0 ∨ z = 1 ∨ z = 2 ∨ z = 3 := by omega
    rcases this with rfl | rfl | rfl | rfl <;> rfl
  have hst : x.1.st ≤ 3 := (h.ok x.1 (List.mem_of_getElem? hp)).st
  have hleft : x.1.left = decide (x.1.st ≤ 1) := by
    have : x.1.st = 0 ∨ x.1.st = 1 ∨ x.1.st = 2 ∨ x.1.st = 3 := by omega
    unfold Pt.left
    rcases this with e | e | e | e <;> rw [e] <;> rfl
  rw [hq1] at c1 c2 c3 c4
  rw [hleft] at c1 c2 c3 c4
  simp only [decide_eq_true_eq] at c1 c2 c3 c4
  have htl := turn_left x.1 hz
  have hlen : (s.turn i z).ps.length = s.ps.length := List.length_modify ..
  have hil : i < s.ps.length := (List.getElem?_eq_some_iff.1 hp).1
  refine ⟨o1.trans h.mk_, ?_, ?_, ?_, ?_, ⟨?_, ?_⟩, ⟨?_, ?_, ?_⟩, o2.trans h.gone, ?_, fun n => ?_, o4.trans h.fresh, o5.trans h.ms, h.mark, by rw [hlen]; exact h.len, ?_, ?_⟩
  · rw [turnM_xs]
    show _ = s.ps.modify i (Pt.turn z)
    apply List.ext_getElem?
    intro j
    rw [mod_get, ← h.ps, List.map_set, List.getElem?_set, turnX_fst]
    split
    · rename_i e
      subst e
      rw [if_pos (by rw [List.length_map]; exact (List.getElem?_eq_some_iff.1 hx).1), List.getElem?_map, hx]
      rfl
    · rfl
  · rw [c3, h.nb]
    show _ = ((((s.ps.modify i (Pt.turn z)).map bytesP).sum : Nat) : Int)
    rw [mid_sum hp]
    show ((s.ps.map bytesP).sum : Int) - _ + _ = _
    have b1 : bytesP x.1 = if x.1.st ≤ 1 ∧ x.1.st ≠ 1 then x.1.c.body.length else 0 := by
      unfold bytesP
      by_cases e : x.1.st = 0
      · rw [if_pos e, if_pos (by omega)]
      · rw [if_neg e, if_neg (by omega)]
    have b2 : bytesP (x.1.turn z) = if z ≤ 1 ∧ z ≠ 1 then x.1.c.body.length else 0 := by
      unfold bytesP Pt.turn
      by_cases e : z = 0
      · subst e; rfl
      · simp only [if_neg e]; rw [if_neg (by omega)]
    rw [b1, b2]
    split <;> split <;> omega
  · rw [c1, h.nl]
    show _ = ((s.ps.modify i (Pt.turn z)).countP Pt.left : Int)
    rw [mid_count hp, htl, hleft]
    simp only [decide_eq_true_eq]
    rfl
  · rw [c2, h.no]
    show _ = ((s.ps.modify i (Pt.turn z)).countP (fun p => p.st == 1) : Int)
    rw [mid_count hp]
    have a1 : (x.1.st == 1) = true ↔ x.1.st ≤ 1 ∧ x.1.st = 1 := by simp; omega
    have a2 : ((x.1.turn z).st == 1) = true ↔ z ≤ 1 ∧ z = 1 := by show (z == 1) = true ↔ _; simp; omega
    have e1 : (if (x.1.st == 1) = true then (1 : Int) else 0) = if x.1.st ≤ 1 ∧ x.1.st = 1 then 1 else 0 := by simp only [a1]
    have e2 : (if ((x.1.turn z).st == 1) = true then (1 : Int) else 0) = if z ≤ 1 ∧ z = 1 then 1 else 0 := by simp only [a2]
    rw [e1, e2]
    rfl
  · rw [turnM_fl, hlen]
    have := h.fl.1
    split <;> omega
  · intro j p hj hpj
    rw [turnM_fl] at hj
    rw [show (s.turn i z).ps = s.ps.modify i (Pt.turn z) from rfl, mod_get] at hpj
    split at hpj
    · rename_i e
      subst e
      rw [hp] at hpj
      injection hpj with hpj
      rw [← hpj]
      show z ≠ 1
      intro e
      rw [if_pos e] at hj
      omega
    · exact h.fl.2 j p (by split at hj <;> omega) hpj
  · rw [(turnM_rl (z := z) m i x).1, hlen]
    have := h.rl.1
    split <;> omega
  · intro j p hj hpj
    rw [(turnM_rl (z := z) m i x).1] at hj
    split at hj
    · omega
    · rename_i hc
      rw [show (s.turn i z).ps = s.ps.modify i (Pt.turn z) from rfl, mod_get] at hpj
      split at hpj
      · rename_i e
        subst e
        have h3 := h.rl.2.1 i x.1 hj hp
        have hne : z ≠ 2 := fun e => hc ⟨e, hj⟩
        have := hl hne
        rw [hleft, h3] at this
        simp at this
      · exact h.rl.2.1 j p hj hpj
  · rw [(turnM_rl (z := z) m i x).1, (turnM_rl (z := z) m i x).2]
    split
    · rfl
    · rename_i hc
      rw [h.rl.2.2]
      show _ = ((s.ps.modify i (Pt.turn z)).take m.rl).foldl latF _
      by_cases hi : i < m.rl
      · have h3 := h.rl.2.1 i x.1 hi hp
        have hne : z ≠ 2 := fun e => hc ⟨e, hi⟩
        have := hl hne
        rw [hleft, h3] at this
        simp at this
      · rw [take_mod _ _ (by omega)]
  · obtain ⟨pl, hn, hm⟩ := h.nums
    refine ⟨pl, ⟨hn.up, fun k j hj => ?_, fun j p hpj hpl => ?_⟩, fun k => by rw [o3]; exact hm k⟩
    · obtain ⟨p, h1, h2⟩ := hn.at_ k j hj
      rw [show (s.turn i z).ps = s.ps.modify i (Pt.turn z) from rfl, mod_get]
      split
      · rename_i e
        subst e
        exact ⟨p.turn z, by rw [h1]; rfl, h2⟩
      · exact ⟨p, h1, h2⟩
    · rw [show (s.turn i z).ps = s.ps.modify i (Pt.turn z) from rfl, mod_get] at hpj
      split at hpj
      · rename_i e
        subst e
        rw [hp] at hpj
        injection hpj with hpj
        rw [← hpj] at hpl ⊢
        rw [htl] at hpl
        have hz1 : z ≤ 1 := of_decide_eq_true hpl
        exact hn.all i x.1 hp (hl (by omega))
      · exact hn.all j p hpj hpl
  · rw [c4, h.df]
    show _ = (((s.ps.modify i (Pt.turn z)).countP (dlP n) : Nat) : Int)
    rw [mid_count hp]
    have a1 : dlP n x.1 = true ↔ x.1.st ≤ 1 ∧ x.1.lk = 2 ∧ x.1.ln = n := by
      unfold dlP
      rw [hleft, Bool.and_eq_true, Bool.and_eq_true, decide_eq_true_eq, decide_eq_true_eq, decide_eq_true_eq]
    have a2 : dlP n (x.1.turn z) = true ↔ z ≤ 1 ∧ x.1.lk = 2 ∧ x.1.ln = n := by
      unfold dlP
      rw [htl, Bool.and_eq_true, Bool.and_eq_true, decide_eq_true_eq, decide_eq_true_eq, decide_eq_true_eq]
      exact Iff.rfl
    have e1 : (if dlP n x.1 = true then (1 : Int) else 0) = if x.1.st ≤ 1 ∧ x.1.lk = 2 ∧ x.1.ln = n then 1 else 0 := by simp only [a1]
    have e2 : (if dlP n (x.1.turn z) = true then (1 : Int) else 0) = if z ≤ 1 ∧ x.1.lk = 2 ∧ x.1.ln = n then 1 else 0 := by simp only [a2]
    rw [e1, e2]
    rfl
  · intro p hpm
    obtain ⟨j, hj⟩ := List.mem_iff_getElem?.1 hpm
    rw [show (s.turn i z).ps = s.ps.modify i (Pt.turn z) from rfl, mod_get] at hj
    split at hj
    · rename_i e
      subst e
      rw [hp] at hj
      injection hj with hj
      rw [← hj]
      exact (h.ok x.1 (List.mem_of_getElem? hp)).turn hz
    · exact h.ok p (List.mem_of_getElem? hj)
  · intro p hpm
    obtain ⟨j, hj⟩ := List.mem_iff_getElem?.1 hpm
    rw [show (s.turn i z).ps = s.ps.modify i (Pt.turn z) from rfl, mod_get] at hj
    split at hj
    · rename_i e
      subst e
      rw [hp] at hj
      injection hj with hj
      rw [← hj]
      exact h.pm x.1 (List.mem_of_getElem? hp)
    · exact h.pm p (List.mem_of_getElem? hj)
end
/-- A flight in memory: what is held, and what it stands for. -/
structure FlS (w : World) (p : Nat) (a : Ad) (m : FM) (s : FS) : Prop where
  mem : FlM w p a m
  inv : IvM m s
section
variable {w w' : World} {p i z : Nat} {a : Ad} {m : FM} {s : FS} {q : Pt}
theorem FlS.below (h : FlS w p a m s) (hb : Below w.heap.size w w') : FlS w' p a m s := ⟨h.mem.below hb, h.inv⟩
end
end Go.Proofs.Ytfgfiiknbkakaaa.Fl

set_option linter.unusedVariables false
set_option linter.unusedSimpArgs false
set_option maxRecDepth 20000
namespace Go.Proofs.Ytfgfiiknbkakaaa.Fl
open Go.ChangeShapes Go.WideShapes Go.ChangeAt Go.RowKit Go.Deep Go.Maps Go.Proofs.Ytfgfiiknbkakaaa.Words Go.Proofs.Ytfgfiiknbkakaaa.Oct Go.Proofs.Ytfgfiiknbkakaaa.Par Go.Proofs.Ytfgfiiknbkakaaa.Chk Go.Proofs.Ytfgfiiknbkakaaa.Mx
/-- A step: only blocks of the flight, and new ones, have turned; it has no others then. -/
structure Stp (w w' : World) (p : Nat) (a : Ad) (m : FM) (a' : Ad) (m' : FM) : Prop where
  fr : Fr (FG p a m) w w'
  sub : ∀ i, FG p a' m' i → FG p a m i ∨ w.heap.size ≤ i
section
variable {w w' w'' : World} {p i z n : Nat} {a a' a'' : Ad} {m m' m'' : FM} {s : FS} {q : Pt}
theorem Stp.refl (w : World) (p : Nat) (a : Ad) (m : FM) : Stp w w p a m a m := ⟨Fr.refl _ _, fun _ h => .inl h⟩
theorem Stp.trans (h : Stp w w' p a m a' m') (k : Stp w' w'' p a' m' a'' m'') : Stp w w'' p a m a'' m'' :=
  ⟨h.fr.trans k.fr (fun x hx hi => (h.sub x hi).elim id (fun e => by omega)), fun i hi => (k.sub i hi).elim (fun e => h.sub i e) (fun e => .inr (Nat.le_trans h.fr.size e))⟩
theorem Stp.grows (h : Stp w w' p a m a' m') (hb : Below w'.heap.size w' w'') : Stp w w'' p a m a' m' := ⟨h.fr.grows hb, h.sub⟩
theorem Stp.of {S : Nat → Prop} (hf : Fr S w w') (hs : ∀ i, S i → FG p a m i) (h : ∀ i, FG p a' m' i → FG p a m i) : Stp w w' p a m a' m' := ⟨hf.mono fun i _ e => hs i e, fun i hi => .inl (h i hi)⟩
theorem turnX_bv (z : Nat) (x : XP) : (turnX z x).bv = x.bv ∨ (turnX z x).bv = nilV := by
  unfold turnX
  split
  · exact .inl rfl
  · exact .inr rfl
theorem fg_xs {xs : List XP} (hn : m'.nums = m.nums) (hx : ∀ y ∈ m'.xs, (∃ x ∈ m.xs, y.bv = x.bv) ∨ y.bv = nilV) (i : Nat) (h : FG p a m' i) : FG p a m i := by
  rcases h with h | h | h | h | h | h | ⟨k, h1, h2⟩ | ⟨y, hy, h2⟩
  · exact .inl h
  · exact .inr (.inl h)
  · exact .inr (.inr (.inl h))
  · exact .inr (.inr (.inr (.inl h)))
  · exact .inr (.inr (.inr (.inr (.inl h))))
  · exact .inr (.inr (.inr (.inr (.inr (.inl h)))))
  · exact .inr (.inr (.inr (.inr (.inr (.inr (.inl ⟨k, by rw [← hn]; exact h1, h2⟩))))))
  · rcases hx y hy with ⟨x, hx1, hx2⟩ | e
    · exact .inr (.inr (.inr (.inr (.inr (.inr (.inr ⟨x, hx1, by rw [← hx2]; exact h2⟩))))))
    · rw [e] at h2; simp [Value.ownBlock] at h2
theorem ts_fg (h : TS p a i) : FG p a m i := by
  rcases h with h | h | h | h
  · exact .inl h
  · exact .inr (.inr (.inr (.inr (.inl h))))
  · exact .inr (.inr (.inr (.inr (.inr (.inl h)))))
  · exact .inr (.inl h)
theorem turn_t (h : FlS w p a m s) (hq : s.ps[i]? = some q) (hz : z ≤ 3) (hl : z ≠ 2 → q.left = true) :
    Calls Try.prog 36 #[fptr p, .int .i64 (i : Int), .int .i64 (z : Int)] w fun e w' => e = .returned (.tuple #[]) ∧ ∃ m', Hid (FlS w' p a m' (s.turn i z)) ∧ Hid (Stp w w' p a m a m') ∧ Hid (m'.nums = m.nums) := by
  obtain ⟨b, hx⟩ := h.inv.has hq
  have ok := h.inv.ok q (List.mem_of_getElem? hq)
  refine (turn_any h.mem hx hz h.inv.sm ok.len ok.ln).mono ?_
  rintro e w' ⟨rfl, h1, h2⟩
  refine ⟨rfl, _, ⟨h1, h.inv.turn hx hz hl⟩, Stp.of h2 (fun _ e => ts_fg e) (fg_xs (xs := []) (turnM_other m i _).2.2.1 (fun y hy => ?_)), (turnM_other m i _).2.2.1⟩
  rw [turnM_xs] at hy
  rcases List.mem_or_eq_of_mem_set hy with hy | rfl
  · exact .inl ⟨y, hy, rfl⟩
  · rcases turnX_bv z (q, b) with e | e
    · exact .inl ⟨_, List.mem_of_getElem? hx, e⟩
    · exact .inr e
/-- How the list of fragments stands in the flight's cell. -/
theorem FlS.list (h : FlS w p a m s) : ∃ A cap, a.v = .slice A s.ps.length cap ∧ s.ps.length ≤ cap ∧ cap ≤ 9223372036854775807 ∧ (0 < s.ps.length → ∃ g off, A = some ⟨g, off, none⟩ ∧ g ≠ p) := by
  have hp := h.mem.prt
  have hl : m.xs.length = s.ps.length := by rw [← h.inv.ps, List.length_map]
  generalize hv : a.v = v at hp
  generalize hxs : m.xs = xs at hp hl
  cases hp with
  | nil => exact ⟨none, 0, by rw [← hl]; rfl, by rw [← hl]; exact Nat.le_refl _, by omega, fun h => by rw [← hl] at h; simp at h⟩
  | row h1 h2 =>
    rename_i g off cap
    refine ⟨_, cap, by rw [hl], by rw [← hl]; exact h1.le, h1.mx, fun _ => ⟨g, off, rfl, fun e => ?_⟩⟩
    obtain ⟨cur, hb, _⟩ := h1.ex
    have e1 := kd_blk hb
    rw [e, kd_blk h.mem.blk] at e1
    exact absurd e1 (by decide)
/-- One of its fragments in memory. -/
theorem FlS.frag {g off cap n : Nat} (h : FlS w p a m s) (hv : a.v = .slice (some ⟨g, off, none⟩) n cap) (hq : s.ps[i]? = some q) : ∃ b, m.xs[i]? = some (q, b) ∧ FrAt w g (off + i * 26) q b := by
  obtain ⟨b, hx⟩ := h.inv.has hq
  exact ⟨b, hx, (h.mem.psr hv).1.at_ hx⟩
theorem mark_s (h : FlS w p a m s) : Calls Try.prog 30 #[fptr p] w fun e w' => e = .returned (.int .u32 (s.mark : Int)) ∧ w = w' := by
  have c : w.cell? ⟨p, 0, none⟩ = some (.int .u32 (s.mark : Int)) := by have := h.mem.blk.cell 0; rw [h.inv.mk_] at this; exact this
  clear h
  go_enter Try.func30, Try.ntmps30
  go_wp2_with fail
  go_ret
  exact ⟨rfl, rfl⟩
theorem bytes_s (h : FlS w p a m s) : Calls Try.prog 27 #[fptr p] w fun e w' => e = .returned (.int .i64 (s.bytes : Int)) ∧ w = w' := by
  have c : w.cell? ⟨p, 3, none⟩ = some (.int .i64 (s.bytes : Int)) := by have := h.mem.blk.cell 3; rw [h.inv.nb] at this; exact this
  clear h
  go_enter Try.func27, Try.ntmps27
  go_wp2_with fail
  go_ret
  exact ⟨rfl, rfl⟩
theorem left_s (h : FlS w p a m s) : Calls Try.prog 28 #[fptr p] w fun e w' => e = .returned (.int .i64 (s.left : Int)) ∧ w = w' := by
  have c : w.cell? ⟨p, 4, none⟩ = some (.int .i64 (s.left : Int)) := by have := h.mem.blk.cell 4; rw [h.inv.nl] at this; exact this
  clear h
  go_enter Try.func28, Try.ntmps28
  go_wp2_with fail
  go_ret
  exact ⟨rfl, rfl⟩
theorem next_s (h : FlS w p a m s) : Calls Try.prog 29 #[fptr p] w fun e w' => e = .returned (.int .u32 (s.next : Int)) ∧ Below w.heap.size w w' := by
  obtain ⟨A, cap, hv, h1, h2, _⟩ := h.list
  have c0 : w.cell? ⟨p, 0, none⟩ = some (.int .u32 (s.mark : Int)) := by have := h.mem.blk.cell 0; rw [h.inv.mk_] at this; exact this
  have c1 : w.cell? ⟨p, 1, none⟩ = some (.slice A s.ps.length cap) := by have := h.mem.blk.cell 1; rw [← hv]; exact this
  have hl := h.inv.lt
  have hm := h.inv.mark
  have HN : Hid (s.next = tsnOf s.mark s.ps.length) := rfl
  obtain ⟨mk, hmk⟩ : ∃ mk, mk = s.mark := ⟨_, rfl⟩
  obtain ⟨n, hn⟩ : ∃ n, n = s.ps.length := ⟨_, rfl⟩
  obtain ⟨nx, hnx⟩ : ∃ nx, nx = s.next := ⟨_, rfl⟩
  rw [← hmk, ← hn, ← hnx] at HN
  rw [← hn] at c1 h1 hl
  rw [← hmk] at c0 hm
  rw [← hnx]
  clear h hv hmk hn hnx
  have hw : IntKind.u32.wrap (n : Int) = (n : Int) := by rw [IntKind.wrap_u32]; omega
  go_enter Try.func29, Try.ntmps29
  go_upto_region 1 with (fail)
  go_quiet (fail)
  go_wp2_with fail
  go_ret
  refine ⟨Ser.ret_int ?_, below_drewN (Below.refl _ _) _⟩
  rw [HN.out]
  unfold tsnOf
  (try simp only [IntKind.wrap_u32])
  omega
end
end Go.Proofs.Ytfgfiiknbkakaaa.Fl
