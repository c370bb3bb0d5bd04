/-
  Of the texts ScNy: what the laws reach.
-/
import Derived.Test.YtkjlmibjpfmfnaaSA16
import Derived.Test.YtkjlmibjpfmfnaaSA3
import Derived.Test.YtkjlmibjpfmfnaaSA2

set_option linter.unusedVariables false
set_option linter.unusedSimpArgs false
set_option maxRecDepth 20000
namespace Go.Proofs.Ytkjlmibjpfmfnaa.Sc
open Go.ChangeShapes Go.WideShapes Go.ChangeAt Go.RowKit Go.Deep Go.Maps Go.Proofs.Ytkjlmibjpfmfnaa.Words Go.Proofs.Ytkjlmibjpfmfnaa.Oct Go.Proofs.Ytkjlmibjpfmfnaa.Par Go.Proofs.Ytkjlmibjpfmfnaa.Chk Go.Proofs.Ytkjlmibjpfmfnaa.Mx Go.Proofs.Ytkjlmibjpfmfnaa.Fl
section
variable {e : Ev} {w w' W W' : World} {h h' : Hp} {p mb T st : Nat} {gh : Gh} {mm : Ln → Option Nat} {most : Nat} {g : GL} {x : GM} {gc : List GL} {c : List GM}
def fresh (inter : Bool) (it : It) : Bool := decide (it.fr = 0) && !(it.m.lo && !inter)
def numIt (inter : Bool) (mm : Ln → Option Nat) (it : It) : It := if fresh inter it = true then midI it ((mm (it.m.st, it.m.lo)).getD 0) else it
def numMm (inter : Bool) (mm : Ln → Option Nat) (it : It) : Ln → Option Nat := if fresh inter it = true then putM mm (it.m.st, it.m.lo) (((mm (it.m.st, it.m.lo)).getD 0 + 1) % 4294967296) else mm
theorem numIt_body (inter : Bool) (mm : Ln → Option Nat) (it : It) : (numIt inter mm it).m.body = it.m.body ∧ (numIt inter mm it).fr = it.fr ∧ (numIt inter mm it).id = it.id ∧ (numIt inter mm it).lk = it.lk ∧ (numIt inter mm it).ln = it.ln ∧ (numIt inter mm it).m.st = it.m.st ∧ (numIt inter mm it).bg = it.bg ∧ (numIt inter mm it).m.lo = it.m.lo ∧ (numIt inter mm it).m.pp = it.m.pp := by
  unfold numIt
  split <;> exact ⟨rfl, rfl, rfl, rfl, rfl, rfl, rfl, rfl, rfl⟩
theorem numIt_ok {inter : Bool} {mm : Ln → Option Nat} {it : It} (h : ItOk it) (hmr : ∀ k v, mm k = some v → v < 4294967296) : ItOk (numIt inter mm it) := by
  unfold numIt
  split
  · have hm : (mm (it.m.st, it.m.lo)).getD 0 < 4294967296 := by
      cases h9 : mm (it.m.st, it.m.lo) with
      | none => show 0 < _; omega
      | some v => exact hmr _ _ h9
    exact ⟨h.id, h.lk, h.ln, ⟨h.m.st, hm, h.m.pp⟩, h.ne, h.len, h.fr, h.cut, h.bgf⟩
  · exact h
theorem swG_self (eg : gh.gl = g :: gc) (em : g.ms = x :: c) : swG gh [] gc g [] c x = gh := by
  have e1 : swL g [] c x = g := by
    unfold swL
    rw [show ([] ++ x :: c : List GM) = g.ms from em.symm]
  unfold swG
  rw [e1, show ([] ++ g :: gc : List GL) = gh.gl from eg.symm]
/-- Behind the number. -/
structure NxA (e : Ev) (w0 : World) (h0 : Hp) (p : Nat) (gh : Gh) (gc : List GL) (g : GL) (c : List GM) (x : GM) (mm : Ln → Option Nat) (W : World) (h1 : Hp) : Prop where
  q : QM e W h1 p (swG gh [] gc g [] c { x with it := numIt e.inter mm x.it }) (numMm e.inter mm x.it)
  gr : Grow h0 h1 w0.heap.size
  fr : Fr (QG e h0) w0 W
theorem NxA.same (k : QM e W h p gh mm) (eg : gh.gl = g :: gc) (em : g.ms = x :: c) (hf : fresh e.inter x.it = false) {w0 : World} {h0 : Hp} (gr : Grow h0 h w0.heap.size) (fr : Fr (QG e h0) w0 W) : NxA e w0 h0 p gh gc g c x mm W h := by
  refine ⟨?_, gr, fr⟩
  unfold numIt numMm
  rw [if_neg (by rw [hf]; simp), if_neg (by rw [hf]; simp), swG_self eg em]
  exact k
theorem NxA.num (k : QM e W h p gh mm) (eg : gh.gl = g :: gc) (em : g.ms = x :: c) (hf : fresh e.inter x.it = true) {w0 : World} {h0 : Hp} (gr : Grow h0 h w0.heap.size) (fr : Fr (QG e h0) w0 W)
    (hv : Hv e W' (upd h x.mb (.ms { x.me g.sb with it := midI x.it ((mm (x.it.m.st, x.it.m.lo)).getD 0) }))) (hm : MapX lnX W' e.mm (mmF (putM mm (x.it.m.st, x.it.m.lo) (((mm (x.it.m.st, x.it.m.lo)).getD 0 + 1) % 4294967296)))) (hfr : Fr (fun i => i = x.mb ∨ i = e.mm) W W') :
    NxA e w0 h0 p gh gc g c x mm W' (upd h x.mb (.ms { x.me g.sb with it := midI x.it ((mm (x.it.m.st, x.it.m.lo)).getD 0) })) := by
  have hg : g ∈ gh.gl := by rw [eg]; simp
  have hx : x ∈ g.ms := by rw [em]; simp
  have L := k.rep.line g hg
  have hmb := L.ms x hx
  obtain ⟨rq, hq⟩ := k.rep.q
  obtain ⟨rs, hs⟩ := L.ob
  have hne1 : p ≠ x.mb := fun e9 => by rw [e9, hmb] at hq; cases hq
  have hne2 : g.sb ≠ x.mb := fun e9 => by rw [e9, hmb] at hs; cases hs
  have s : Sw gh [] gc g [] c x { x with it := midI x.it ((mm (x.it.m.st, x.it.m.lo)).getD 0) } := ⟨eg, em, rfl, rfl, rfl, rfl, rfl⟩
  have hbI : bytesI (swL g [] c { x with it := midI x.it ((mm (x.it.m.st, x.it.m.lo)).getD 0) }).its = bytesI g.its := by
    show bytesI (([] ++ { x with it := midI x.it ((mm (x.it.m.st, x.it.m.lo)).getD 0) } :: c).map GM.it) = bytesI (g.ms.map GM.it)
    rw [em]
    rfl
  have hbG : bytesG (swG gh [] gc g [] c { x with it := midI x.it ((mm (x.it.m.st, x.it.m.lo)).getD 0) }).gl = bytesG gh.gl := by
    show bytesG ([] ++ swL g [] c _ :: gc) = _
    rw [eg, List.nil_append, bytesG_cons, bytesG_cons, hbI]
  have hrep := k.rep.sw k.g s hq hs (h' := upd h x.mb (.ms { x.me g.sb with it := midI x.it ((mm (x.it.m.st, x.it.m.lo)).getD 0) })) (fun b _ _ h3 => upd_ne _ _ h3) (by rw [hbG]; exact (upd_ne _ _ hne1).trans hq) (by rw [hbI]; exact (upd_ne _ _ hne2).trans hs) (upd_same _ _ _)
  have hmap : ∀ b, kd W b = some 0 → b ≠ e.mm → ¬ (b = x.mb ∨ b = e.mm) := fun b hb hn h9 => by
    rcases h9 with h9 | h9
    · rw [h9, k.hv.kd hmb] at hb; injection hb with hb; cases hb
    · exact hn h9
  refine ⟨?_, gr.trans (Grow.upd _ _ (.inl (by rw [hmb]; simp)) fun y hy => by injection hy with hy; subst hy; exact ⟨_, hmb, rfl⟩) (Nat.le_refl _), ?_⟩
  · unfold numIt numMm
    rw [if_pos hf, if_pos hf]
    exact ⟨hv, hrep, k.g.sw s, k.sm.fr hfr (hmap _ (kd_mapx k.sm) k.ne.2.1), k.nm.fr hfr (hmap _ (kd_mapz k.nm) k.ne.2.2), hm, k.ne⟩
  · refine fr.trans hfr fun i hi hx9 => ?_
    rcases hx9 with rfl | rfl
    · rcases gr.hg (.inl (by rw [hmb]; simp) : HG h x.mb) with h9 | h9
      · exact .inl h9
      · omega
    · exact .inr (.inr (.inr rfl))
theorem exec_loadR' {P : Program} {ρ : Operand → Value} {o : Oper} {ty : TypeId} {x : Operand} {ad : Addr} {cs : Array Value} {d : TypeDesc} {w : World} (ho : o.op = .load ty x) (hx : ρ x = .pointer (some ad)) (hc : ∀ j v, cs[j]? = some v → w.cell? (ad.add j) = some v)
    (hu : P.underlying ty = some d) (hd : d.isRow = true) (hi : (P.info? ty).map (·.size) = some cs.size) : (execOp ρ o).run P w = .ok (.value (.agg cs)) w := by
  unfold execOp
  simp only [ho, hx, Instr.loadAt, Instr.sureAddr, Sem.run_bind, Sem.run_pure, Result.andThen_ok, run_loadVar_any w ad ty cs d hc hu hd hi]
theorem exec_storeR {P : Program} {ρ : Operand → Value} {o : Oper} {ty t : TypeId} {x y : Operand} {w : World} {g : Nat} {a b : Array Value} (ho : o.op = .store ty x y) (hx : ρ x = .pointer (some ⟨g, 0, none⟩)) (hy : ρ y = .agg b) (hb : Blk w g t a) (hi : (P.info? ty).map (·.size) = some b.size) (hs : a.size = b.size) (h1 : b.all (·.oneCell') = true) :
    (execOp ρ o).run P w = .ok .skip (w.setRow g b) := by
  unfold execOp
  simp only [ho, hx, hy, Instr.storeAt, Instr.sureAddr, Sem.run_bind, Sem.run_pure, Result.andThen_ok, run_storeVar_row (P := P) w g t ty a b hb hi hs h1]
/-- The results' variables while they are told. -/
structure NxS (W : World) (g1 : Nat) (cs ls : Array Value) (m : Nat) (V : World) : Prop where
  fr : Fr (fun i => i = g1 ∨ i = g1 + 1) W V
  k1 : Blk V g1 51 (if m = 0 then zkA else cs)
  k2 : Blk V (g1 + 1) 34 (if m ≤ 1 then limZ else ls)
theorem NxS.one {W V : World} {g1 : Nat} {cs ls : Array Value} (h : NxS W g1 cs ls 0 V) : NxS W g1 cs ls 1 (V.setRow g1 cs) :=
  ⟨h.fr.same ((setRow_fr V g1 cs).mono fun _ _ e => .inl e), setRow_heap _ _ _ _ _ _ h.k1, (setRow_fr V g1 cs).blk h.k2 (by show ¬ _ = _; omega)⟩
theorem NxS.two {W V : World} {g1 : Nat} {cs ls : Array Value} (h : NxS W g1 cs ls 1 V) : NxS W g1 cs ls 2 (V.setRow (g1 + 1) ls) :=
  ⟨h.fr.same ((setRow_fr V (g1 + 1) ls).mono fun _ _ e => .inr e), (setRow_fr V (g1 + 1) ls).blk h.k1 (by show ¬ _ = _; omega), setRow_heap _ _ _ _ _ _ h.k2⟩
theorem Grow.mono {B B' : Nat} (h9 : Grow h h' B) (hB : B' ≤ B) : Grow h h' B' := ⟨fun b hb => (h9.dom b hb).imp id fun h => Nat.le_trans hB h, fun b x ad e1 e2 => (h9.bod b x ad e1 e2).imp id fun h => Nat.le_trans hB h⟩
theorem QM.cutq (k : QM e W h p gh mm) {ga : List GL} {a : List GM} {x' : GM} (s : Sw gh ga gc g a c x x') (hv : Hv e W' (cntH (upd h x.mb (.ms (x'.me g.sb))) p g.sb (bytesI (swL g a c x').its) (bytesG (swG gh ga gc g a c x').gl))) (hf : Fr (HG h) W W') :
    QM e W' (cntH (upd h x.mb (.ms (x'.me g.sb))) p g.sb (bytesI (swL g a c x').its) (bytesG (swG gh ga gc g a c x').gl)) p (swG gh ga gc g a c x') mm := by
  have hg : g ∈ gh.gl := by rw [s.gl]; simp
  have hx : x ∈ g.ms := by rw [s.ms]; simp
  have L := k.rep.line g hg
  have hmb := L.ms x hx
  obtain ⟨rq, hq⟩ := k.rep.q
  obtain ⟨rs, hs⟩ := L.ob
  have hsp := k.rep.p_ne hg
  have hne1 : p ≠ x.mb := fun e9 => by rw [e9, hmb] at hq; cases hq
  have hne2 : g.sb ≠ x.mb := fun e9 => by rw [e9, hmb] at hs; cases hs
  obtain ⟨m1, m2, m3⟩ := k.maps hf fun _ h _ => h
  refine ⟨hv, k.rep.sw k.g s hq hs (fun b h1 h2 h3 => ?_) ?_ ?_ ?_, k.g.sw s, m1, m2, m3, k.ne⟩
  · unfold cntH
    rw [if_neg h1, if_neg h2, upd_ne _ _ h3]
  · unfold cntH
    rw [if_pos rfl, upd_ne _ _ hne1, hq]
    rfl
  · unfold cntH
    rw [if_neg hsp, if_pos rfl, upd_ne _ _ hne2, hs]
    rfl
  · unfold cntH
    rw [if_neg (Ne.symm hne1), if_neg (Ne.symm hne2)]
    exact upd_same _ _ _
theorem cut_add (A : Option Addr) (k : Nat) {q : Prop} [Decidable q] {ad : Addr} (h : (if q then A else A.map (·.add k)) = some ad) : ∃ a0, A = some a0 ∧ ad.block = a0.block := by
  split at h
  · exact ⟨ad, h, rfl⟩
  · cases A with
    | none => cases h
    | some a0 =>
      injection h with h
      refine ⟨a0, rfl, ?_⟩
      rw [← h]
      show (a0.add k).block = a0.block
      unfold Addr.add
      split <;> rfl
theorem bodA_cut {A : Option Addr} {cp k : Nat} {l : List UInt8} (h : BodA W A cp l) (hk : k ≤ l.length) : BodA W (if cp = k then A else A.map (·.add k)) (cp - k) (l.drop k) :=
  ⟨h.byt.cut_ hk h.le, fun ad hA => by
    obtain ⟨a0, h1, h2⟩ := cut_add A k hA
    rw [h2]
    exact h.kd a0 h1, by rw [List.length_drop]; have := h.le; omega, by have := h.cp; omega⟩
/-- Behind the message's end, where it was. -/
structure NxM (e : Ev) (W10 : World) (h10 : Hp) (p : Nat) (gh : Gh) (gc : List GL) (g : GL) (c : List GM) (x : GM) (x2 : GM) (n : Nat) (most : Nat) (mm1 : Ln → Option Nat) (WM : World) (hM : Hp) (ghM : Gh) : Prop where
  q : QM e WM hM p ghM mm1
  m : hM x.mb = some (.ms (x2.me g.sb))
  adm : ∀ T, Adm gh T → Adm ghM T
  gr : Grow h10 hM W10.heap.size
  fr : Fr (QG e h10) W10 WM
  cas : (n ≤ most ∧ ghM.gl = (if c = [] then gc else { g with ms := c } :: gc) ∧ (c = [] → ∃ b r t, hM g.sb = some (.st b r t) ∧ r.fs = none)) ∨ (most < n ∧ ghM.gl = { g with ms := x2 :: c } :: gc)
/-- Behind the turn. -/
structure NxE (e : Ev) (W10 : World) (h10 : Hp) (p : Nat) (gh : Gh) (gc : List GL) (g : GL) (c : List GM) (x : GM) (x2 : GM) (it1 : It) (most : Nat) (mm1 : Ln → Option Nat) (WE : World) (hE : Hp) (ghE : Gh) : Prop where
  q : QM e WE hE p ghE mm1
  m : hE x.mb = some (.ms (x2.me g.sb))
  lns : lns ghE = turned e.inter most g.st it1 (c.map GM.it) (gc.map fun g => (g.st, g.its))
  adm : ∀ T, Adm gh T → Adm ghE (T + 1)
  gr : Grow h10 hE W10.heap.size
  fr : Fr (QG e h10) W10 WE
/-- What Next leaves. -/
def NextD (e : Ev) (w : World) (h : Hp) (p : Nat) (gh : Gh) (mm : Ln → Option Nat) (g : GL) (gc : List GL) (c : List GM) (x : GM) (most : Nat) (en : Ending) (w' : World) : Prop :=
  ∃ (cs : Array Value) (h' : Hp) (gh' : Gh), en = .returned (.tuple #[.agg cs, .int .i64 x.it.id, limV x.it.lk x.it.ln, .bool true]) ∧ CkOwn w' w.heap.size cs (fragI e.inter most (numIt e.inter mm x.it)) ∧ QM e w' h' p gh' (numMm e.inter mm x.it) ∧
    lns gh' = turned e.inter most g.st (numIt e.inter mm x.it) (c.map GM.it) (gc.map fun g => (g.st, g.its)) ∧ (∀ T, Adm gh T → Adm gh' (T + 1)) ∧ (∀ (ad : Addr) (n cp : Nat), cs[18]? = some (.slice (some ad) n cp) → ¬ QG e h' ad.block) ∧ Grow h h' w.heap.size ∧ Fr (QG e h) w w'
theorem adm_sw {gh gh1 : Gh} {g g1 : GL} (hT : Adm gh T) (e1 : gh.gl = g :: gc) (e2 : gh1.gl = g1 :: gc) (e3 : g1.ad = g.ad) (e4 : gh1.ad = gh.ad) (e5 : gh1.N = gh.N) : Adm gh1 T :=
  ⟨by rw [e4]; exact hT.q, fun y hy => by
    rw [e2] at hy
    rcases List.mem_cons.1 hy with rfl | hy
    · rw [e3]; exact hT.l g (by rw [e1]; simp)
    · exact hT.l y (by rw [e1]; simp [hy]), by rw [e5]; exact hT.n⟩
theorem adm_pass {ga gc : List GL} {g : GL} {nb : Nat} (hT : Adm gh T) (e1 : gh.gl = ga ++ g :: gc) : Adm (passG gh ga gc g nb) (T + 1) :=
  ⟨Nat.succ_le_succ hT.q, fun y hy => by
    rcases List.mem_append.1 (show y ∈ ga ++ gc ++ [{ g with lb := nb, pl := gh.ad }] from hy) with h9 | h9
    · refine Nat.le_succ_of_le (hT.l y ?_)
      rw [e1]
      rcases List.mem_append.1 h9 with h8 | h8
      · exact List.mem_append_left _ h8
      · exact List.mem_append_right _ (List.mem_cons_of_mem _ h8)
    · rw [List.mem_singleton.1 h9]
      exact Nat.le_succ_of_le (hT.l g (by rw [e1]; simp)), fun id n h9 => Nat.le_succ_of_le (hT.n id n h9)⟩
theorem adm_rmv {ga gc : List GL} {g : GL} {a c : List GM} {n : NR} {na nc : List Lk} (hT : Adm gh T) (e1 : gh.gl = ga ++ g :: gc) (e2 : gh.N x.it.id = some n) : Adm (rmvG gh ga gc g a c x n na nc) T :=
  ⟨hT.q, fun y hy => by
    have hy' : y ∈ (if a ++ c = [] then ga ++ gc else ga ++ { g with ms := a ++ c } :: gc) := hy
    have hold : y ∈ ga ++ gc → y.ad ≤ T := fun h9 => hT.l y (by
      rw [e1]
      rcases List.mem_append.1 h9 with h8 | h8
      · exact List.mem_append_left _ h8
      · exact List.mem_append_right _ (List.mem_cons_of_mem _ h8))
    split at hy'
    · exact hold hy'
    · rcases List.mem_append.1 hy' with h9 | h9
      · exact hold (List.mem_append_left _ h9)
      · rcases List.mem_cons.1 h9 with h9 | h9
        · rw [h9]; exact hT.l g (by rw [e1]; simp)
        · exact hold (List.mem_append_right _ h9), fun id m h9 => by
    have h9' : (if id = x.it.id then (if na ++ nc = [] then none else some { n with l := na ++ nc }) else gh.N id) = some m := h9
    split at h9'
    · split at h9'
      · cases h9'
      · injection h9' with h9'
        rw [← h9']
        show n.ad ≤ T
        exact hT.n _ _ e2
    · exact hT.n _ _ h9'⟩
theorem Adm.up {T' : Nat} (hT : Adm gh T) (h : T ≤ T') : Adm gh T' := ⟨Nat.le_trans hT.q h, fun g hg => Nat.le_trans (hT.l g hg) h, fun i n hn => Nat.le_trans (hT.n i n hn) h⟩
set_option maxHeartbeats 16000000 in
theorem next_s (k : QM e w h p gh mm) (eg : gh.gl = g :: gc) (em : g.ms = x :: c) (hok : ItOk x.it) (hst : x.it.m.st = g.st) (h1 : 1 ≤ most) (h2 : most ≤ roomF e.inter) (hT : Adm gh T) (hT2 : T < 4611686018427387900) (hb : bytesG gh.gl ≤ 262144) (hmr : ∀ k v, mm k = some v → v < 4294967296) :
    Calls Try.prog 12 #[qptr p, .int .i64 (most : Int)] w (NextD e w h p gh mm g gc c x most) := by
  have hg : g ∈ gh.gl := by rw [eg]; simp
  have hx : x ∈ g.ms := by rw [em]; simp
  obtain ⟨rq, hq⟩ := k.rep.q
  have L := k.rep.line g hg
  obtain ⟨rs, hs⟩ := L.ob
  have hmb := L.ms x hx
  have hroom := (roomF_le e.inter).2
  have hrq := k.rep.turns.ob_eq hq
  have hrs := L.row.ob_eq hs
  rw [eg] at hrq
  rw [em] at hrs
  have e1 : rq.fs = some g.lb := by injection hrq with hrq; rw [hrq]; rfl
  have e2 : rs.fs = some x.lb := by injection hrs with hrs; rw [hrs]; rfl
  obtain ⟨_, _, elb⟩ := k.rep.turns.seg.at_ g.lk (List.mem_map_of_mem hg)
  obtain ⟨_, _, exb⟩ := L.row.seg.at_ x.lk (List.mem_map_of_mem hx)
  obtain ⟨W2, hW2⟩ : ∃ W, W = ResW w := ⟨_, rfl⟩
  obtain ⟨g1, hg1⟩ : ∃ g, g = w.heap.size := ⟨_, rfl⟩
  have K2 : Hid (QM e W2 h p gh mm) := by rw [hW2]; exact k.grows (res_below w)
  have HEM := Lib.hid (empty_q K2.out)
  have hemp : gh.gl.isEmpty = false := by rw [eg]; rfl
  rw [hemp] at HEM
  have HB2 : Hid (Below w.heap.size w W2) := by rw [hW2]; exact res_below w
  have KC : Hid (Blk W2 g1 51 zkA) := by rw [hW2, hg1]; exact res_chk w
  have KL : Hid (Blk W2 (g1 + 1) 34 limZ) := by rw [hW2, hg1]; exact res_lim w
  have HG1 : Hid (g1 = w.heap.size) := hg1
  have ci : W2.cell? ⟨p, 0, none⟩ = some (.bool e.inter) := K2.out.hv.cell hq 0
  have cq : W2.cell? ⟨p, 3, none⟩ = some (qptr g.lb) := (K2.out.hv.cell hq 3).trans (by show some (oV rq.fs) = _; rw [e1]; rfl)
  have cl : W2.cell? ⟨g.lb, 0, none⟩ = some (qptr g.sb) := K2.out.hv.cell elb 0
  have cs : W2.cell? ⟨g.sb, 1, none⟩ = some (qptr x.lb) := (K2.out.hv.cell hs 1).trans (by show some (oV rs.fs) = _; rw [e2]; rfl)
  have cx : W2.cell? ⟨x.lb, 0, none⟩ = some (qptr x.mb) := K2.out.hv.cell exb 0
  have cc : W2.cell? ⟨x.mb, 8, none⟩ = some (.int .u32 (x.it.fr : Int)) := K2.out.hv.cell hmb 8
  have hfr := hok.fr
  obtain ⟨fr, hfre⟩ : ∃ f, f = x.it.fr := ⟨_, rfl⟩
  rw [← hfre] at cc hfr
  have HFR := Lib.hid hfre
  have KQG : Hid (∀ i, QG e h i → i < w.heap.size) := fun i hi => k.lt hi
  have HRM : Hid (Calls Try.prog 29 #[.bool e.inter] W2 fun en w' => en = .returned (.int .i64 (roomF e.inter : Int)) ∧ W2 = w') := room_c W2 e.inter
  unfold ResW at hW2
  have hm1 : ¬ (most : Int) < 1 := by omega
  have hm2 : ¬ (roomF e.inter : Int) < (most : Int) := by omega
  have HOK := Lib.hid hok
  have HST := Lib.hid hst
  have HEG := Lib.hid eg
  have HEMS := Lib.hid em
  have HMB := Lib.hid hmb
  have HQ := Lib.hid hq
  have HT := Lib.hid hT
  have HT2 := Lib.hid hT2
  have HBB := Lib.hid hb
  have HMR := Lib.hid hmr
  have HH2 := Lib.hid h2
  clear k hq hs hmb L hrq hrs e1 e2 elb exb hemp hok hst eg em hT hT2 hb hmr hfre hg hx
  go_enter Try.func12, Try.ntmps12
  go_upto_region 1 with (with_reducible refine wpList_alloc_run _ rfl 51 rfl (alloc_zk _) ?_)
  rw [← hW2, ← hg1]
  clear hW2 hg1
  go_upto_if 50 with (first
      | (go_at_call 28; refine HEM.out.mono ?_; rintro e2 w2' ⟨rfl, rfl⟩)
      | (go_at_call 29; refine HRM.out.mono ?_; rintro e2 w2' ⟨rfl, rfl⟩))
  have hd1 : decide ((most : Int) < 1) = false := decide_eq_false (by omega)
  have hd2 : decide (roomF e.inter < most) = false := decide_eq_false (by omega)
  try simp only [hd1, hd2, Bool.or_false, Bool.false_or]
  clear ci cq cl cs cx cc HEM HRM hd1 hd2 hm1 hm2
  go_cut [50] from 51 to 53 (fun _ wx => ∃ h1 : Hp, Hid (NxA e W2 h p gh gc g c x mm wx h1))
  case first =>
    by_cases hf0 : fr = 0
    · subst hf0
      by_cases hlo : (x.it.m.lo && !e.inter) = true
      · go_wp2_with (go_at_call 30; refine (number0_s K2.out.hv HMB.out ⟨_, _, HQ.out⟩ hlo).mono ?_; rintro e2 w2' ⟨rfl, rfl⟩)
        go_meet
        exact ⟨h, NxA.same K2.out HEG.out HEMS.out (by unfold fresh; rw [hlo]; simp) (Grow.refl _ _) (Fr.refl _ _)⟩
      · have hlo' : (x.it.m.lo && !e.inter) = false := by simpa using hlo
        go_wp2_with (go_at_call 30; refine (number_s K2.out.hv K2.out.mm HMB.out ⟨_, _, HQ.out⟩ hlo' HOK.out.m.st HMR.out).mono ?_; rintro e2 w2' ⟨rfl, n1, n2, n3⟩)
        go_meet
        exact ⟨_, NxA.num K2.out HEG.out HEMS.out (by unfold fresh; rw [hlo', ← HFR.out]; rfl) (Grow.refl _ _) (Fr.refl _ _) n1 n2 n3⟩
    · have hf0' : ¬ (fr : Int) = 0 := by omega
      go_wp2_with fail
      go_meet
      exact ⟨h, NxA.same K2.out HEG.out HEMS.out (by unfold fresh; rw [← HFR.out]; simp [hf0]) (Grow.refl _ _) (Fr.refl _ _)⟩
  case rest =>
    obtain ⟨h3, HA⟩ := hcut
    obtain ⟨Wc, hWc⟩ : ∃ y, y = wc := ⟨_, rfl⟩
    subst hWc
    obtain ⟨it1, hit1⟩ : ∃ i, i = numIt e.inter mm x.it := ⟨_, rfl⟩
    have HOK1 : Hid (ItOk it1) := by rw [hit1]; exact numIt_ok HOK.out HMR.out
    have hbd := numIt_body e.inter mm x.it
    rw [← hit1] at hbd
    have HBD := Lib.hid hbd
    have HIT1 : Hid (it1 = numIt e.inter mm x.it) := hit1
    obtain ⟨gh1, hgh1⟩ : ∃ y, y = swG gh [] gc g [] c { x with it := it1 } := ⟨_, rfl⟩
    obtain ⟨mm1, hmm1⟩ : ∃ y, y = numMm e.inter mm x.it := ⟨_, rfl⟩
    have HG1E : Hid (gh1 = swG gh [] gc g [] c { x with it := it1 }) := hgh1
    have HMM1 : Hid (mm1 = numMm e.inter mm x.it) := hmm1
    have HQ1 : Hid (QM e Wc h3 p gh1 mm1) := by show QM _ _ _ _ _ _; rw [hgh1, hmm1, hit1]; exact HA.out.q
    have HGR : Hid (Grow h h3 W2.heap.size) := HA.out.gr
    have HFRR : Hid (Fr (QG e h) W2 Wc) := HA.out.fr
    have hgin : swL g [] c { x with it := it1 } ∈ gh1.gl := by rw [hgh1]; simp [swG]
    have hxin : ({ x with it := it1 } : GM) ∈ (swL g [] c { x with it := it1 }).ms := by simp [swL]
    have hm3 : h3 x.mb = some (.ms (GM.me g.sb { x with it := it1 })) := (HQ1.out.rep.line _ hgin).ms _ hxin
    have HM3 := Lib.hid hm3
    have hfg := frag_s HQ1.out.hv hm3 HOK1.out.m HOK1.out.ne HOK1.out.len h1 HH2.out HOK1.out.fr
    have HFG := Lib.hid hfg
    have HGIN := Lib.hid hgin
    have ci3 : Wc.cell? ⟨p, 0, none⟩ = some (.bool e.inter) := by
      obtain ⟨r9, h9⟩ := HQ1.out.rep.q
      exact HQ1.out.hv.cell h9 0
    clear hit1 hbd hgh1 hmm1 hgin hxin hm3 hfg HA
    obtain ⟨inter, hinter⟩ : ∃ i, i = e.inter := ⟨_, rfl⟩
    rw [← hinter] at ci3 HFG
    have HINT : Hid (inter = e.inter) := hinter
    rw [← hinter]
    clear hinter
    go_upto_region 8 with (first
      | (go_at_call 31; refine HFG.out.mono ?_; rintro en W6 ⟨⟨cs6, rfl, how6⟩, hb6⟩; obtain ⟨g10, hg10⟩ : ∃ g, g = W6.heap.size := ⟨_, rfl⟩; (have kz : Blk (W6.alloc (.cells zkA 51)) g10 51 zkA := by rw [hg10]; exact Blk.new _ _ _); have hsz := own_info how6; have hon := own_one how6)
      | (with_reducible refine wpList_alloc_run _ rfl 51 rfl (alloc_zk _) ?_; rw [← hg10])
      | (refine wpList_store_row rfl 51 _ _ rfl g10 cs6 rfl rfl 51 zkA kz hsz.1 hsz.2 hon ?_))
    obtain ⟨W7, hW7⟩ : ∃ W, W = (W6.alloc (.cells zkA 51)).setRow g10 cs6 := ⟨_, rfl⟩
    rw [← hW7]
    have hb67 : Below W6.heap.size W6 W7 := by
      rw [hW7]
      exact below_setRow (Go.Proofs.Ytkjlmibjpfmfnaa.Fl.below_one W6 _) (by rw [hg10]; exact Nat.le_refl _) _
    have HB7 : Hid (Below Wc.heap.size Wc W7) := hb6.trans (hb67.mono hb6.size)
    have HQ7 : Hid (QM e W7 h3 p gh1 mm1) := HQ1.out.grows HB7.out
    have HKC7 : Hid (CkBlk W7 g10 cs6) := by show CkBlk _ _ _; rw [hW7]; exact setRow_heap _ _ _ _ _ _ kz
    have HOW7 : Hid (CkOwn W7 Wc.heap.size cs6 (fragI inter most it1)) := how6.fr (Fr.of_below hb67) (fun i h1 h2 => by omega)
    have HG10 : Hid (g10 = W6.heap.size ∧ Wc.heap.size ≤ g10) := ⟨hg10, by rw [hg10]; exact hb6.size⟩
    have HOW6 : Hid (CkOwn W6 Wc.heap.size cs6 (fragI inter most it1)) := how6
    obtain ⟨gv, dv, sv, pv, bv, hcs6, _, _, _, _, hbv⟩ := HOW6.out
    obtain ⟨A5, c5, hbv2, hc51, hc52⟩ := own_slice hbv
    have HCS6 := Lib.hid hcs6
    have HBV2 := Lib.hid hbv2
    obtain ⟨kb, hkb⟩ : ∃ k, k = (fragI inter most it1).body.length := ⟨_, rfl⟩
    rw [← hkb] at hbv2 hc51
    have d18 : W7.cell? ⟨g10, 18, none⟩ = some (.slice A5 kb c5) := (HKC7.out.cell 18).trans (by rw [hcs6, ← hbv2]; rfl)
    obtain ⟨n, hn⟩ : ∃ n, n = it1.m.body.length := ⟨_, rfl⟩
    have hkb2 : kb = min most n := by rw [hkb, hn]; show (it1.m.body.take most).length = _; rw [List.length_take]
    have hn1 : 1 ≤ n := by rw [hn]; exact List.length_pos_iff.2 HOK1.out.ne
    have hbod := HQ1.out.hv.bod x.mb _ HM3.out
    have hxc : n ≤ x.cp := by rw [hn]; exact hbod.le
    have hxc2 : x.cp ≤ 9223372036854775807 := hbod.cp
    have e7 : W7.cell? ⟨x.mb, 7, none⟩ = some (.slice x.A n x.cp) := (HQ7.out.hv.cell HM3.out 7).trans (by rw [hn]; rfl)
    have f7 := HQ7.out.hv.frz HM3.out 7
    have hkn : kb ≤ n := by omega
    have hk1 : 1 ≤ kb := by omega
    have HN : Hid (n = it1.m.body.length) := hn
    have HKB2 : Hid (kb = min most n) := hkb2
    clear how6 hg10 hW7 hb6 hb67 kz hsz hon hcs6 hbv hbv2 hkb hn hkb2 hbod
    go_still_tail 13, (by kernel_rfl)
    change wpList _ _ _ _ _ W7.drew
    obtain ⟨V7, hV7⟩ : ∃ V, V = W7.drew := ⟨_, rfl⟩
    have HQV : Hid (QM e V7 h3 p gh1 mm1) := by rw [hV7]; exact HQ7.out.drew
    have HBV7 : Hid (Below Wc.heap.size Wc V7) := by rw [hV7]; exact HB7.out.drew
    have HKCV : Hid (CkBlk V7 g10 cs6) := by show CkBlk _ _ _; rw [hV7]; exact HKC7.out
    have HOWV : Hid (CkOwn V7 Wc.heap.size cs6 (fragI inter most it1)) := by rw [hV7]; exact HOW7.out.fr ((Fr.refl (fun _ => False) W7).drew) (fun _ h _ => h.elim)
    have e7' : V7.cell? ⟨x.mb, 7, none⟩ = some (.slice x.A n x.cp) := by rw [hV7]; exact e7
    have f7' := HQV.out.hv.frz HM3.out 7
    have d18' : V7.cell? ⟨g10, 18, none⟩ = some (.slice A5 kb c5) := by rw [hV7]; exact d18
    rw [← hV7]
    clear hV7 e7 f7 d18
    go_upto_region 9 with (fail)
    obtain ⟨A2, hA2⟩ : ∃ A2, A2 = (if x.cp = kb then x.A else x.A.map (fun y => y.add kb)) := ⟨_, rfl⟩
    obtain ⟨cp2, hcp2⟩ : ∃ c2, c2 = x.cp - kb := ⟨_, rfl⟩
    obtain ⟨n2, hn2⟩ : ∃ n2, n2 = n - kb := ⟨_, rfl⟩
    obtain ⟨W8, hW8⟩ : ∃ W, W = V7.setCell ⟨x.mb, 7, none⟩ (.slice A2 n2 cp2) := ⟨_, rfl⟩
    rw [← hA2, ← hcp2, ← hn2, ← hW8]
    have HA2E : Hid (A2 = (if x.cp = kb then x.A else x.A.map (fun y => y.add kb))) := hA2
    obtain ⟨it8, hit8⟩ : ∃ i : It, i = { it1 with m := { it1.m with body := it1.m.body.drop kb } } := ⟨_, rfl⟩
    have hlen8 : it8.m.body.length = n2 := by rw [hit8, hn2, HN.out]; show (it1.m.body.drop kb).length = _; rw [List.length_drop]
    have hv8 : Hv e W8 (upd h3 x.mb (.ms ⟨it8, A2, cp2, some g.sb, some x.lb, some x.nb⟩)) := by
      rw [hW8]
      refine HQV.out.hv.setB HM3.out ?_ ?_
      · show (Me.cells ⟨it8, A2, cp2, some g.sb, some x.lb, some x.nb⟩) = _
        unfold Me.cells Me.n
        rw [hlen8, hit8]
        rfl
      · have h9 := bodA_cut (k := kb) (HQV.out.hv.bod x.mb _ HM3.out) (by show kb ≤ it1.m.body.length; rw [← HN.out]; exact hkn)
        rw [hA2, hcp2, hit8]
        exact h9
    have hf8 : Fr (fun i => i = x.mb) V7 W8 := by rw [hW8]; exact fr_set _
    have HF8 := Lib.hid hf8
    have HV8 := Lib.hid hv8
    have HIT8 := Lib.hid hit8
    have HLEN8 := Lib.hid hlen8
    have HN2 := Lib.hid hn2
    have hx8 : upd h3 x.mb (.ms ⟨it8, A2, cp2, some g.sb, some x.lb, some x.nb⟩) x.mb = some (.ms ⟨it8, A2, cp2, some g.sb, some x.lb, some x.nb⟩) := upd_same _ _ _
    have hfr8 : it8.fr = fr := by rw [hit8, HFR.out]; exact HBD.out.2.1
    have c8 : W8.cell? ⟨x.mb, 8, none⟩ = some (.int .u32 (fr : Int)) := (hv8.cell hx8 8).trans (by show some (Value.int .u32 (it8.fr : Int)) = _; rw [hfr8])
    have f8 := hv8.frz hx8 8
    have HFR8 := Lib.hid hfr8
    have hfr65 : fr + 1 ≤ 65536 := by
      have h9 := HOK1.out.cut
      have h8 := HN.out
      have h7 : it1.fr = fr := by rw [HFR.out]; exact HBD.out.2.1
      omega
    have HFR65 := Lib.hid hfr65
    clear hA2 hcp2 hn2 hW8 hit8 hlen8 hv8 hf8 e7' f7' d18' hfr8 hx8
    go_upto_region 10 with (fail)
    obtain ⟨fr1, hfr1⟩ : ∃ f, f = fr + 1 := ⟨_, rfl⟩
    have hfm : ((fr : Int) + 1) = (fr1 : Int) := by omega
    have HFR1 := Lib.hid hfr1
    rw [hfm]
    obtain ⟨W9, hW9⟩ : ∃ W, W = W8.setCell ⟨x.mb, 8, none⟩ (.int .u32 (fr1 : Int)) := ⟨_, rfl⟩
    rw [← hW9]
    obtain ⟨it2, hit2⟩ : ∃ i : It, i = cutI most it1 := ⟨_, rfl⟩
    obtain ⟨x2, hx2⟩ : ∃ y : GM, y = { x with it := it2, A := A2, cp := cp2 } := ⟨_, rfl⟩
    have hdrop : it1.m.body.drop kb = it1.m.body.drop most := by
      rw [HKB2.out]
      rcases Nat.le_total most n with h9 | h9
      · rw [Nat.min_eq_left h9]
      · rw [Nat.min_eq_right h9, HN.out, List.drop_length, List.drop_eq_nil_of_le (by rw [← HN.out]; exact h9)]
    have hcell2 : (x2.me g.sb).cells = (Me.cells ⟨it8, A2, cp2, some g.sb, some x.lb, some x.nb⟩).setIfInBounds 8 (.int .u32 (fr1 : Int)) := by
      rw [hx2, hit2, HIT8.out]
      unfold GM.me Me.cells Me.n cutI
      dsimp only
      rw [hdrop]
      have h9 : ((it1.fr + 1) % 4294967296 : Nat) = fr1 := by
        have h7 : it1.fr = fr := by rw [HFR.out]; exact HBD.out.2.1
        have := HFR65.out
        omega
      rw [h9]
      rfl
    have hbody2 : x2.it.m.body = it8.m.body := by rw [hx2, hit2, HIT8.out]; exact hdrop.symm
    have hv9 : Hv e W9 (upd h3 x.mb (.ms (x2.me g.sb))) := by
      have h9 : Hv e W9 (upd (upd h3 x.mb (.ms ⟨it8, A2, cp2, some g.sb, some x.lb, some x.nb⟩)) x.mb (.ms (x2.me g.sb))) := by
        rw [hW9]
        refine HV8.out.set (upd_same _ _ _) rfl hcell2 (fun y hy => ?_)
        injection hy with hy
        subst hy
        exact ⟨_, rfl, by rw [hx2]; rfl, by rw [hx2]; rfl, hbody2⟩
      refine h9.as_ fun y => ?_
      unfold upd
      split <;> rfl
    have HSW : Hid (Sw gh1 [] gc (swL g [] c { x with it := it1 }) [] c { x with it := it1 } x2) := by
      refine ⟨by rw [HG1E.out]; rfl, rfl, by rw [hx2], by rw [hx2], by rw [hx2], by rw [hx2], ?_⟩
      rw [hx2, hit2]
      rfl
    have hf9 : Fr (fun i => i = x.mb) V7 W9 := by rw [hW9]; exact HF8.out.same (fr_set _)
    obtain ⟨g2, hg2⟩ : ∃ y, y = swL (swL g [] c { x with it := it1 }) [] c x2 := ⟨_, rfl⟩
    obtain ⟨gh2, hgh2⟩ : ∃ y, y = swG gh1 [] gc (swL g [] c { x with it := it1 }) [] c x2 := ⟨_, rfl⟩
    have HGH2 : Hid (gh2 = swG gh1 [] gc (swL g [] c { x with it := it1 }) [] c x2) := hgh2
    have HG2 : Hid (g2 = { g with ms := x2 :: c }) := by show _ = _; rw [hg2]; rfl
    have HG2D : Hid (g2 = swL (swL g [] c { x with it := it1 }) [] c x2) := hg2
    have HGL2 : Hid (gh2.gl = g2 :: gc) := by show _ = _; rw [hgh2, hg2]; rfl
    obtain ⟨rq3, hq3⟩ := HQV.out.rep.q
    obtain ⟨rs3, hs3⟩ := (HQV.out.rep.line _ HGIN.out).ob
    have hs3' : h3 g.sb = some (.st (bytesI (swL g [] c { x with it := it1 }).its) rs3 (some g.lb)) := hs3
    have hne1 : p ≠ x.mb := fun e9 => by rw [e9, HM3.out] at hq3; cases hq3
    have hne2 : g.sb ≠ x.mb := fun e9 => by rw [e9, HM3.out] at hs3'; cases hs3'
    have hlx : x2.it.m.body.length = n2 := by rw [hbody2]; exact HLEN8.out
    have hI1 : bytesI (swL g [] c { x with it := it1 }).its = n + bytesI (c.map GM.it) := by
      show bytesI (([] ++ ({ x with it := it1 } : GM) :: c).map GM.it) = _
      rw [List.nil_append, List.map_cons, bytesI_cs, ← HN.out]
    have hI2 : bytesI g2.its = n2 + bytesI (c.map GM.it) := by
      rw [HG2.out]
      show bytesI ((x2 :: c).map GM.it) = _
      rw [List.map_cons, bytesI_cs, hlx]
    have hA1 : bytesG gh1.gl = bytesI (swL g [] c { x with it := it1 }).its + bytesG gc := by rw [HG1E.out]; exact bytesG_cons _ _
    have hA2 : bytesG gh2.gl = bytesI g2.its + bytesG gc := by rw [HGL2.out]; exact bytesG_cons _ _
    have hA0 : bytesG gh1.gl = bytesG gh.gl := by
      rw [hA1, hI1, HEG.out, bytesG_cons]
      show _ = bytesI (g.ms.map GM.it) + _
      rw [HEMS.out, List.map_cons, bytesI_cs, HN.out, HBD.out.1]
    have hle2 : bytesG gh2.gl ≤ 262144 := by have := HBB.out; have := HN2.out; omega
    have HLE2 := Lib.hid hle2
    have hnkb := HN2.out
    have hct := count_s (by_ := -(kb : Int)) (bs' := bytesI g2.its) (bq' := bytesG gh2.gl) hv9 ((upd_ne _ _ hne1).trans hq3) ((upd_ne _ _ hne2).trans hs3') (by omega) (by omega) (by omega) (by omega) (by have := HBB.out; omega)
    have HCT := Lib.hid hct
    have HF9 := Lib.hid hf9
    have HLX := Lib.hid hlx
    have HX2 := Lib.hid hx2
    have HIT2 := Lib.hid hit2
    have d18b : W9.cell? ⟨g10, 18, none⟩ = some (.slice A5 kb c5) := by
      refine (World.cell?_of_block (hf9.block g10 HKCV.out.lt fun e9 => ?_)).trans ?_
      · have e9' : g10 = x.mb := e9
        have := HQ1.out.hv.lt HM3.out
        have := HG10.out.2
        omega
      · rw [HKCV.out.cell 18, HCS6.out]
        show some bv = _
        rw [HBV2.out]
        have : kb = (fragI inter most it1).body.length := by rw [HKB2.out, HN.out]; show _ = (it1.m.body.take most).length; rw [List.length_take]
        rw [this]
    have hkb9 : kb ≤ 65536 := by have := HOK1.out.len; have := HN.out; omega
    clear hW9 hit2 hx2 hdrop hcell2 hbody2 hv9 hf9 hg2 hgh2 hq3 hs3 hs3' hne1 hne2 hlx hI1 hI2 hA1 hA2 hA0 hle2 hct c8 f8 hfr1 hfm hfr65 hnkb
    go_upto_region 11 with (go_at_call 32; refine HCT.out.mono ?_; rintro en W10 ⟨rfl, hv10, hf10⟩)
    obtain ⟨h10, hh10⟩ : ∃ y, y = cntH (upd h3 x.mb (.ms (x2.me g.sb))) p g.sb (bytesI g2.its) (bytesG gh2.gl) := ⟨_, rfl⟩
    have hf10' : Fr (HG h3) V7 W10 := (HF9.out.mono (T := HG h3) fun i _ hi => .inl (by rw [show i = x.mb from hi, HM3.out]; simp)).same (hf10.mono fun i _ hi => .inl (by
      obtain ⟨rq3, hq3⟩ := HQV.out.rep.q
      obtain ⟨rs3, hs3⟩ := (HQV.out.rep.line _ HGIN.out).ob
      have hs3' : h3 g.sb = some (.st (bytesI (swL g [] c { x with it := it1 }).its) rs3 (some g.lb)) := hs3
      rcases hi with rfl | rfl
      · rw [hq3]; simp
      · rw [hs3']; simp))
    have HQ10 : Hid (QM e W10 h10 p gh2 mm1) := by
      have h9 : Hv e W10 (cntH (upd h3 x.mb (.ms (x2.me g.sb))) p g.sb (bytesI (swL (swL g [] c { x with it := it1 }) [] c x2).its) (bytesG (swG gh1 [] gc (swL g [] c { x with it := it1 }) [] c x2).gl)) := by
        rw [← HGH2.out, ← HG2D.out]
        exact hv10
      have h8 := HQV.out.cutq HSW.out h9 hf10'
      show QM _ _ _ _ _ _
      rw [hh10, HGH2.out, HG2D.out]
      exact h8
    have HM10 : Hid (h10 x.mb = some (.ms (x2.me g.sb))) := by
      show _ = _
      have h9 := (HQ10.out.rep.line g2 (by rw [HGL2.out]; simp)).ms x2 (by rw [HG2.out]; simp)
      rw [HX2.out] at h9 ⊢
      rw [HG2.out] at h9
      exact h9
    have HGR10 : Hid (Grow h3 h10 V7.heap.size) := by
      show Grow _ _ _
      rw [hh10]
      refine (Grow.trans (h' := upd h3 x.mb (.ms (x2.me g.sb))) ⟨fun b hb9 => ?_, fun b y ad hy ha => ?_⟩ (Grow.cnt _ _ _ _ _ V7.heap.size) (Nat.le_refl _))
      · by_cases e9 : b = x.mb
        · exact .inl (by rw [e9, HM3.out]; simp)
        · rw [upd_ne _ _ e9] at hb9; exact .inl hb9
      · by_cases e9 : b = x.mb
        · subst e9
          rw [upd_same] at hy
          injection hy with hy
          injection hy with hy
          subst hy
          have ha' : A2 = some ad := by rw [HX2.out] at ha; exact ha
          rw [HA2E.out] at ha'
          obtain ⟨a0, h8, h7⟩ := cut_add x.A kb ha'
          exact .inl (.inr ⟨x.mb, _, HM3.out, a0, h8, h7.symm⟩)
        · rw [upd_ne _ _ e9] at hy
          exact .inl (.inr ⟨b, y, hy, ad, ha, rfl⟩)
    have HF10 := Lib.hid hf10'
    clear hv10 hf10 hf10' hh10
    have HN9 : Hid (¬ QG e h10 g10 ∧ ¬ QG e h10 g1 ∧ ¬ QG e h10 (g1 + 1) ∧ ∀ ad : Addr, Wc.heap.size ≤ ad.block → ad.block < V7.heap.size → ¬ QG e h10 ad.block) := by
      have hlt : ∀ i, QG e h3 i → i < Wc.heap.size := fun i hi => HQ1.out.lt hi
      have hsz := HBV7.out.size
      have h2s : W2.heap.size ≤ Wc.heap.size := HFRR.out.size
      have h6 : ∀ i, Wc.heap.size ≤ i → i < V7.heap.size → ¬ QG e h10 i := fun i ha hb hc => by
        rcases HGR10.out.qg hc with h9 | h9
        · have := hlt i h9; omega
        · omega
      have h7 : ∀ i, w.heap.size ≤ i → i < W2.heap.size → ¬ QG e h10 i := fun i ha hb hc => by
        rcases HGR10.out.qg hc with h9 | h9
        · rcases HGR.out.qg h9 with h8 | h8
          · have := KQG.out i h8; omega
          · omega
        · omega
      have ha := KL.out.lt
      exact ⟨h6 _ HG10.out.2 HKCV.out.lt, h7 _ (by rw [HG1.out]; exact Nat.le_refl _) KC.out.lt, h7 _ (by rw [HG1.out]; omega) ha, fun ad => h6 _⟩
    have hnh : ∀ i, ¬ QG e h10 i → ¬ HG h3 i → True := fun _ _ _ => trivial
    have HN3 : Hid (¬ HG h3 g10 ∧ ¬ HG h3 g1 ∧ ¬ HG h3 (g1 + 1)) := by
      have h7 : ∀ i, w.heap.size ≤ i → i < W2.heap.size → ¬ QG e h3 i := fun i ha hb hc => by
        rcases HGR.out.qg hc with h8 | h8
        · have := KQG.out i h8; omega
        · omega
      exact ⟨fun h9 => by have := HQ1.out.hv.gLt h9; have := HG10.out.2; omega, fun h9 => h7 _ (by rw [HG1.out]; exact Nat.le_refl _) KC.out.lt (.inl h9), fun h9 => h7 _ (by rw [HG1.out]; omega) KL.out.lt (.inl h9)⟩
    have HNH : Hid (¬ QG e h g1 ∧ ¬ QG e h (g1 + 1)) := ⟨fun h9 => by have := KQG.out _ h9; have := HG1.out; omega, fun h9 => by have := KQG.out _ h9; have := HG1.out; omega⟩
    have HKC10 : Hid (CkBlk W10 g10 cs6) := HF10.out.blk HKCV.out HN3.out.1
    have HK110 : Hid (Blk W10 g1 51 zkA) := HF10.out.blk (Go.Proofs.Ytkjlmibjpfmfnaa.Fl.blk_below (HFRR.out.blk KC.out HNH.out.1) HBV7.out) HN3.out.2.1
    have HL110 : Hid (Blk W10 (g1 + 1) 34 limZ) := HF10.out.blk (Go.Proofs.Ytkjlmibjpfmfnaa.Fl.blk_below (HFRR.out.blk KL.out HNH.out.2) HBV7.out) HN3.out.2.2
    have HADM2 : Hid (∀ T, Adm gh T → Adm gh2 T) := fun T hT => adm_sw hT HEG.out HGL2.out (by rw [HG2.out]) (by rw [HGH2.out, HG1E.out]; rfl) (by rw [HGH2.out, HG1E.out]; rfl)
    have d2 : W10.cell? ⟨g10, 2, none⟩ = some (.bool (decide (n ≤ most))) := (HKC10.out.cell 2).trans (by rw [HCS6.out, HN.out]; rfl)
    have ci10 : W10.cell? ⟨p, 0, none⟩ = some (.bool inter) := by
      obtain ⟨r9, h9⟩ := HQ10.out.rep.q
      rw [HINT.out]
      exact HQ10.out.hv.cell h9 0
    clear hnh ci3 d18b
    go_upto_if 89 with (fail)
    go_cut [89] from 90 to 92 (fun _ wx => ∃ (hM : Hp) (ghM : Gh), Hid (NxM e W10 h10 p gh gc g c x x2 n most mm1 wx hM ghM))
    case first =>
      by_cases hend : n ≤ most
      · have hde : decide (n ≤ most) = true := decide_eq_true hend
        rw [hde] at d2
        have hgin2 : g2 ∈ gh2.gl := by rw [HGL2.out]; simp
        have hxin2 : x2 ∈ g2.ms := by rw [HG2.out]; simp
        obtain ⟨nn, pl, hnn, hyl⟩ := HQ10.out.g.mn g2 hgin2 x2 hxin2
        obtain ⟨na, nc, hl⟩ := List.append_of_mem hyl
        have hR : Rmv h10 p gh2 [] gc g2 [] c x2 nn na nc pl := ⟨HGL2.out, by rw [HG2.out]; rfl, hnn, hl⟩
        have hid2 : i64ok x2.it.id := by
          have h9 := HOK1.out.id
          rw [HX2.out, HIT2.out]
          exact h9
        have hst2 : x2.it.m.st = g2.st := by
          rw [HX2.out, HIT2.out, HG2.out]
          exact HBD.out.2.2.2.2.2.1.trans HST.out
        have hst6 : g2.st < 65536 := by
          rw [← hst2, HX2.out, HIT2.out]
          exact HOK1.out.m.st
        obtain ⟨_, _, _, hD⟩ := HQ10.out.rep.rmv HQ10.out.g hR
        have hrm := remove_s HQ10.out hR hid2 hst2 hst6 (by have := HLE2.out; omega)
        have hmx : x2.mb = x.mb := by rw [HX2.out]
        rw [hmx] at hrm
        have HRMV := Lib.hid hrm
        have HR := Lib.hid hR
        have HD := Lib.hid hD
        have HNN := Lib.hid hnn
        clear hde hgin2 hxin2 hnn hyl hl hR hid2 hst2 hst6 hD hrm hmx
        go_wp2_with (go_at_call 33; refine HRMV.out.mono ?_; rintro e9 wM ⟨rfl, hqM, hfM⟩)
        go_meet
        refine ⟨_, _, hqM, (rmv_keep).msk _ _ HM10.out, fun T hT => adm_rmv (HADM2.out T hT) HGL2.out HNN.out, rmv_grow _, hfM, .inl ⟨hend, ?_, fun hc => ?_⟩⟩
        · show (if ([] : List GM) ++ c = [] then ([] : List GL) ++ gc else ([] : List GL) ++ { g2 with ms := [] ++ c } :: gc) = _
          rw [HG2.out]
          rfl
        · obtain ⟨r, h9, h8⟩ := HD.out.s4
          have e8 : g2.sb = g.sb := by rw [HG2.out]
          rw [e8] at h9
          exact ⟨_, r, _, h9, by rw [h8, hc]; rfl⟩
      · have hde : decide (n ≤ most) = false := decide_eq_false hend
        rw [hde] at d2
        go_wp2_with fail
        go_meet
        exact ⟨h10, gh2, HQ10.out, HM10.out, HADM2.out, Grow.refl _ _, Fr.refl _ _, .inr ⟨by omega, by rw [HGL2.out, HG2.out]⟩⟩
    case rest =>
    obtain ⟨hM, ghM, HM⟩ := hcut
    obtain ⟨WM, hWM⟩ : ∃ y, y = wc := ⟨_, rfl⟩
    subst hWM
    have HKCM : Hid (CkBlk WM g10 cs6) := HM.out.fr.blk HKC10.out HN9.out.1
    have dM : WM.cell? ⟨g10, 2, none⟩ = some (.bool (decide (n ≤ most))) := (HKCM.out.cell 2).trans (by rw [HCS6.out, HN.out]; rfl)
    have ciM : WM.cell? ⟨p, 0, none⟩ = some (.bool inter) := by
      obtain ⟨r9, h9⟩ := HM.out.q.rep.q
      rw [HINT.out]
      exact HM.out.q.hv.cell h9 0
    clear d2 ci10
    obtain ⟨en, hen⟩ : ∃ b : Bool, b = decide (n ≤ most) := ⟨_, rfl⟩
    have HEN : Hid (en = decide (n ≤ most)) := hen
    rw [← hen] at dM
    clear hen
    have hcase : en = true ∨ (en = false ∧ inter = true) ∨ (en = false ∧ inter = false) := by cases en <;> cases inter <;> simp
    have HPAS : Hid ((en = true ∨ inter = true) → Calls Try.prog 34 #[qptr p, qptr g.sb] WM fun e9 w' => e9 = .returned (.tuple #[]) ∧ ∃ hE ghE, NxE e W10 h10 p gh gc g c x x2 it1 most mm1 w' hE ghE) := fun hor => by
      have hsz : W10.heap.size ≤ WM.heap.size := HM.out.fr.size
      have hgo : ∀ (gx : GL), ghM.gl = gx :: gc → gx.ms ≠ [] → gx.sb = g.sb → gx.st = g.st → (turned e.inter most g.st it1 (c.map GM.it) (gc.map fun g => (g.st, g.its)) = (gc.map fun g => (g.st, g.its)) ++ [(g.st, gx.its)]) → Calls Try.prog 34 #[qptr p, qptr g.sb] WM fun e9 w' => e9 = .returned (.tuple #[]) ∧ ∃ hE ghE, NxE e W10 h10 p gh gc g c x x2 it1 most mm1 w' hE ghE := fun gx a1 a2 a3 a4 a5 => by
        have hp := pass_s (ga := []) (gc := gc) (g := gx) HM.out.q a1 a2 (by have := (HM.out.adm _ HT.out).q; have := HT2.out; omega)
        rw [a3] at hp
        refine hp.mono fun e9 w' ⟨hE, nb, b1, b2, b3, b4, b5⟩ => ⟨b1, hE, _, b2, b5 _ _ HM.out.m, ?_, fun T hT => adm_pass (HM.out.adm T hT) a1, HM.out.gr.trans b3 hsz, HM.out.fr.trans b4 fun i hi hx => ?_⟩
        · rw [a5]
          show (([] ++ gc ++ [{ gx with lb := nb, pl := ghM.ad }] : List GL).map fun g => ((g.st, g.its) : Lin)) = _
          rw [List.nil_append, List.map_append, ← a4]
          rfl
        · rcases HM.out.gr.qg hx with h9 | h9
          · exact h9
          · omega
      rcases HM.out.cas with ⟨c1, c2, c3⟩ | ⟨c1, c2⟩
      · by_cases hc : c = []
        · obtain ⟨b, r, t, d1, d2⟩ := c3 hc
          rw [if_pos hc] at c2
          refine (pass0_s HM.out.q.hv d1 d2).mono ?_
          rintro e9 w' ⟨rfl, rfl⟩
          refine ⟨rfl, hM, ghM, HM.out.q, HM.out.m, ?_, fun T hT => (HM.out.adm T hT).up (Nat.le_succ T), HM.out.gr, HM.out.fr⟩
          show (ghM.gl.map fun g => ((g.st, g.its) : Lin)) = _
          unfold turned
          rw [if_pos (decide_eq_true (by rw [← HN.out]; exact c1)), c2, hc]
          show _ = _ ++ behind g.st []
          unfold behind
          simp
        · rw [if_neg hc] at c2
          refine hgo _ c2 hc rfl rfl ?_
          unfold turned
          rw [if_pos (decide_eq_true (by rw [← HN.out]; exact c1))]
          unfold behind
          have : (c.map GM.it).isEmpty = false := by cases c with
            | nil => exact absurd rfl hc
            | cons => rfl
          rw [this]
          rfl
      · have hi : inter = true := by
          rcases hor with h9 | h9
          · rw [HEN.out] at h9
            have := of_decide_eq_true h9
            omega
          · exact h9
        refine hgo _ c2 (by simp) rfl rfl ?_
        unfold turned
        rw [if_neg (by rw [← HN.out]; simp; omega), ← HINT.out, if_pos hi]
        have e8 : x2.it = cutI most it1 := by rw [HX2.out]; exact HIT2.out
        show _ = _ ++ [(g.st, (x2 :: c).map GM.it)]
        rw [List.map_cons, e8]
    obtain ⟨tst, htst⟩ : ∃ b : Bool, b = (en || inter) := ⟨_, rfl⟩
    have HTST : Hid (tst = (en || inter)) := htst
    clear htst
    go_upto_region 13 with (fail)
    go_cut [100] from 93 to 100 (fun v100 wx => v100 = .bool tst ∧ WM = wx)
    case first =>
      have HTS2 : Hid (∀ b, b = (en || inter) → b = tst) := fun b hb => by rw [HTST.out, hb]
      rcases hcase with h9 | ⟨h9, h8⟩ | ⟨h9, h8⟩
      · subst h9
        have e9 : tst = true := by rw [HTST.out]; rfl
        subst e9
        go_wp2_with fail
        go_meet
        exact ⟨rfl, rfl⟩
      · subst h9
        subst h8
        have e9 : tst = true := by rw [HTST.out]; rfl
        subst e9
        go_wp2_with fail
        go_meet
        exact ⟨rfl, rfl⟩
      · subst h9
        subst h8
        have e9 : tst = false := by rw [HTST.out]; rfl
        subst e9
        go_wp2_with fail
        go_meet
        exact ⟨rfl, rfl⟩
    case rest =>
    obtain ⟨rfl, rfl⟩ := hcut
    clear dM ciM
    go_upto_if 100 with (fail)
    go_cut [100] from 101 to 103 (fun _ wx => ∃ (hE : Hp) (ghE : Gh), Hid (NxE e W10 h10 p gh gc g c x x2 it1 most mm1 wx hE ghE))
    case first =>
      have HFC : Hid (en = false → inter = false → NxE e W10 h10 p gh gc g c x x2 it1 most mm1 WM hM ghM) := fun a1 a2 => by
        have hnot : ¬ n ≤ most := fun h9 => by rw [HEN.out, decide_eq_true h9] at a1; cases a1
        rcases HM.out.cas with ⟨c1, _⟩ | ⟨c1, c2⟩
        · exact absurd c1 hnot
        · refine ⟨HM.out.q, HM.out.m, ?_, fun T hT => (HM.out.adm T hT).up (Nat.le_succ T), HM.out.gr, HM.out.fr⟩
          show (ghM.gl.map fun g => ((g.st, g.its) : Lin)) = _
          unfold turned
          rw [if_neg (by rw [← HN.out]; simp; omega), ← HINT.out, if_neg (by rw [a2]; simp), c2]
          have e8 : x2.it = cutI most it1 := by rw [HX2.out]; exact HIT2.out
          show (g.st, (x2 :: c).map GM.it) :: _ = _
          rw [List.map_cons, e8]
      cases tst
      · have HP := Lib.hid (HFC.out (by have := HTST.out; cases en <;> cases inter <;> simp at this ⊢) (by have := HTST.out; cases en <;> cases inter <;> simp at this ⊢))
        go_wp2_with fail
        go_meet
        exact ⟨hM, ghM, HP.out⟩
      · have HP := Lib.hid (HPAS.out (by have := HTST.out; cases en <;> cases inter <;> simp at this ⊢))
        go_wp2_with (go_at_call 34; refine HP.out.mono ?_; rintro e9 wE ⟨rfl, hE, ghE, hHE⟩)
        go_meet
        exact ⟨hE, ghE, hHE⟩
    case rest =>
      obtain ⟨hE, ghE, HE⟩ := hcut
      have KME : Hid (Blk wc x.mb 97 (x2.me g.sb).cells) := HE.out.q.hv.blk x.mb _ HE.out.m
      have HKE : Hid (CkBlk wc g10 cs6) := HE.out.fr.blk HKC10.out HN9.out.1
      have HK1E : Hid (Blk wc g1 51 zkA) := HE.out.fr.blk HK110.out HN9.out.2.1
      have HL1E : Hid (Blk wc (g1 + 1) 34 limZ) := HE.out.fr.blk HL110.out HN9.out.2.2.1
      have hidl : x2.it.id = x.it.id ∧ x2.it.lk = x.it.lk ∧ x2.it.ln = x.it.ln := by
        rw [HX2.out, HIT2.out]
        exact ⟨HBD.out.2.2.1, HBD.out.2.2.2.1, HBD.out.2.2.2.2.1⟩
      have z0 : wc.cell? ⟨x.mb, 0, none⟩ = some (.int .i64 x.it.id) := (KME.out.cell 0).trans (by show some (Value.int .i64 x2.it.id) = _; rw [hidl.1])
      have hldl : ∀ j v, (#[.int .i64 x.it.lk, .int .u32 (x.it.ln : Int)] : Array Value)[j]? = some v → wc.drew.cell? ((⟨x.mb, 1, none⟩ : Addr).add j) = some v := fun j v hj => by
        have hj2 : j < 2 := (Array.getElem?_eq_some_iff.1 hj).1
        rcases j with _ | _ | j
        · refine Eq.trans ?_ hj
          exact (KME.out.cell 1).trans (by show some (Value.int .i64 x2.it.lk) = _; rw [hidl.2.1]; rfl)
        · refine Eq.trans ?_ hj
          exact (KME.out.cell 2).trans (by show some (Value.int .u32 (x2.it.ln : Int)) = _; rw [hidl.2.2]; rfl)
        · omega
      have HSZ6 := HOWV.out.size
      have HON6 := Lib.hid (own_one HOWV.out)
      clear hidl
      have HCE : Hid (∀ V, Below wc.heap.size wc V → CkBlk V g10 cs6 ∧ V.cell? ⟨x.mb, 0, none⟩ = some (.int .i64 x.it.id) ∧ ∀ j v, (#[.int .i64 x.it.lk, .int .u32 (x.it.ln : Int)] : Array Value)[j]? = some v → V.cell? ((⟨x.mb, 1, none⟩ : Addr).add j) = some v) := fun V hV => by
        refine ⟨Go.Proofs.Ytkjlmibjpfmfnaa.Fl.blk_below HKE.out hV, (World.cell?_of_block (hV.block x.mb KME.out.lt)).trans z0, fun j v hj => ?_⟩
        have hb1 : ((⟨x.mb, 1, none⟩ : Addr).add j).block = x.mb := by unfold Addr.add; split <;> rfl
        refine (World.cell?_of_block ?_).trans (hldl j v hj)
        rw [hb1]
        exact hV.block x.mb KME.out.lt
      have HS6 := Lib.hid HSZ6
      clear hldl z0 HSZ6
      go_upto_region 15 with (fail)
      have HSI : Hid (NxS wc g1 cs6 (limA x.it.lk x.it.ln) 0 wc.drew) := ⟨(Fr.refl _ _).drew, HK1E.out, HL1E.out⟩
      have HNEI : Hid (x.mb ≠ g1 ∧ x.mb ≠ g1 + 1 ∧ g10 ≠ g1 ∧ g10 ≠ g1 + 1) := by
        have a1 := HKE.out.lt
        have a2 := HG10.out.2
        have a3 := HFRR.out.size
        have a4 := KL.out.lt
        have a5 : x.mb < w.heap.size := KQG.out _ (.inl (.inl (by rw [HMB.out]; simp)))
        have a6 := HG1.out
        exact ⟨by omega, by omega, by omega, by omega⟩
      have HCF : Hid (∀ V m, NxS wc g1 cs6 (limA x.it.lk x.it.ln) m V → CkBlk V g10 cs6 ∧ V.cell? ⟨x.mb, 0, none⟩ = some (.int .i64 x.it.id) ∧ ∀ j v, (#[.int .i64 x.it.lk, .int .u32 (x.it.ln : Int)] : Array Value)[j]? = some v → V.cell? ((⟨x.mb, 1, none⟩ : Addr).add j) = some v) := fun V m hV => by
        have hf := hV.fr
        have hk := hf.blk KME.out (fun e9 => e9.elim HNEI.out.1 HNEI.out.2.1)
        refine ⟨hf.blk HKE.out (fun e9 => e9.elim HNEI.out.2.2.1 HNEI.out.2.2.2), ?_, fun j v hj => ?_⟩
        · exact (World.cell?_of_block (hf.block x.mb KME.out.lt (fun e9 => e9.elim HNEI.out.1 HNEI.out.2.1))).trans ((HCE.out wc (Below.refl _ _)).2.1)
        · have hb1 : ((⟨x.mb, 1, none⟩ : Addr).add j).block = x.mb := by unfold Addr.add; split <;> rfl
          refine (World.cell?_of_block ?_).trans ((HCE.out wc (Below.refl _ _)).2.2 j v hj)
          rw [hb1]
          exact hf.block x.mb KME.out.lt (fun e9 => e9.elim HNEI.out.1 HNEI.out.2.1)
      have HCI6 : Hid ((Try.prog.info? 51).map (·.size) = some cs6.size) := Lib.hid (by rw [HS6.out]; exact chunk_info)
      have HCZ6 : Hid (zkA.size = cs6.size) := Lib.hid (by rw [HS6.out]; rfl)
      refine wp_region_stage (fun V V' => V.heap.size ≤ V'.heap.size) (fun m V => Hid (NxS wc g1 cs6 (limA x.it.lk x.it.ln) m V)) [(false, .exact (.agg cs6)),
          (false, .exact (qptr x.mb)),
          (false, .exact (qptr x.mb)),
          (false, .exact (.pointer (some ⟨x.mb, 0, none⟩))),
          (false, .exact (.int .i64 x.it.id)),
          (false, .exact (qptr x.mb)),
          (false, .exact (qptr x.mb)),
          (false, .exact (.pointer (some ⟨x.mb, 1, none⟩))),
          (false, .exact (.agg #[.int .i64 x.it.lk, .int .u32 (x.it.ln : Int)])),
          (true, .exact (undef)),
          (false, .exact (.int .i64 x.it.id)),
          (true, .exact (undef)),
          (false, .exact (.bool true))] (by kernel_rfl) (by kernel_rfl) (by kernel_rfl) rfl ?lasts ?start ?walk
      case lasts => exact trivial
      case start => exact HSI
      case walk =>
        refine stage_pure rfl (fun V => Nat.le_refl _) (fun V m hS hl => by
            have hb := (HCF.out V m hS.out).1
            exact exec_loadR' rfl rfl (fun j u hu => by rw [hb.cellAdd]; exact hu) Try.underlying51 rfl (by rw [HS6.out]; exact chunk_info)) ?_
        simp only [Act.put, List.setIfInBounds_toArray, List.set_cons_zero, List.set_cons_succ, List.cons_append, List.nil_append]
        refine stage_pure rfl (fun V => Nat.le_refl _) (fun V m hS hl => by go_simp) ?_
        simp only [Act.put, List.setIfInBounds_toArray, List.set_cons_zero, List.set_cons_succ, List.cons_append, List.nil_append]
        refine stage_pure rfl (fun V => Nat.le_refl _) (fun V m hS hl => by go_simp) ?_
        simp only [Act.put, List.setIfInBounds_toArray, List.set_cons_zero, List.set_cons_succ, List.cons_append, List.nil_append]
        refine stage_pure rfl (fun V => Nat.le_refl _) (fun V m hS hl => by go_simp) ?_
        simp only [Act.put, List.setIfInBounds_toArray, List.set_cons_zero, List.set_cons_succ, List.cons_append, List.nil_append]
        refine stage_pure rfl (fun V => Nat.le_refl _) (fun V m hS hl => by
            have hc := (HCF.out V m hS.out).2.1
            go_simp) ?_
        simp only [Act.put, List.setIfInBounds_toArray, List.set_cons_zero, List.set_cons_succ, List.cons_append, List.nil_append]
        refine stage_pure rfl (fun V => Nat.le_refl _) (fun V m hS hl => by go_simp) ?_
        simp only [Act.put, List.setIfInBounds_toArray, List.set_cons_zero, List.set_cons_succ, List.cons_append, List.nil_append]
        refine stage_pure rfl (fun V => Nat.le_refl _) (fun V m hS hl => by go_simp) ?_
        simp only [Act.put, List.setIfInBounds_toArray, List.set_cons_zero, List.set_cons_succ, List.cons_append, List.nil_append]
        refine stage_pure rfl (fun V => Nat.le_refl _) (fun V m hS hl => by go_simp) ?_
        simp only [Act.put, List.setIfInBounds_toArray, List.set_cons_zero, List.set_cons_succ, List.cons_append, List.nil_append]
        refine stage_pure rfl (fun V => Nat.le_refl _) (fun V m hS hl => by
            have hb := (HCF.out V m hS.out).2.2
            exact exec_loadR' rfl rfl hb Try.underlying34 rfl lim_sz) ?_
        simp only [Act.put, List.setIfInBounds_toArray, List.set_cons_zero, List.set_cons_succ, List.cons_append, List.nil_append]
        refine stage_move rfl (fun V hS hl => by
            rw [exec_storeR rfl rfl rfl hS.out.k1 HCI6.out HCZ6.out HON6.out]
            exact ⟨by simp [World.setRow], rfl, hS.out.one⟩) ?_
        simp only [Act.put, List.setIfInBounds_toArray, List.set_cons_zero, List.set_cons_succ, List.cons_append, List.nil_append]
        refine stage_pure rfl (fun V => Nat.le_refl _) (fun V m hS hl => by go_simp) ?_
        simp only [Act.put, List.setIfInBounds_toArray, List.set_cons_zero, List.set_cons_succ, List.cons_append, List.nil_append]
        refine stage_move rfl (fun V hS hl => by
            rw [exec_storeR (b := limA x.it.lk x.it.ln) rfl rfl rfl hS.out.k2 (lim_info _ _) rfl (lim_one _ _)]
            exact ⟨by simp [World.setRow], rfl, hS.out.two⟩) ?_
        simp only [Act.put, List.setIfInBounds_toArray, List.set_cons_zero, List.set_cons_succ, List.cons_append, List.nil_append]
        refine stage_pure rfl (fun V => Nat.le_refl _) (fun V m hS hl => by go_simp) ?_
        simp only [Act.put, List.setIfInBounds_toArray, List.set_cons_zero, List.set_cons_succ, List.cons_append, List.nil_append]
        refine stage_nil (fun V5 hS hF => ?_)
        have HS5 : Hid (NxS wc g1 cs6 (limA x.it.lk x.it.ln) 2 V5) := hS
        clear hS hF
        go_wp2_with fail
        (try simp only [Exit.inBlock, Exit.then])
        refine bodyPost_ret (res_nx rfl _ _ g1 (g1 + 1) cs6 (limA x.it.lk x.it.ln) rfl HS5.out.k1 HS6.out rfl HS5.out.k2 rfl) rfl ?_
        have hsz5 := HS5.out.fr
        have hx5 : ∀ i, (i = g1 ∨ i = g1 + 1) → ¬ QG e hE i := fun i hi h9 => by
          have a1 := KL.out.lt
          have a2 := HFRR.out.size
          have a3 := HBV7.out.size
          have a4 := HF10.out.size
          rcases HE.out.gr.qg h9 with h8 | h8
          · rcases hi with rfl | rfl
            · exact HN9.out.2.1 h8
            · exact HN9.out.2.2.1 h8
          · rcases hi with rfl | rfl <;> omega
        have hq5 : QM e V5 hE p ghE mm1 := HE.out.q.fr hsz5 fun i hi _ => hx5 i hi
        have hgrE : Grow h hE w.heap.size := ((HGR.out.trans HGR10.out (by have := HFRR.out.size; have := HBV7.out.size; omega)).trans HE.out.gr (by have := HFRR.out.size; have := HBV7.out.size; have := HF10.out.size; omega)).mono (by have := HB2.out.size; omega)
        have hfrE : Fr (QG e h) w V5 := by
          have b1 : Fr (QG e h) w W2 := (Fr.of_below HB2.out).mono fun i hi h9 => absurd h9 (by omega)
          have b2 := b1.same HFRR.out
          have b3 : Fr (QG e h) w V7 := b2.grows HBV7.out
          have b4 : Fr (QG e h) w W10 := b3.trans HF10.out fun i hi h9 => by
            rcases HGR.out.hg h9 with h8 | h8
            · exact .inl h8
            · have := HB2.out.size; omega
          have b5 : Fr (QG e h) w wc := b4.trans HE.out.fr fun i hi h9 => by
            have := HFRR.out.size; have := HBV7.out.size; have := HB2.out.size
            rcases HGR10.out.qg h9 with h8 | h8
            · rcases HGR.out.qg h8 with h7 | h7
              · exact h7
              · omega
            · omega
          refine b5.trans hsz5 fun i hi h9 => ?_
          have := HG1.out
          rcases h9 with rfl | rfl <;> omega
        have how5 : CkOwn V5 w.heap.size cs6 (fragI inter most it1) := by
          have c1 := HOW6.out
          obtain ⟨gv', dv', sv', pv', bv', e2, k1, k2, k3, ⟨ys, k4, k4b⟩, k5⟩ := HOWV.out
          have ho : ∀ {t : TypeId} {size n : Nat} {v : Value} {xs : List Value}, V7.ownsRow Wc.heap.size t size v n xs → V5.ownsRow w.heap.size t size v n xs := fun hx => by
            have h1' := HF10.out.own hx fun g9 hg9 hi => by
              have a1 := hx.lt g9 hg9
              have := HQ1.out.hv.gLt hi
              omega
            have h2' := HE.out.fr.own h1' fun g9 hg9 hi => by
              have a1 := hx.lt g9 hg9
              have a2 := HN9.out.2.2.2 ⟨g9, 0, none⟩ a1.1 a1.2
              exact a2 hi
            have h3' := hsz5.own h2' fun g9 hg9 hi => by
              have a1 := hx.lt g9 hg9
              have a2 := KL.out.lt
              have a3 := HFRR.out.size
              rcases hi with e9 | e9 <;> omega
            exact own_mono h3' (by have := HB2.out.size; have := HFRR.out.size; omega)
          exact ⟨gv', dv', sv', pv', bv', e2, ho k1, ho k2, ho k3, ⟨ys, ho k4, fun i q hq => by
            obtain ⟨q1, a, c, q2, q3, q4, q5, q6⟩ := k4b i q hq
            exact ⟨q1, a, c, q2, q3, q4, q5, ho q6⟩⟩, ho k5⟩
        refine ⟨cs6, hE, ghE, rfl, ?_, ?_, ?_, HE.out.adm, fun ad n9 c9 hcs h9 => ?_, hgrE, hfrE⟩
        · rw [← HIT1.out, ← HINT.out]; exact how5
        · rw [← HMM1.out]; exact hq5
        · rw [← HIT1.out]; exact HE.out.lns
        · obtain ⟨gv', dv', sv', pv', bv', e2, _, _, _, _, k5⟩ := HOWV.out
          rw [e2] at hcs
          have hcs' : some bv' = some (Value.slice (some ad) n9 c9) := hcs
          injection hcs' with hcs'
          rw [hcs'] at k5
          have a1 := k5.lt ad.block rfl
          rcases HE.out.gr.qg h9 with h8 | h8
          · exact HN9.out.2.2.2 ad a1.1 a1.2 h8
          · have := HF10.out.size
            omega
end
end Go.Proofs.Ytkjlmibjpfmfnaa.Sc
