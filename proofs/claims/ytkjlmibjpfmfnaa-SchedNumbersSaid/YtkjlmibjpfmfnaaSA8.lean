/-
  Of the texts ScRep3, MapX, FlPlain, FlMap, ScLn: what the laws reach.
-/
import Derived.Test.YtkjlmibjpfmfnaaSA7
import Derived.Test.YtkjlmibjpfmfnaaSA1
import Derived.Maps.Range
import Derived.Maps.OwnSet
import Derived.IntWalk
import Derived.OpenShut
import Derived.DeepKeys4

set_option linter.unusedVariables false
set_option linter.unusedSimpArgs false
namespace Go.Proofs.Ytkjlmibjpfmfnaa.Sc
open Go.Proofs.Ytkjlmibjpfmfnaa.Words Go.Proofs.Ytkjlmibjpfmfnaa.Chk
section
variable {h h' : Hp} {p b b0 sb lb mb nb : Nat} {gh : Gh} {g g' : GL} {x x' : GM} {ga gc : List GL} {a c : List GM} {n : NR} {na nc : List Lk} {pl : Nat} {C : Nat → Prop} {o : Ob}
theorem RepH.line_off (k : RepH h p gh) (hg : g ∈ gh.gl) (hf : Off C h h') (hp : ∀ b, C b → Plain h b) (h1 : ¬ C g.sb) (h2 : ∀ b, C b → ∀ x0, h b = some (.ms x0) → x0.s = none) : LineOk h' g :=
  (k.line g hg).off hf hp h1 fun y hy hC => by
    have := h2 _ hC _ ((k.line g hg).ms y hy)
    cases this
theorem RepH.num_off (k : RepH h p gh) {id : Int} (hn : gh.N id = some n) (hf : Off C h h') (hp : ∀ b, C b → Plain h b) (h1 : ¬ C n.rb) : (∃ r, h' n.rb = some (.rw r)) ∧ Row h' false n.rb n.ad n.l := by
  obtain ⟨⟨r, e⟩, R⟩ := k.num _ _ hn
  exact ⟨⟨r, hf.at_ e rfl h1⟩, R.off hf hp h1⟩
theorem nodup_turn {α β : Type} (f : α → β) {a c : List α} {g g' : α} (h : f g' = f g) (hn : ((a ++ g :: c).map f).Nodup) : ((a ++ c ++ [g']).map f).Nodup := by
  have e : ((a ++ c ++ [g']).map f) = a.map f ++ c.map f ++ [f g] := by simp [h]
  have e2 : ((a ++ g :: c).map f) = a.map f ++ f g :: c.map f := by simp
  rw [e]
  rw [e2] at hn
  refine List.Perm.nodup ?_ hn
  rw [List.append_assoc]
  exact List.Perm.append_left _ (List.perm_append_singleton _ _).symm
def passG (gh : Gh) (ga gc : List GL) (g : GL) (nb : Nat) : Gh := { gh with gl := ga ++ gc ++ [{ g with lb := nb, pl := gh.ad }], ad := gh.ad + 1 }
theorem RepG.pass (kg : RepG gh) (e : gh.gl = ga ++ g :: gc) (nb : Nat) : RepG (passG gh ga gc g nb) := by
  have hm1 : ∀ g1 ∈ gh.gl, ∃ g2 ∈ (passG gh ga gc g nb).gl, g2.st = g1.st ∧ g2.sb = g1.sb ∧ g2.ms = g1.ms := fun g1 h1 => by
    rw [e] at h1
    rcases List.mem_append.1 h1 with h9 | h9
    · exact ⟨g1, by simp [passG, h9], rfl, rfl, rfl⟩
    · rcases List.mem_cons.1 h9 with h9 | h9
      · exact ⟨{ g with lb := nb, pl := gh.ad }, by simp [passG], by rw [h9], by rw [h9], by rw [h9]⟩
      · exact ⟨g1, by simp [passG, h9], rfl, rfl, rfl⟩
  have hm2 : ∀ g2 ∈ (passG gh ga gc g nb).gl, ∃ g1 ∈ gh.gl, g2.st = g1.st ∧ g2.sb = g1.sb ∧ g2.ms = g1.ms := fun g2 h2 => by
    rw [e]
    have h2' : g2 ∈ ga ++ gc ++ [{ g with lb := nb, pl := gh.ad }] := h2
    rcases List.mem_append.1 h2' with h9 | h9
    · rcases List.mem_append.1 h9 with h9 | h9
      · exact ⟨g2, List.mem_append_left _ h9, rfl, rfl, rfl⟩
      · exact ⟨g2, List.mem_append_right _ (List.mem_cons_of_mem _ h9), rfl, rfl, rfl⟩
    · rw [List.mem_singleton.1 h9]
      exact ⟨g, by simp, rfl, rfl, rfl⟩
  have hnd : ∀ (f : GL → Nat), f { g with lb := nb, pl := gh.ad } = f g → (gh.gl.map f).Nodup → ((passG gh ga gc g nb).gl.map f).Nodup := fun f hf hn => by
    rw [e] at hn
    exact nodup_turn f hf hn
  refine ⟨fun g2 h2 => ?_, hnd _ rfl kg.sbs, hnd _ rfl kg.sts, kg.nn, kg.inj, fun g2 h2 y hy => ?_, fun id n hn y hy => ?_, fun g2 h2 => ?_, fun st sb h2 => ?_⟩
  · obtain ⟨g1, e1, _, _, e4⟩ := hm2 g2 h2
    rw [e4]; exact kg.ne g1 e1
  · obtain ⟨g1, e1, _, _, e4⟩ := hm2 g2 h2
    rw [e4] at hy
    exact kg.mn g1 e1 y hy
  · obtain ⟨g1, e1, x1, e2, e3⟩ := kg.nm id n hn y hy
    obtain ⟨g2, e4, _, _, e5⟩ := hm1 g1 e1
    exact ⟨g2, e4, x1, by rw [e5]; exact e2, e3⟩
  · obtain ⟨g1, e1, e2, e3, _⟩ := hm2 g2 h2
    rw [e2, e3]; exact kg.sm1 g1 e1
  · obtain ⟨g1, e1, e2, e3⟩ := kg.sm2 st sb h2
    obtain ⟨g2, e4, e5, e6, _⟩ := hm1 g1 e1
    exact ⟨g2, e4, by rw [e5]; exact e2, by rw [e6]; exact e3⟩
/-- The heap behind a turn: out of the row, in behind it, its link told. -/
theorem RepH.pass (k : RepH h p gh) (kg : RepG gh) (e : gh.gl = ga ++ g :: gc) {h1 h2 : Hp} {o1 : Ob} {r2 : Rw} {bs : Nat} (e1 : h1 = rmH h p (lst (ga.map GL.lk)) (hd (gc.map GL.lk))) (eo : h1 p = some o1) (hn : h1 nb = none)
    (e2 : h2 = addH h1 true p o1 ⟨hd ((ga ++ gc).map GL.lk), lst ((ga ++ gc).map GL.lk), gh.ad⟩ g.sb nb) (es : h2 g.sb = some (.st bs r2 (some g.lb))) : RepH (upd h2 g.sb (.st bs r2 (some nb))) p (passG gh ga gc g nb) := by
  have hg : g ∈ gh.gl := by rw [e]; simp
  have L := k.line g hg
  obtain ⟨rq, hq⟩ := k.q
  obtain ⟨rs, hs⟩ := L.ob
  have hsp := k.p_ne hg
  have T0 := k.turns
  rw [e, List.map_append, List.map_cons] at T0
  have T1 : Row h1 true p gh.ad ((ga ++ gc).map GL.lk) := by rw [e1, List.map_append]; exact T0.remove
  have f1 : Off (fun y => y = p) h h1 := by rw [e1]; exact Off.rm T0
  have T2 : Row h2 true p (gh.ad + 1) ((ga ++ gc).map GL.lk ++ [⟨nb, g.sb, gh.ad⟩]) := by rw [e2]; exact T1.add eo hn
  have f2 : Off (fun y => y = p) h1 h2 := by rw [e2]; exact Off.add T1 hn
  have P : ∀ b, (b = p ∨ b = g.sb) → Plain h b := fun b e => by
    rcases e with rfl | rfl
    · exact plain_of hq rfl
    · exact plain_of hs rfl
  have f02 := f1.trans f2
  have hs2 := f02.at_ hs rfl hsp
  have ebs : bs = bytesI g.its ∧ r2 = rs := by rw [es] at hs2; injection hs2 with hs2; injection hs2 with a b; exact ⟨a, b⟩
  have f : Off (fun y => y = p ∨ y = g.sb) h (upd h2 g.sb (.st bs r2 (some nb))) := (f02.mono fun b e => .inl e).trans ((Off.upd _ _ _).mono fun b e => .inr e)
  have hms : ∀ b, (b = p ∨ b = g.sb) → ∀ x0, h b = some (.ms x0) → x0.s = none := fun b e x0 h9 => by
    rcases e with rfl | rfl
    · rw [hq] at h9; cases h9
    · rw [hs] at h9; cases h9
  have P2 : ∀ b, b = g.sb → Plain h2 b := fun b e => by rw [e]; exact plain_of es rfl
  refine ⟨?_, ?_, fun g2 h9 => ?_, fun id n' hn' => ?_⟩
  · obtain ⟨o9, e9, e10⟩ := T2.ob
    obtain ⟨r1, h9⟩ : ∃ r1, h1 p = some (.q (bytesG gh.gl) r1) := by
      obtain ⟨r, h8⟩ := T0.rm_ob hq
      rw [← e1] at h8
      exact ⟨r, h8⟩
    obtain ⟨fr, h10⟩ := addH_rb (h := h1) (s := true) (rb := p) (o := o1) (r := ⟨hd ((ga ++ gc).map GL.lk), lst ((ga ++ gc).map GL.lk), gh.ad⟩) (th := g.sb) (nb := nb)
    rw [← e2] at h10
    rw [eo] at h9
    injection h9 with h9
    subst h9
    have h11 : h2 p = some (Ob.q (bytesG gh.gl) ⟨fr, some nb, gh.ad + 1⟩) := h10
    have : bytesG gh.gl = bytesG (passG gh ga gc g nb).gl := by
      show _ = bytesG (ga ++ gc ++ [{ g with lb := nb, pl := gh.ad }])
      rw [e, bytesG_app, bytesG_cons, bytesG_app, bytesG_app, bytesG_cons]
      show _ = _ + _ + (bytesI g.its + 0)
      omega
    rw [this] at h11
    exact ⟨_, (upd_ne _ _ (Ne.symm hsp)).trans h11⟩
  · have h9 : (passG gh ga gc g nb).gl.map GL.lk = (ga ++ gc).map GL.lk ++ [⟨nb, g.sb, gh.ad⟩] := by
      show (ga ++ gc ++ [{ g with lb := nb, pl := gh.ad }]).map GL.lk = _
      rw [List.map_append (l₁ := ga ++ gc)]
      rfl
    rw [h9]
    exact T2.off (Off.upd _ _ _) P2 (Ne.symm hsp)
  · have h9' : g2 ∈ ga ++ gc ++ [{ g with lb := nb, pl := gh.ad }] := h9
    rcases List.mem_append.1 h9' with h8 | h8
    · have hm : g2 ∈ gh.gl := by
        rw [e]
        rcases List.mem_append.1 h8 with h7 | h7
        · exact List.mem_append_left _ h7
        · exact List.mem_append_right _ (List.mem_cons_of_mem _ h7)
      have hne : g2.sb ≠ g.sb := fun e5 => by
        have hnd := kg.sbs
        rw [e, List.map_append, List.map_cons, List.nodup_append, List.nodup_cons] at hnd
        rcases List.mem_append.1 h8 with h7 | h7
        · exact hnd.2.2 _ (List.mem_map_of_mem h7) _ List.mem_cons_self e5
        · exact hnd.2.1.1 (by rw [← e5]; exact List.mem_map_of_mem h7)
      exact k.line_off hm f P (fun e5 => e5.elim (k.p_ne hm) hne) hms
    · rw [List.mem_singleton.1 h8]
      have R2 : Row h2 false g.sb g.ad (g.ms.map GM.lk) := L.row.off f02 (fun b e => P b (.inl e)) hsp
      refine ⟨⟨r2, ?_⟩, R2.updO es rfl, fun y hy => ?_⟩
      · show upd _ _ _ _ = _
        rw [ebs.1]
        exact upd_same _ _ _
      · exact f.at_ (L.ms y hy) rfl fun e5 => by
          have := hms _ e5 _ (L.ms y hy)
          cases this
  · refine k.num_off hn' f P fun e5 => ?_
    obtain ⟨⟨r, h8⟩, _⟩ := k.num _ _ hn'
    rcases e5 with e5 | e5
    · rw [e5, hq] at h8; cases h8
    · rw [e5, hs] at h8; cases h8
/-- A new line, yet without a message. -/
theorem RepH.line_new (k : RepH h p gh) (hsb : h sb = none) {h1 h2 h3 : Hp} {o1 : Ob} (e1 : h1 = upd h sb (.st 0 ⟨none, none, 0⟩ none)) (eo : h1 p = some o1) (hn : h1 lb = none) (e2 : h2 = addH h1 true p o1 ⟨hd (gh.gl.map GL.lk), lst (gh.gl.map GL.lk), gh.ad⟩ sb lb) (e3 : h3 = upd h2 sb (.st 0 ⟨none, none, 0⟩ (some lb))) (st : Nat) (sm : Nat → Option Nat) :
    RepH h3 p { gh with gl := gh.gl ++ [⟨st, sb, lb, gh.ad, 0, []⟩], ad := gh.ad + 1, sm := sm } ∧ h2 sb = some (.st 0 ⟨none, none, 0⟩ none) := by
  obtain ⟨rq, hq⟩ := k.q
  have hsp : sb ≠ p := fun e => by rw [e, hq] at hsb; cases hsb
  have hs1 : h1 sb = some (.st 0 ⟨none, none, 0⟩ none) := by rw [e1]; exact upd_same _ _ _
  have P0 : ∀ b, b = sb → Plain h b := fun b e s own th pl bf af e9 => by rw [e, hsb] at e9; cases e9
  have f1 : Off (fun y => y = sb) h h1 := by rw [e1]; exact Off.upd _ _ _
  have hq1 : h1 p = some (.q (bytesG gh.gl) rq) := f1.at_ hq rfl (Ne.symm hsp)
  have T1 : Row h1 true p gh.ad (gh.gl.map GL.lk) := k.turns.off f1 P0 (Ne.symm hsp)
  have T2 : Row h2 true p (gh.ad + 1) (gh.gl.map GL.lk ++ [⟨lb, sb, gh.ad⟩]) := by rw [e2]; exact T1.add eo hn
  have f2 : Off (fun y => y = p) h1 h2 := by rw [e2]; exact Off.add T1 hn
  have hs2 := f2.at_ hs1 rfl hsp
  have f3 : Off (fun y => y = sb) h2 h3 := by rw [e3]; exact Off.upd _ _ _
  have f : Off (fun y => y = p ∨ y = sb) h h3 := ((f1.mono fun b e => .inr e).trans (f2.mono fun b e => .inl e)).trans (f3.mono fun b e => .inr e)
  have P : ∀ b, (b = p ∨ b = sb) → Plain h b := fun b e => by
    rcases e with rfl | rfl
    · exact plain_of hq rfl
    · exact P0 _ rfl
  have hms : ∀ b, (b = p ∨ b = sb) → ∀ x0, h b = some (.ms x0) → x0.s = none := fun b e x0 h9 => by
    rcases e with rfl | rfl
    · rw [hq] at h9; cases h9
    · rw [hsb] at h9; cases h9
  have P2 : ∀ b, b = sb → Plain h2 b := fun b e => by rw [e]; exact plain_of hs2 rfl
  refine ⟨⟨?_, ?_, fun g2 h9 => ?_, fun id n' hn' => ?_⟩, hs2⟩
  · rw [eo] at hq1
    injection hq1 with hq1
    subst hq1
    obtain ⟨fr, h10⟩ := addH_rb (h := h1) (s := true) (rb := p) (o := .q (bytesG gh.gl) rq) (r := ⟨hd (gh.gl.map GL.lk), lst (gh.gl.map GL.lk), gh.ad⟩) (th := sb) (nb := lb)
    rw [← e2] at h10
    have h11 : h2 p = some (Ob.q (bytesG gh.gl) ⟨fr, some lb, gh.ad + 1⟩) := h10
    have : bytesG gh.gl = bytesG (gh.gl ++ [(⟨st, sb, lb, gh.ad, 0, []⟩ : GL)]) := by
      rw [bytesG_app]
      rfl
    rw [this] at h11
    exact ⟨_, f3.at_ h11 rfl (Ne.symm hsp)⟩
  · show Row h3 true p (gh.ad + 1) ((gh.gl ++ [(⟨st, sb, lb, gh.ad, 0, []⟩ : GL)]).map GL.lk)
    rw [List.map_append]
    exact T2.off f3 P2 (Ne.symm hsp)
  · have h9' : g2 ∈ gh.gl ++ [(⟨st, sb, lb, gh.ad, 0, []⟩ : GL)] := h9
    rcases List.mem_append.1 h9' with h8 | h8
    · refine k.line_off h8 f P (fun e5 => e5.elim (k.p_ne h8) fun e6 => ?_) hms
      obtain ⟨r, h7⟩ := (k.line g2 h8).ob
      rw [e6, hsb] at h7
      cases h7
    · rw [List.mem_singleton.1 h8]
      have e9 : h3 sb = some (.st 0 ⟨none, none, 0⟩ (some lb)) := by rw [e3]; exact upd_same _ _ _
      exact ⟨⟨_, e9⟩, ⟨⟨_, e9, rfl⟩, trivial, List.nodup_nil, List.Pairwise.nil, fun x hx => (by cases hx)⟩, fun x hx => (by cases hx)⟩
  · refine k.num_off hn' f P fun e5 => ?_
    obtain ⟨⟨r, h8⟩, _⟩ := k.num _ _ hn'
    rcases e5 with e5 | e5
    · rw [e5, hq] at h8; cases h8
    · rw [e5, hsb] at h8; cases h8
def putN (N : Int → Option NR) (id : Int) (n : NR) : Int → Option NR := fun y => if y = id then some n else N y
/-- A new number's row, yet empty. -/
theorem RepH.num_new {rb : Nat} (k : RepH h p gh) (hrb : h rb = none) (id : Int) : RepH (upd h rb (.rw ⟨none, none, 0⟩)) p { gh with N := putN gh.N id ⟨rb, 0, []⟩ } := by
  have f : Off (fun y => y = rb) h (upd h rb (.rw ⟨none, none, 0⟩)) := Off.upd _ _ _
  have P : ∀ b, b = rb → Plain h b := fun b e s own th pl bf af e9 => by rw [e, hrb] at e9; cases e9
  obtain ⟨rq, hq⟩ := k.q
  have hne : ∀ {b o}, h b = some o → b ≠ rb := fun h1 e => by rw [e, hrb] at h1; cases h1
  refine ⟨⟨rq, f.at_ hq rfl (hne hq)⟩, k.turns.off f P (hne hq), fun g2 h2 => ?_, fun id' n' hn' => ?_⟩
  · obtain ⟨r, h7⟩ := (k.line g2 h2).ob
    exact k.line_off h2 f P (hne h7) (fun b e x0 h9 => by rw [show b = rb from e, hrb] at h9; cases h9)
  · have hn2 : (if id' = id then some (⟨rb, 0, []⟩ : NR) else gh.N id') = some n' := hn'
    split at hn2
    · injection hn2 with hn2
      subst hn2
      have e9 : upd h rb (.rw ⟨none, none, 0⟩) rb = some (.rw ⟨none, none, 0⟩) := upd_same _ _ _
      exact ⟨⟨_, e9⟩, ⟨⟨_, e9, rfl⟩, trivial, List.nodup_nil, List.Pairwise.nil, fun x hx => (by cases hx)⟩⟩
    · obtain ⟨⟨r, h8⟩, _⟩ := k.num _ _ hn2
      exact k.num_off hn2 f P (hne h8)
/-- One more message, in both rows. -/
theorem RepH.msg_add (k : RepH h p gh) (kg1 : (gh.gl.map GL.sb).Nodup) (kg2 : ∀ id' n', gh.N id' = some n' → n'.rb = n.rb → id' = x.it.id) (e : gh.gl = ga ++ g :: gc) (hN : gh.N x.it.id = some n) {h1 h2 h3 h4 : Hp} {os on : Ob} {x0 : Me} (hm : h x.mb = some (.ms x0)) (hm0 : x0.s = none)
    (eo : h g.sb = some os) (hl : h x.lb = none) (e1 : h1 = addH h false g.sb os ⟨hd (g.ms.map GM.lk), lst (g.ms.map GM.lk), g.ad⟩ x.mb x.lb) (en : h1 n.rb = some on) (hn : h1 x.nb = none) (e2 : h2 = addH h1 false n.rb on ⟨hd n.l, lst n.l, n.ad⟩ x.mb x.nb) (e3 : h3 = upd h2 x.mb (.ms (x.me g.sb)))
    (e4 : h4 = cntH h3 p g.sb (bytesI g.its + x.it.m.body.length) (bytesG gh.gl + x.it.m.body.length)) (hpl : x.pl = g.ad) :
    RepH h4 p { gh with gl := ga ++ { g with ms := g.ms ++ [x], ad := g.ad + 1 } :: gc, N := putN gh.N x.it.id ⟨n.rb, n.ad + 1, n.l ++ [⟨x.nb, x.mb, n.ad⟩]⟩ } ∧ (∃ r, h3 p = some (.q (bytesG gh.gl) r)) ∧ (∃ r t, h3 g.sb = some (.st (bytesI g.its) r t)) ∧ h2 x.mb = some (.ms x0) := by
  have hg : g ∈ gh.gl := by rw [e]; simp
  have L := k.line g hg
  obtain ⟨rq, hq⟩ := k.q
  obtain ⟨rs, hs⟩ := L.ob
  obtain ⟨⟨rn, hr⟩, R⟩ := k.num _ _ hN
  have hsp := k.p_ne hg
  have hnp : n.rb ≠ p := fun e => by rw [e, hq] at hr; cases hr
  have hns : n.rb ≠ g.sb := fun e => by rw [e, hs] at hr; cases hr
  have hmp : x.mb ≠ p := fun e => by rw [e, hq] at hm; cases hm
  have hmsb : x.mb ≠ g.sb := fun e => by rw [e, hs] at hm; cases hm
  have hmn : x.mb ≠ n.rb := fun e => by rw [e, hr] at hm; cases hm
  have G1 : Row h1 false g.sb (g.ad + 1) (g.ms.map GM.lk ++ [⟨x.lb, x.mb, g.ad⟩]) := by rw [e1]; exact L.row.add eo hl
  have f1 : Off (fun y => y = g.sb) h h1 := by rw [e1]; exact Off.add L.row hl
  have Pg : ∀ b, b = g.sb → Plain h b := fun b e => by rw [e]; exact plain_of hs rfl
  have R1 : Row h1 false n.rb n.ad n.l := R.off f1 Pg hns
  have hr1 := f1.at_ hr rfl hns
  have R2 : Row h2 false n.rb (n.ad + 1) (n.l ++ [⟨x.nb, x.mb, n.ad⟩]) := by rw [e2]; exact R1.add en hn
  have f2 : Off (fun y => y = n.rb) h1 h2 := by rw [e2]; exact Off.add R1 hn
  have f3 : Off (fun y => y = x.mb) h2 h3 := by rw [e3]; exact Off.upd _ _ _
  have f4 : Off (fun y => y = p ∨ y = g.sb) h3 h4 := by rw [e4]; exact cnt_off _ _
  have f13 : Off (fun y => y = g.sb ∨ y = n.rb ∨ y = x.mb) h h3 := ((f1.mono fun b e => .inl e).trans (f2.mono fun b e => .inr (.inl e))).trans (f3.mono fun b e => .inr (.inr e))
  have f : Off (fun y => y = p ∨ y = g.sb ∨ y = n.rb ∨ y = x.mb) h h4 := (f13.mono fun b e => .inr e).trans (f4.mono fun b e => e.imp id .inl)
  have P : ∀ b, (b = p ∨ b = g.sb ∨ b = n.rb ∨ b = x.mb) → Plain h b := fun b e => by
    rcases e with rfl | rfl | rfl | rfl
    · exact plain_of hq rfl
    · exact plain_of hs rfl
    · exact plain_of hr rfl
    · exact plain_of hm rfl
  have hms : ∀ b, (b = p ∨ b = g.sb ∨ b = n.rb ∨ b = x.mb) → ∀ x1, h b = some (.ms x1) → x1.s = none := fun b e x1 h9 => by
    rcases e with rfl | rfl | rfl | rfl
    · rw [hq] at h9; cases h9
    · rw [hs] at h9; cases h9
    · rw [hr] at h9; cases h9
    · rw [hm] at h9; injection h9 with h9; injection h9 with h9; rw [← h9]; exact hm0
  -- the stream's own cells
  obtain ⟨r1, hs1⟩ : ∃ r1, h1 g.sb = some (.st (bytesI g.its) r1 (some g.lb)) := by
    rw [hs] at eo
    injection eo with eo
    subst eo
    obtain ⟨fr, h10⟩ := addH_rb (h := h) (s := false) (rb := g.sb) (o := .st (bytesI g.its) rs (some g.lb)) (r := ⟨hd (g.ms.map GM.lk), lst (g.ms.map GM.lk), g.ad⟩) (th := x.mb) (nb := x.lb)
    rw [← e1] at h10
    exact ⟨_, h10⟩
  have hm1 := f1.at_ hm rfl hmsb
  have hm2 := f2.at_ hm1 rfl hmn
  have hs2 := f2.at_ hs1 rfl (Ne.symm hns)
  have hs3 := f3.at_ hs2 rfl (Ne.symm hmsb)
  have hq3 := f13.at_ hq rfl (fun e => by
    rcases e with e | e | e
    · exact hsp e.symm
    · exact hnp e.symm
    · exact hmp e.symm)
  have hx3 : h3 x.mb = some (.ms (x.me g.sb)) := by rw [e3]; exact upd_same _ _ _
  have P1 : ∀ b, b = n.rb → Plain h1 b := fun b e => by rw [e]; exact plain_of hr1 rfl
  obtain ⟨rn2, hr2⟩ : ∃ rn2, h2 n.rb = some (.rw rn2) := by
    rw [hr1] at en
    injection en with en
    subst en
    obtain ⟨fr, h10⟩ := addH_rb (h := h1) (s := false) (rb := n.rb) (o := .rw rn) (r := ⟨hd n.l, lst n.l, n.ad⟩) (th := x.mb) (nb := x.nb)
    rw [← e2] at h10
    exact ⟨_, h10⟩
  have P2 : ∀ b, b = x.mb → Plain h2 b := fun b e => by rw [e]; exact plain_of hm2 rfl
  have P3 : ∀ b, (b = p ∨ b = g.sb) → Plain h3 b := fun b e => by
    rcases e with rfl | rfl
    · exact plain_of hq3 rfl
    · exact plain_of hs3 rfl
  have R3 := R2.off f3 P2 (Ne.symm hmn)
  have hr3 := f3.at_ hr2 rfl (Ne.symm hmn)
  have G2 := G1.off f2 P1 (Ne.symm hns)
  have G3 := G2.off f3 P2 (Ne.symm hmsb)
  have T3 : Row h3 true p gh.ad (gh.gl.map GL.lk) := k.turns.off f13 (fun b e => P b (.inr e)) (fun e => by
    rcases e with e | e | e
    · exact hsp e.symm
    · exact hnp e.symm
    · exact hmp e.symm)
  have hkp : ∀ s own th pl bf af b, h3 b = some (.lk s own th pl bf af) → h4 b = h3 b := fun s own th pl bf af b h9 => by
    rw [e4]
    unfold cntH
    rw [if_neg (fun e5 => P3 b (.inl e5) _ _ _ _ _ _ h9), if_neg (fun e5 => P3 b (.inr e5) _ _ _ _ _ _ h9)]
  have hq4 : h4 p = some (.q (bytesG gh.gl + x.it.m.body.length) rq) := by rw [e4]; unfold cntH; rw [if_pos rfl, hq3]; rfl
  have hs4 : h4 g.sb = some (.st (bytesI g.its + x.it.m.body.length) r1 (some g.lb)) := by rw [e4]; unfold cntH; rw [if_neg hsp, if_pos rfl, hs3]; rfl
  have hgl : ({ gh with gl := ga ++ { g with ms := g.ms ++ [x], ad := g.ad + 1 } :: gc, N := putN gh.N x.it.id ⟨n.rb, n.ad + 1, n.l ++ [⟨x.nb, x.mb, n.ad⟩]⟩ } : Gh).gl = ga ++ { g with ms := g.ms ++ [x], ad := g.ad + 1 } :: gc := rfl
  refine ⟨⟨⟨rq, ?_⟩, ?_, fun g2 h9 => ?_, fun id n' hn' => ?_⟩, ⟨rq, hq3⟩, ⟨r1, _, hs3⟩, hm2⟩
  · rw [hq4, hgl, e, bytesG_app, bytesG_cons, bytesG_app, bytesG_cons]
    have : bytesI (GL.its { g with ms := g.ms ++ [x], ad := g.ad + 1 }) = bytesI g.its + x.it.m.body.length := by
      show bytesI ((g.ms ++ [x]).map GM.it) = _
      rw [List.map_append, bytesI_ap]
      show bytesI (g.ms.map GM.it) + (x.it.m.body.length + 0) = _
      rfl
    rw [this]
    congr 2
    omega
  · rw [hgl]
    have h9 : (ga ++ { g with ms := g.ms ++ [x], ad := g.ad + 1 } :: gc).map GL.lk = gh.gl.map GL.lk := by
      rw [e, List.map_append, List.map_append, List.map_cons, List.map_cons]
      rfl
    rw [h9]
    exact T3.mono2 hq4 (fun o e9 => by rw [hq3] at e9; injection e9 with e9; rw [← e9]; rfl) fun y hy => by
      obtain ⟨bf, af, e9⟩ := T3.seg.at_ y hy
      exact hkp _ _ _ _ _ _ _ e9
  · rw [hgl] at h9
    have hcase : (g2 ∈ ga ∨ g2 ∈ gc) ∨ g2 = { g with ms := g.ms ++ [x], ad := g.ad + 1 } := by
      rcases List.mem_append.1 h9 with h8 | h8
      · exact .inl (.inl h8)
      · rcases List.mem_cons.1 h8 with h8 | h8
        · exact .inr h8
        · exact .inl (.inr h8)
    rcases hcase with h8 | rfl
    · have hm' : g2 ∈ gh.gl := by
        rw [e]
        rcases h8 with h7 | h7
        · exact List.mem_append_left _ h7
        · exact List.mem_append_right _ (List.mem_cons_of_mem _ h7)
      have hne : g2.sb ≠ g.sb := fun e5 => by
        have hnd := kg1
        rw [e, List.map_append, List.map_cons, List.nodup_append, List.nodup_cons] at hnd
        rcases h8 with h7 | h7
        · exact hnd.2.2 _ (List.mem_map_of_mem h7) _ List.mem_cons_self e5
        · exact hnd.2.1.1 (by rw [← e5]; exact List.mem_map_of_mem h7)
      refine k.line_off hm' f P (fun e5 => ?_) hms
      obtain ⟨r, h7⟩ := (k.line g2 hm').ob
      rcases e5 with e5 | e5 | e5 | e5
      · exact k.p_ne hm' e5
      · exact hne e5
      · rw [e5, hr] at h7; cases h7
      · rw [e5, hm] at h7; cases h7
    · have hits : bytesI (GL.its { g with ms := g.ms ++ [x], ad := g.ad + 1 }) = bytesI g.its + x.it.m.body.length := by
        show bytesI ((g.ms ++ [x]).map GM.it) = _
        rw [List.map_append, bytesI_ap]
        show bytesI (g.ms.map GM.it) + (x.it.m.body.length + 0) = _
        rfl
      refine ⟨⟨r1, ?_⟩, ?_, fun y hy => ?_⟩
      · rw [hits]; exact hs4
      · show Row h4 false g.sb (g.ad + 1) ((g.ms ++ [x]).map GM.lk)
        have h9 : (g.ms ++ [x]).map GM.lk = g.ms.map GM.lk ++ [⟨x.lb, x.mb, g.ad⟩] := by
          rw [List.map_append, ← hpl]
          rfl
        rw [h9]
        exact G3.mono2 hs4 (fun o e9 => by rw [hs3] at e9; injection e9 with e9; rw [← e9]; rfl) fun y hy => by
          obtain ⟨bf, af, e9⟩ := G3.seg.at_ y hy
          exact hkp _ _ _ _ _ _ _ e9
      · rcases List.mem_append.1 hy with h7 | h7
        · exact f.at_ (L.ms y h7) rfl fun e5 => by
            have := hms _ e5 _ (L.ms y h7)
            cases this
        · rw [List.mem_singleton.1 h7]
          exact f4.at_ hx3 rfl fun e5 => e5.elim hmp hmsb
  · have hn2 : (if id = x.it.id then some (⟨n.rb, n.ad + 1, n.l ++ [⟨x.nb, x.mb, n.ad⟩]⟩ : NR) else gh.N id) = some n' := hn'
    split at hn2
    · injection hn2 with hn2
      subst hn2
      exact ⟨⟨_, f4.at_ hr3 rfl (fun e5 => e5.elim hnp hns)⟩, R3.off f4 P3 (fun e5 => e5.elim hnp hns)⟩
    · rename_i hid
      obtain ⟨⟨r, h8⟩, _⟩ := k.num _ _ hn2
      refine k.num_off hn2 f P fun e5 => ?_
      rcases e5 with e5 | e5 | e5 | e5
      · rw [e5, hq] at h8; cases h8
      · rw [e5, hs] at h8; cases h8
      · exact hid (kg2 _ _ hn2 e5)
      · rw [e5, hm] at h8; cases h8
end
end Go.Proofs.Ytkjlmibjpfmfnaa.Sc

set_option linter.unusedVariables false
set_option linter.unusedSimpArgs false
namespace Go.Proofs.Ytkjlmibjpfmfnaa.Mx
open Go.ChangeShapes Go.WideShapes Go.ChangeAt Go.RowKit Go.Maps Go.Proofs.Ytkjlmibjpfmfnaa.Words
open Go.ChangeMaps (notKey putKey delKey setBlock)
open Go.MapKept (stamped_iff)
open Go.WideElems (Fit rd rg pl rd_key rd_val rg_of)
def anyE (v : Value) : Option (DataW Value × List MemPlace) := some (.held v, [])
def tok : DataW Value → Option Value
  | .held v => some v
  | _ => none
def look (D : DataW Value) (kl : Lit) : Option Value := tok (D.atKey kl .nil)
/-- The keys of a type, named by the things of another one. -/
structure KX (P : Program) (k : TypeId) (κ : Type) where
  enc : κ → Value
  lit : κ → Lit
  dom : κ → Prop
  key : ∀ x, dom x → keyOf P k (enc x) = some (lit x)
  inj : ∀ x y, dom x → dom y → lit x = lit y → x = y
  sur : ∀ v l, keyOf P k v = some l → ∃ x, dom x ∧ v = enc x ∧ l = lit x
  law : Keyed P k
  few : ∀ l : List κ, l.Nodup → (∀ x ∈ l, dom x) → l.length ≤ 1125899906842624
section
variable {P : Program} {k : TypeId} {κ : Type} {X : KX P k κ} {w w' : World} {b r n : Nat} {D : DataW Value} {f : κ → Option Value}
theorem keys_list (X : KX P k κ) : ∀ (es : List MapEntry), (∀ e ∈ es, ∃ l, keyOf P k e.key = some l) → ∃ xs : List κ, xs.map X.enc = es.map (·.key) ∧ ∀ x ∈ xs, X.dom x
  | [], _ => ⟨[], rfl, by simp⟩
  | e :: es, h => by
    obtain ⟨xs, h1, h2⟩ := keys_list X es (fun e' he => h e' (List.mem_cons_of_mem _ he))
    obtain ⟨l, hl⟩ := h e List.mem_cons_self
    obtain ⟨x, hx, e1, _⟩ := X.sur _ _ hl
    exact ⟨x :: xs, by simp [h1, e1], fun y hy => by
      rcases List.mem_cons.1 hy with rfl | hy
      · exact hx
      · exact h2 y hy⟩
theorem fit_few (X : KX P k κ) {R : Value → Option (DataW Value × List MemPlace)} {es : Array MapEntry} {clock : Nat} (F : Fit P k R es clock) : es.size ≤ 1125899906842624 := by
  obtain ⟨xs, h1, h2⟩ := keys_list X es.toList F.keys
  have hn : es.toList.Pairwise (fun x y => x.key ≠ y.key) := ((stamped_iff es clock).1 F.stamped).2.2
  have hnd : xs.Nodup := by
    have h3 : (es.toList.map (·.key)).Pairwise (· ≠ ·) := List.pairwise_map.2 hn
    rw [← h1] at h3
    have h4 := List.pairwise_map.1 h3
    exact h4.imp (fun {a b} hab e => hab (by rw [e]))
  have h5 := X.few xs hnd h2
  have h6 : xs.length = es.toList.length := by have := congrArg List.length h1; simpa using this
  rw [h6] at h5
  simpa using h5
theorem own_few (X : KX P k κ) (h : w.ownsMap P k anyE b n D) : w.ownsMap P k anyE b 1125899906842624 D := by
  obtain ⟨es, clock, hb, F, hs, hD⟩ := h
  exact ⟨es, clock, hb, F, fit_few X F, hD⟩
structure MapX (X : KX P k κ) (w : World) (b : Nat) (f : κ → Option Value) : Prop where
  ex : ∃ D, w.ownsMap P k anyE b 1125899906842624 D ∧ ∀ x, X.dom x → f x = look D (X.lit x)
  out : ∀ x, ¬ X.dom x → f x = none
def putF [DecidableEq κ] (f : κ → Option Value) (x : κ) (v : Value) : κ → Option Value := fun y => if y = x then some v else f y
def delF [DecidableEq κ] (f : κ → Option Value) (x : κ) : κ → Option Value := fun y => if y = x then none else f y
theorem MapX.new (X : KX P k κ) (w : World) : MapX X (w.alloc (.map #[] 0)) w.heap.size (fun _ => none) :=
  ⟨⟨.map [], (World.ownsMap_made w P k anyE).mono (Nat.zero_le _), fun x _ => rfl⟩, fun _ _ => rfl⟩
theorem MapX.lt (h : MapX X w b f) : b < w.heap.size := by obtain ⟨D, h1, _⟩ := h.ex; exact h1.lt
theorem MapX.same (h : MapX X w b f) (e : w'.heap[b]? = w.heap[b]?) : MapX X w' b f := by
  obtain ⟨D, ⟨es, clock, hb, F, hs, hD⟩, h2⟩ := h.ex
  exact ⟨⟨D, ⟨es, clock, e.trans hb, F, hs, hD⟩, h2⟩, h.out⟩
theorem MapX.fr {S : Nat → Prop} (h : MapX X w b f) (hf : Fr S w w') (hb : ¬ S b) : MapX X w' b f := h.same (hf.block b h.lt hb)
theorem MapX.as_ {g : κ → Option Value} (h : MapX X w b f) (e : ∀ x, f x = g x) : MapX X w b g := by rw [← funext e]; exact h
theorem MapX.drewN (h : MapX X w b f) (n : Nat) : MapX X (w.drewN n) b f := h.same rfl
theorem MapX.drew (h : MapX X w b f) : MapX X w.drew b f := h.same rfl
theorem MapX.look_run (h : MapX X w b f) {t e : TypeId} (ht : P.underlying t = some (.map k e)) {z : Value} (hz : (zeroValue e).run P w = .ok z w) (c : Bool) {x : κ} (hx : X.dom x) :
    (Instr.lookup t (.map (some b)) (X.enc x) c).run P w = .ok (if c then .tuple #[(f x).getD z, .bool (f x).isSome] else (f x).getD z) w := by
  obtain ⟨D, ⟨es, clock, hb, F, _, rfl⟩, h2⟩ := h.ex
  have h3 := h2 x hx
  rcases Maps.fit_look c X.law ht hz hb F (X.key x hx) with ⟨hrun, _, hat⟩ | ⟨e0, y, _, _, hrun, hRv, hat, _⟩
  · unfold look at h3
    rw [hat .nil] at h3
    rw [h3, hrun]
    rfl
  · unfold look at h3
    rw [hat .nil] at h3
    have e1 : y.1 = .held e0.val := by unfold anyE at hRv; injection hRv with hRv; rw [← hRv]
    rw [e1] at h3
    have h4 : f x = some e0.val := h3
    rw [h4, hrun]
    rfl
theorem MapX.look (h : MapX X w b f) {t e : TypeId} (ht : P.underlying t = some (.map k e)) {z : Value} (hz : (zeroValue e).run P w = .ok z w) {x : κ} (hx : X.dom x) :
    (Instr.lookup t (.map (some b)) (X.enc x) false).run P w = .ok ((f x).getD z) w := h.look_run ht hz false hx
theorem MapX.put [DecidableEq κ] (h : MapX X w b f) {t e : TypeId} (ht : P.underlying t = some (.map k e)) {x : κ} (hx : X.dom x) (v : Value) :
    ∃ w1, (Instr.mapUpdate t (.map (some b)) (X.enc x) v).run P w = .ok () w1 ∧ MapX X w1 b (putF f x v) ∧ w.mapTurned w1 b := by
  obtain ⟨D, hown, h2⟩ := h.ex
  obtain ⟨w1, hrun, hown1, hturn⟩ := hown.store X.law ht (by unfold maxLen; omega) (X.key x hx) (show anyE v = some (.held v, []) from rfl)
  refine ⟨w1, hrun, ⟨⟨_, own_few X hown1, fun y hy => ?_⟩, fun y hy => ?_⟩, hturn⟩
  · unfold putF Mx.look
    by_cases e : y = x
    · subst e
      rw [if_pos rfl, atKey_put_same hown.isMap (X.law.key (X.key y hy))]
      rfl
    · rw [if_neg e, atKey_put_other (fun e' => e (X.inj _ _ hy hx e')), h2 y hy]
      rfl
  · unfold putF
    rw [if_neg (fun e => hy (by rw [e]; exact hx))]
    exact h.out y hy
theorem MapX.del [DecidableEq κ] (h : MapX X w b f) {t e : TypeId} (ht : P.underlying t = some (.map k e)) {x : κ} (hx : X.dom x) (ty : TypeId) :
    ∃ w1, (Builtin.delete_ #[t, k] ty #[.map (some b), X.enc x]).run P w = .ok (.tuple #[]) w1 ∧ MapX X w1 b (delF f x) ∧ w.mapTurned w1 b := by
  obtain ⟨D, hown, h2⟩ := h.ex
  obtain ⟨w1, hrun, hown1, hturn⟩ := hown.drop X.law ht (X.key x hx) ty
  refine ⟨w1, hrun, ⟨⟨_, hown1, fun y hy => ?_⟩, fun y hy => ?_⟩, hturn⟩
  · unfold delF Mx.look
    by_cases e : y = x
    · subst e
      rw [if_pos rfl, atKey_del_same]
      rfl
    · rw [if_neg e, atKey_del_other (fun e' => e (X.inj _ _ hy hx e')), h2 y hy]
      rfl
  · unfold delF
    split
    · rfl
    · exact h.out y hy
theorem MapX.len (h : MapX X w b f) {t e : TypeId} (ht : P.underlying t = some (.map k e)) (ty : TypeId) :
    ∃ n : Nat, (Builtin.len_ #[t] ty #[.map (some b)]).run P w = .ok (.int .i64 (n : Int)) w ∧ n ≤ 1125899906842624 ∧ (n = 0 ↔ ∀ x, f x = none) := by
  obtain ⟨D, hown, h2⟩ := h.ex
  refine ⟨Maps.size D, hown.len ht ty, hown.size_le, ?_⟩
  obtain ⟨es, clock, hb, F, hs, rfl⟩ := hown
  have hsz : Maps.size (DataW.map ((es.toList.map (rg P k anyE)).foldr DataW.insert [])) = es.size := by simp [Maps.size, length_sorted]
  rw [hsz]
  constructor
  · intro h0 x
    rcases Classical.em (X.dom x) with hx | hx
    · rw [h2 x hx]
      have : es = #[] := Array.eq_empty_of_size_eq_zero h0
      subst this
      rfl
    · exact h.out x hx
  · intro hall
    rcases Nat.eq_zero_or_pos es.size with h0 | h0
    · exact h0
    · exfalso
      have hmem : es[0] ∈ es.toList := by simp
      obtain ⟨l, hl⟩ := F.keys _ hmem
      obtain ⟨x, hx, e1, e2⟩ := X.sur _ _ hl
      have h3 := h2 x hx
      rw [hall x] at h3
      obtain ⟨y, hy⟩ := F.reads _ hmem
      obtain ⟨z, hz, hzd⟩ := rd_val hy
      have hkey := rd_key hy
      rw [hl] at hkey
      injection hkey with hkey
      have hat := (atKey_sorted (es.toList.map (rg P k anyE)) (Maps.fit_rising X.law F) l (X.law.key hl)).2 (rg P k anyE es[0]) (List.mem_map.2 ⟨_, hmem, rfl⟩) (by rw [rg_of hy]; exact hkey.symm) .nil
      unfold Mx.look at h3
      rw [← e2, hat, rg_of hy] at h3
      unfold anyE at hz
      injection hz with hz
      have e4 : y.2 = .held es[0].val := by rw [hzd, ← hz]
      rw [e4] at h3
      cases h3
structure RangeX (X : KX P k κ) (w : World) (b r : Nat) (f : κ → Option Value) (left : κ → Bool) (cnt : Nat) : Prop where
  ex : ∃ D lf, w.ranges P k anyE b r 1125899906842624 D lf cnt ∧ (∀ x, X.dom x → f x = look D (X.lit x)) ∧ ∀ x, X.dom x → left x = lf (X.lit x)
  out : ∀ x, ¬ X.dom x → f x = none ∧ left x = false
variable {left : κ → Bool} {cnt : Nat}
theorem RangeX.map (h : RangeX X w b r f left cnt) : MapX X w b f := by
  obtain ⟨D, lf, h1, h2, h3⟩ := h.ex
  exact ⟨⟨D, h1.owns, h2⟩, fun x hx => (h.out x hx).1⟩
theorem RangeX.ne (h : RangeX X w b r f left cnt) : r ≠ b := by obtain ⟨D, lf, h1, _⟩ := h.ex; exact h1.ne
theorem RangeX.lt (h : RangeX X w b r f left cnt) : r < w.heap.size := by obtain ⟨D, lf, h1, _⟩ := h.ex; exact h1.lt
theorem RangeX.fr {S : Nat → Prop} (h : RangeX X w b r f left cnt) (hf : Fr S w w') (hb : ¬ S b) (hr : ¬ S r) : RangeX X w' b r f left cnt := by
  have l1 := h.map.lt
  have l2 := h.lt
  obtain ⟨D, lf, ⟨es, clock, since, seen, c0, h1, F, hs, hD, h4, rest⟩, h2, h3⟩ := h.ex
  exact ⟨⟨D, lf, ⟨es, clock, since, seen, c0, (hf.block b l1 hb).trans h1, F, hs, hD, (hf.block r l2 hr).trans h4, rest⟩, h2, h3⟩, h.out⟩
theorem RangeX.as_ {left' : κ → Bool} (h : RangeX X w b r f left cnt) (e : ∀ x, left x = left' x) : RangeX X w b r f left' cnt := by rw [← funext e]; exact h
theorem MapX.range (h : MapX X w b f) {t e : TypeId} (ht : P.underlying t = some (.map k e)) :
    ∃ w1 cnt, (Instr.range t (.map (some b))).run P w = .ok (.pointer (some ⟨w.heap.size, 0, none⟩)) w1 ∧ RangeX X w1 b w.heap.size f (fun x => (f x).isSome) cnt ∧ w.grownBy w1 none ∧ w1.heap.size = w.heap.size + 1 := by
  obtain ⟨D, hown, h2⟩ := h.ex
  obtain ⟨w1, hrun, hrg, hg, hs⟩ := hown.range X.law ht
  refine ⟨w1, _, hrun, ⟨⟨D, _, hrg, h2, fun x hx => ?_⟩, fun x hx => ⟨h.out x hx, by rw [h.out x hx]; rfl⟩⟩, hg, hs⟩
  rw [h2 x hx]
  obtain ⟨es, clock, hb, F, _, rfl⟩ := hown
  obtain ⟨hrun2, hh⟩ := (show (∃ z : World, z = w) ∧ True from ⟨⟨w, rfl⟩, trivial⟩)
  rcases Classical.em (∃ e ∈ es.toList, keyOf P k e.key = some (X.lit x)) with ⟨e0, hmem, hl⟩ | hno
  · obtain ⟨y, hy⟩ := F.reads _ hmem
    obtain ⟨z, hz, hzd⟩ := rd_val hy
    have hkey := rd_key hy
    rw [hl] at hkey
    injection hkey with hkey
    have hat := fun zd => (atKey_sorted (es.toList.map (rg P k anyE)) (Maps.fit_rising X.law F) (X.lit x) (X.law.key hl)).2 (rg P k anyE e0) (List.mem_map.2 ⟨_, hmem, rfl⟩) (by rw [rg_of hy]; exact hkey.symm) zd
    have e4 : y.2 = .held e0.val := by
      unfold anyE at hz
      injection hz with hz
      rw [hzd, ← hz]
    rw [rg_of hy, e4] at hat
    unfold Mx.look
    rw [hat .nil, Maps.has_true_of_atKey hat]
    rfl
  · have hhas : Maps.has (DataW.map ((es.toList.map (rg P k anyE)).foldr DataW.insert [])) (X.lit x) = false := by
      cases hc : Maps.has (DataW.map ((es.toList.map (rg P k anyE)).foldr DataW.insert [])) (X.lit x)
      · rfl
      · exfalso
        obtain ⟨p, hp, hpk⟩ := List.any_eq_true.1 hc
        obtain ⟨e0, hm, rfl⟩ := List.mem_map.1 (mem_sorted.1 hp)
        obtain ⟨y, hy⟩ := F.reads _ hm
        rw [rg_of hy] at hpk
        exact hno ⟨e0, hm, by rw [rd_key hy, WideAt.sameKey_eq hpk]⟩
    rw [hhas]
    unfold Mx.look
    rw [atKey_of_not_has hhas]
    rfl
theorem RangeX.next [DecidableEq κ] (h : RangeX X w b r f left cnt) (ty : TypeId) :
    ((∀ x, left x = false) ∧ (Instr.next (.pointer (some ⟨r, 0, none⟩)) false ty).run P w = .ok (.tuple #[.bool false]) w) ∨
    ∃ x v w1 cnt1, X.dom x ∧ left x = true ∧ f x = some v ∧ (Instr.next (.pointer (some ⟨r, 0, none⟩)) false ty).run P w = .ok (.tuple #[.bool true, X.enc x, v]) w1 ∧
      RangeX X w1 b r f (fun y => left y && !decide (y = x)) cnt1 ∧ cnt1 < cnt ∧ w.grownBy w1 (some r) ∧ w1.heap.size = w.heap.size ∧ (Instr.entry (.pointer (some ⟨r, 0, none⟩))).run P w1 = .ok (.tuple #[X.enc x, v]) w1 := by
  obtain ⟨D, lf, h1, h2, h3⟩ := h.ex
  rcases h1.next X.law ty with ⟨h0, hl, hrun⟩ | ⟨key, v, kl, y, w1, cnt1, hkey, hlk, hv, hat, hrun, hrg, hlt, hgr, hsz, hen⟩
  · refine .inl ⟨fun x => ?_, hrun⟩
    rcases Classical.em (X.dom x) with hx | hx
    · rw [h3 x hx]; exact hl _
    · exact (h.out x hx).2
  · obtain ⟨x, hx, rfl, rfl⟩ := X.sur _ _ hkey
    refine .inr ⟨x, v, w1, cnt1, hx, by rw [h3 x hx]; exact hlk, ?_, hrun, ⟨⟨D, _, hrg, h2, fun z hz => ?_⟩, fun z hz => ⟨(h.out z hz).1, by rw [(h.out z hz).2]; rfl⟩⟩, hlt, hgr, hsz, hen⟩
    · rw [h2 x hx]
      unfold Mx.look
      rw [hat .nil]
      unfold anyE at hv
      injection hv with hv
      rw [← hv]
      rfl
    · show (left z && !decide (z = x)) = _
      rw [h3 z hz]
      congr 2
      by_cases e : z = x
      · subst e
        rw [decide_eq_true rfl, WideAt.sameKey_self (X.law.key hkey)]
      · rw [decide_eq_false e, sameKey_ne (fun e' => e (X.inj _ _ hz hx e'))]
theorem RangeX.del [DecidableEq κ] (h : RangeX X w b r f left cnt) {t e : TypeId} (ht : P.underlying t = some (.map k e)) {x : κ} (hx : X.dom x) (ty : TypeId) :
    ∃ w1 cnt1, (Builtin.delete_ #[t, k] ty #[.map (some b), X.enc x]).run P w = .ok (.tuple #[]) w1 ∧ RangeX X w1 b r (delF f x) (fun y => left y && !decide (y = x)) cnt1 ∧ cnt1 ≤ cnt ∧ w.mapTurned w1 b := by
  obtain ⟨D, lf, h1, h2, h3⟩ := h.ex
  obtain ⟨w1, cnt1, hrun, hrg, hle, hturn⟩ := h1.drop X.law ht (X.key x hx) ty
  refine ⟨w1, cnt1, hrun, ⟨⟨_, _, hrg, fun y hy => ?_, fun z hz => ?_⟩, fun z hz => ⟨?_, by rw [(h.out z hz).2]; rfl⟩⟩, hle, hturn⟩
  · unfold delF Mx.look
    by_cases e : y = x
    · subst e
      rw [if_pos rfl, atKey_del_same]
      rfl
    · rw [if_neg e, atKey_del_other (fun e' => e (X.inj _ _ hy hx e')), h2 y hy]
      rfl
  · show (left z && !decide (z = x)) = _
    rw [h3 z hz]
    congr 2
    by_cases e : z = x
    · subst e
      rw [decide_eq_true rfl, WideAt.sameKey_self (X.law.key (X.key z hx))]
    · rw [decide_eq_false e, sameKey_ne (fun e' => e (X.inj _ _ hz hx e'))]
  · unfold delF
    split
    · rfl
    · exact (h.out z hz).1
end
theorem nodup_lt : ∀ (l : List Nat) (N : Nat), l.Nodup → (∀ x ∈ l, x < N) → l.length ≤ N := by
  intro l N hn hl
  have h1 : l.Perm ((List.range N).filter fun x => decide (x ∈ l)) := (List.perm_ext_iff_of_nodup hn (List.nodup_range.filter _)).2 (fun x => by
    simp only [List.mem_filter, List.mem_range, decide_eq_true_eq]
    exact ⟨fun hx => ⟨hl x hx, hx⟩, fun hx => hx.2⟩)
  have h2 := h1.length_eq
  have h3 := List.length_filter_le (fun x => decide (x ∈ l)) (List.range N)
  rw [List.length_range] at h3
  omega
def intKX (P : Program) (t : TypeId) (q : IntKind) (B : Nat) (ht : P.underlying t = some (.int q)) (hB : B ≤ 1125899906842624) (hwf : ∀ a : Int, (Lit.int q a).wf = true ↔ 0 ≤ a ∧ a < (B : Int)) : KX P t Nat where
  enc x := .int q (x : Int)
  lit x := .int q (x : Int)
  dom x := x < B
  key x hx := keyOf_int_mk ht ((hwf _).2 (by omega))
  inj x y _ _ h := by injection h with _ h; omega
  sur v l h := by
    cases v <;> simp [keyOf, ht, mapKey] at h
    obtain ⟨⟨rfl, hw⟩, rfl⟩ := h
    rename_i a
    have := (hwf a).1 hw
    exact ⟨a.toNat, by omega, by rw [Int.toNat_of_nonneg this.1], by rw [Int.toNat_of_nonneg this.1]⟩
  law := int_keyed ht
  few l hn hl := Nat.le_trans (nodup_lt l B hn hl) hB
end Go.Proofs.Ytkjlmibjpfmfnaa.Mx

set_option linter.unusedVariables false
set_option linter.unusedSimpArgs false
namespace Go.Proofs.Ytkjlmibjpfmfnaa.Fl
open Go.Proofs.Ytkjlmibjpfmfnaa.Chk
/-- A fragment: its message, its limit, how often it was sent and when, how often it was missed, its state (0 in flight, 1 lost, 2 arrived, 3 abandoned), its chunk. -/
structure Pt where
  m : Int
  lk : Nat
  ln : Nat
  sent : Nat
  wn : Nat
  mi : Nat
  st : Nat
  c : Ck
def Pt.left (p : Pt) : Bool := p.st == 0 || p.st == 1
def Pt.spent (p : Pt) : Bool := p.lk == 1 && decide (p.ln < p.sent)
def restC (c : Ck) : Ck := { zeroC 0 with st := c.st, lo := c.lo, mid := c.mid }
def Pt.turn (tz : Nat) (p : Pt) : Pt := { p with st := tz, c := if tz ≤ 1 then p.c else restC p.c }
/-- A flight: its mark, its fragments, which messages were abandoned and not told yet, whether nothing was forgotten yet, the messages of all that was ever sent. -/
structure FS where
  mark : Nat
  ps : List Pt
  gone : Int → Bool
  fresh : Bool
  ms : List Int
def tsnOf (mark i : Nat) : Nat := (mark + i + 1) % 4294967296
def FS.next (s : FS) : Nat := tsnOf s.mark s.ps.length
def FS.turn (s : FS) (i tz : Nat) : FS := { s with ps := s.ps.modify i (Pt.turn tz) }
def FS.left (s : FS) : Nat := s.ps.countP Pt.left
def bytesP (p : Pt) : Nat := if p.st = 0 then p.c.body.length else 0
def FS.bytes (s : FS) : Nat := (s.ps.map bytesP).sum
def FS.abandon (s : FS) (m : Int) : FS := { s with ps := s.ps.map (fun p => if p.m = m ∧ p.left = true then p.turn 3 else p), gone := fun x => decide (x = m) || s.gone x }
structure AS where
  s : FS
  newest : Nat
  bytes : Nat
  rtt : Int
def gapPl (on : Nat) (g : Gp) : List Nat := (List.range (g.2 + 1 - g.1)).map fun k => on + (g.1 + k) - 1
def hits (on : Nat) (gs : List Gp) : List Nat := List.range on ++ (gs.map (gapPl on)).flatten
structure Ak where
  bytes : Nat
  on : Bool
  lost : Bool
  rtt : Int
  bad : Bool
def firstLost (s : FS) (i : Nat) : Prop := ∃ p, s.ps[i]? = some p ∧ p.st = 1 ∧ ∀ j q, j < i → s.ps[j]? = some q → q.st ≠ 1
def againP (now : Nat) (p : Pt) : Pt := { p with st := 0, sent := (p.sent + 1) % 18446744073709551616, wn := now, mi := 0 }
inductive AgainR (now : Nat) : FS → FS → Option Ck → Prop
  | none {s : FS} : (∀ p ∈ s.ps, p.st ≠ 1) → AgainR now s s none
  | skip {s s' : FS} {r : Option Ck} {i : Nat} {p : Pt} : firstLost s i → s.ps[i]? = some p → p.spent = true → AgainR now (s.abandon p.m) s' r → AgainR now s s' r
  | hit {s : FS} {i : Nat} {p : Pt} : firstLost s i → s.ps[i]? = some p → p.spent = false → AgainR now s { s with ps := s.ps.modify i (againP now) } (some p.c)
abbrev Ln := Nat × Bool
def FS.row (s : FS) : List Pt := s.ps.takeWhile fun p => p.st == 3
end Go.Proofs.Ytkjlmibjpfmfnaa.Fl

set_option linter.unusedVariables false
set_option linter.unusedSimpArgs false
set_option maxRecDepth 20000
namespace Go.Proofs.Ytkjlmibjpfmfnaa.Fl
open Go.ChangeShapes Go.WideShapes Go.ChangeAt Go.RowKit Go.Deep Go.Maps Go.Proofs.Ytkjlmibjpfmfnaa.Words Go.Proofs.Ytkjlmibjpfmfnaa.Mx
open Go.ChangeMaps (notKey putKey delKey setBlock heap_setBlock_same)
open Go.MapKept (stamped_iff)
open Go.WideElems (Fit rd rg pl rd_key rd_val rg_of)
def i64ok (x : Int) : Prop := -9223372036854775808 ≤ x ∧ x ≤ 9223372036854775807
theorem i64_wf {a : Int} : (Lit.int .i64 a).wf = true ↔ i64ok a := by simp [Lit.wf, IntKind.min, IntKind.max, IntKind.bits, IntKind.signed, i64ok]
section
variable {P : Program} {k : TypeId} {w w' : World} {b : Nat} {D : DataW Value} {f : Int → Option Value}
/-- A map of keys of the kind int: what it holds at each. -/
structure MapZ (P : Program) (k : TypeId) (w : World) (b : Nat) (f : Int → Option Value) : Prop where
  und : P.underlying k = some (.int .i64)
  ex : ∃ D n, w.ownsMap P k anyE b n D ∧ n ≤ 1125899906842624 ∧ ∀ x, i64ok x → f x = Mx.look D (.int .i64 x)
  out : ∀ x, ¬ i64ok x → f x = none
/-- All that it holds stands at keys of this list. -/
def Few (f : Int → Option Value) (L : List Int) : Prop := ∀ x, f x ≠ none → x ∈ L
theorem keyz (hu : P.underlying k = some (.int .i64)) {x : Int} (hx : i64ok x) : keyOf P k (.int .i64 x) = some (.int .i64 x) := keyOf_int_mk hu (i64_wf.2 hx)
theorem surz (hu : P.underlying k = some (.int .i64)) {v : Value} {l : Lit} (h : keyOf P k v = some l) : ∃ x, i64ok x ∧ v = .int .i64 x ∧ l = .int .i64 x := by
  cases v <;> simp [keyOf, hu, mapKey] at h
  obtain ⟨⟨rfl, hw⟩, rfl⟩ := h
  exact ⟨_, i64_wf.1 hw, rfl, rfl⟩
theorem keysz (hu : P.underlying k = some (.int .i64)) : ∀ (es : List MapEntry), (∀ e ∈ es, ∃ l, keyOf P k e.key = some l) → ∃ xs : List Int, xs.map (fun x => Value.int .i64 x) = es.map (·.key) ∧ ∀ x ∈ xs, i64ok x
  | [], _ => ⟨[], rfl, by simp⟩
  | e :: es, h => by
    obtain ⟨xs, h1, h2⟩ := keysz hu es (fun e' he => h e' (List.mem_cons_of_mem _ he))
    obtain ⟨l, hl⟩ := h e List.mem_cons_self
    obtain ⟨x, hx, e1, _⟩ := surz hu hl
    exact ⟨x :: xs, by simp [h1, e1], fun y hy => by
      rcases List.mem_cons.1 hy with rfl | hy
      · exact hx
      · exact h2 y hy⟩
theorem nodup_sub {α : Type} [DecidableEq α] : ∀ (l L : List α), l.Nodup → (∀ x ∈ l, x ∈ L) → l.length ≤ L.length
  | [], _, _, _ => Nat.zero_le _
  | x :: l, L, hn, h => by
    have hx : x ∈ L := h x List.mem_cons_self
    have hn' := List.nodup_cons.1 hn
    have h2 := nodup_sub l (L.erase x) hn'.2 (fun y hy => (List.mem_erase_of_ne (fun e => hn'.1 (by rw [← e]; exact hy))).2 (h y (List.mem_cons_of_mem _ hy)))
    rw [List.length_erase_of_mem hx] at h2
    have hpos := List.length_pos_of_mem hx
    simp only [List.length_cons]
    omega
/-- How many it holds: no more than that list has. -/
theorem fit_fewz (hu : P.underlying k = some (.int .i64)) {n : Nat} (h : w.ownsMap P k anyE b n D) (h2 : ∀ x, i64ok x → f x = Mx.look D (.int .i64 x)) {L : List Int} (hL : Few f L) : w.ownsMap P k anyE b L.length D := by
  obtain ⟨es, clock, hb, F, hs, rfl⟩ := h
  refine ⟨es, clock, hb, F, ?_, rfl⟩
  obtain ⟨xs, e1, e2⟩ := keysz hu es.toList F.keys
  have hn : es.toList.Pairwise (fun x y => x.key ≠ y.key) := ((stamped_iff es clock).1 F.stamped).2.2
  have hnd : xs.Nodup := by
    have h3 : (es.toList.map (·.key)).Pairwise (· ≠ ·) := List.pairwise_map.2 hn
    rw [← e1] at h3
    exact (List.pairwise_map.1 h3).imp (fun {a b} hab e => hab (by rw [e]))
  have h6 : xs.length = es.toList.length := by have := congrArg List.length e1; simpa using this
  have h5 := nodup_sub xs L hnd (fun x hx => hL x (by
    have hx1 : Value.int .i64 x ∈ es.toList.map (·.key) := by rw [← e1]; exact List.mem_map.2 ⟨x, hx, rfl⟩
    obtain ⟨e0, hmem, he0⟩ := List.mem_map.1 hx1
    obtain ⟨y, hy⟩ := F.reads _ hmem
    obtain ⟨z, hz, hzd⟩ := rd_val hy
    have hkey := rd_key hy
    rw [he0, keyz hu (e2 x hx)] at hkey
    injection hkey with hkey
    have K : Keyed P k := int_keyed hu
    have hat := (atKey_sorted (es.toList.map (rg P k anyE)) (Maps.fit_rising K F) (.int .i64 x) (K.key (keyz hu (e2 x hx)))).2 (rg P k anyE e0) (List.mem_map.2 ⟨_, hmem, rfl⟩) (by rw [rg_of hy]; exact hkey.symm) .nil
    rw [h2 x (e2 x hx)]
    unfold Mx.look
    rw [hat, rg_of hy]
    unfold anyE at hz
    injection hz with hz
    have e4 : y.2 = .held e0.val := by rw [hzd, ← hz]
    rw [e4]
    intro h; cases h))
  have : es.size = es.toList.length := by simp
  omega
theorem MapZ.new (hu : P.underlying k = some (.int .i64)) (w : World) : MapZ P k (w.alloc (.map #[] 0)) w.heap.size (fun _ => none) :=
  ⟨hu, ⟨.map [], 0, World.ownsMap_made w P k anyE, by omega, fun x _ => rfl⟩, fun _ _ => rfl⟩
theorem MapZ.lt (h : MapZ P k w b f) : b < w.heap.size := by obtain ⟨D, n, h1, _⟩ := h.ex; exact h1.lt
theorem MapZ.same (h : MapZ P k w b f) (e : w'.heap[b]? = w.heap[b]?) : MapZ P k w' b f := by
  obtain ⟨D, n, ⟨es, clock, hb, F, hs, hD⟩, hn, h2⟩ := h.ex
  exact ⟨h.und, ⟨D, n, ⟨es, clock, e.trans hb, F, hs, hD⟩, hn, h2⟩, h.out⟩
theorem MapZ.fr {S : Nat → Prop} (h : MapZ P k w b f) (hf : Fr S w w') (hb : ¬ S b) : MapZ P k w' b f := h.same (hf.block b h.lt hb)
theorem MapZ.as_ {g : Int → Option Value} (h : MapZ P k w b f) (e : ∀ x, f x = g x) : MapZ P k w b g := by rw [← funext e]; exact h
theorem MapZ.look (h : MapZ P k w b f) {t e : TypeId} (ht : P.underlying t = some (.map k e)) {z : Value} (hz : (zeroValue e).run P w = .ok z w) {x : Int} (hx : i64ok x) :
    (Instr.lookup t (.map (some b)) (.int .i64 x) false).run P w = .ok ((f x).getD z) w := by
  obtain ⟨D, n, ⟨es, clock, hb, F, _, rfl⟩, _, h2⟩ := h.ex
  have h3 := h2 x hx
  rcases Maps.fit_look false (int_keyed h.und) ht hz hb F (keyz h.und hx) with ⟨hrun, _, hat⟩ | ⟨e0, y, _, _, hrun, hRv, hat, _⟩
  · unfold Mx.look at h3
    rw [hat .nil] at h3
    rw [h3, hrun]
    rfl
  · unfold Mx.look at h3
    rw [hat .nil] at h3
    have e1 : y.1 = .held e0.val := by unfold anyE at hRv; injection hRv with hRv; rw [← hRv]
    rw [e1] at h3
    have h4 : f x = some e0.val := h3
    rw [h4, hrun]
    rfl
theorem MapZ.put (h : MapZ P k w b f) {t e : TypeId} (ht : P.underlying t = some (.map k e)) {x : Int} (hx : i64ok x) (v : Value) {L : List Int} (hL : Few f L) (hl : L.length ≤ 1073741824) :
    ∃ w1, (Instr.mapUpdate t (.map (some b)) (.int .i64 x) v).run P w = .ok () w1 ∧ MapZ P k w1 b (putF f x v) ∧ w.mapTurned w1 b := by
  obtain ⟨D, n, hown, hn, h2⟩ := h.ex
  have hown2 := fit_fewz h.und hown h2 hL
  have K : Keyed P k := int_keyed h.und
  obtain ⟨w1, hrun, hown1, hturn⟩ := hown2.store K ht (by unfold maxLen; omega) (keyz h.und hx) (show anyE v = some (.held v, []) from rfl)
  refine ⟨w1, hrun, ⟨h.und, ⟨_, _, hown1, by omega, fun y hy => ?_⟩, fun y hy => ?_⟩, hturn⟩
  · unfold putF Mx.look
    by_cases e : y = x
    · subst e
      rw [if_pos rfl, atKey_put_same hown2.isMap (K.key (keyz h.und hy))]
      rfl
    · rw [if_neg e, atKey_put_other (fun e' => e (by injection e')), h2 y hy]
      rfl
  · unfold putF
    rw [if_neg (fun e => hy (by rw [e]; exact hx))]
    exact h.out y hy
theorem MapZ.del (h : MapZ P k w b f) {t e : TypeId} (ht : P.underlying t = some (.map k e)) {x : Int} (hx : i64ok x) (ty : TypeId) :
    ∃ w1, (Builtin.delete_ #[t, k] ty #[.map (some b), .int .i64 x]).run P w = .ok (.tuple #[]) w1 ∧ MapZ P k w1 b (delF f x) ∧ w.mapTurned w1 b := by
  obtain ⟨D, n, hown, hn, h2⟩ := h.ex
  have K : Keyed P k := int_keyed h.und
  obtain ⟨w1, hrun, hown1, hturn⟩ := hown.drop K ht (keyz h.und hx) ty
  refine ⟨w1, hrun, ⟨h.und, ⟨_, _, hown1, hn, fun y hy => ?_⟩, fun y hy => ?_⟩, hturn⟩
  · unfold delF Mx.look
    by_cases e : y = x
    · subst e
      rw [if_pos rfl, atKey_del_same]
      rfl
    · rw [if_neg e, atKey_del_other (fun e' => e (by injection e')), h2 y hy]
      rfl
  · unfold delF
    split
    · rfl
    · exact h.out y hy
theorem fit_empty (P : Program) (k : TypeId) (clock : Nat) : Fit P k anyE #[] clock := by
  refine ⟨by simp, ?_, by simp⟩
  exact (stamped_iff #[] clock).2 ⟨by simp, by simp, by simp⟩
theorem run_clear_map {t e : TypeId} (ht : P.underlying t = some (.map k e)) {es : Array MapEntry} {clock : Nat} (hb : w.heap[b]? = some (.map es clock)) (ty : TypeId) :
    (Builtin.clear_ #[t] ty #[.map (some b)]).run P w = .ok (.tuple #[]) (setBlock w b (.map #[] clock)) := by
  simp [Builtin.clear_, run_underlying ht, MapKept.run_getObj_map hb, MapKept.run_setObj_map _ hb, Result.andThen]
  rfl
theorem MapZ.clear (h : MapZ P k w b f) {t e : TypeId} (ht : P.underlying t = some (.map k e)) (ty : TypeId) :
    ∃ w1, (Builtin.clear_ #[t] ty #[.map (some b)]).run P w = .ok (.tuple #[]) w1 ∧ MapZ P k w1 b (fun _ => none) ∧ w.mapTurned w1 b := by
  obtain ⟨D, n, ⟨es, clock, hb, F, hs, hD⟩, hn, h2⟩ := h.ex
  exact ⟨_, run_clear_map ht hb ty, ⟨h.und, ⟨.map [], 0, ⟨#[], clock, heap_setBlock_same hb _, fit_empty P k clock, by simp, rfl⟩, by omega, fun x _ => rfl⟩, fun _ _ => rfl⟩, ⟨es, clock, _, _, hb, rfl⟩⟩
end
section
variable {P : Program} {k : TypeId} {κ : Type} {X : KX P k κ} {w : World} {b : Nat} {f : κ → Option Value}
theorem mapX_clear (h : MapX X w b f) {t e : TypeId} (ht : P.underlying t = some (.map k e)) (ty : TypeId) :
    ∃ w1, (Builtin.clear_ #[t] ty #[.map (some b)]).run P w = .ok (.tuple #[]) w1 ∧ MapX X w1 b (fun _ => none) ∧ w.mapTurned w1 b := by
  obtain ⟨D, ⟨es, clock, hb, F, hs, hD⟩, h2⟩ := h.ex
  exact ⟨_, run_clear_map ht hb ty, ⟨⟨.map [], ⟨#[], clock, heap_setBlock_same hb _, fit_empty P k clock, by simp, rfl⟩, fun x _ => rfl⟩, fun _ _ => rfl⟩, ⟨es, clock, _, _, hb, rfl⟩⟩
end
def lnV (g : Ln) : Value := .agg #[.int .u16 (g.1 : Int), .bool g.2]
theorem lin_laid : laidOutB Try.prog = true := by kernel_rfl
theorem u16_wf {n : Nat} (h : n < 65536) : (Lit.int .u16 (n : Int)).wf = true := by simp [Lit.wf, IntKind.min, IntKind.max, IntKind.bits, IntKind.signed]; omega
def lnL (g : Ln) : Lit := .string (keyBytes [.int .u16 (g.1 : Int), .bool g.2])
theorem kl_int {P : Program} {d t : Nat} {q : IntKind} (hu : P.underlying t = some (.int q)) {a : Value} {ls : List Lit} (h : P.keyLits (d + 1) t [a] = some ls) : ∃ n, a = .int q n ∧ (Lit.int q n).wf = true ∧ ls = [.int q n] := by
  cases a <;> simp [Program.keyLits, hu] at h
  obtain ⟨⟨rfl, hw⟩, rfl⟩ := h
  exact ⟨_, rfl, hw, rfl⟩
theorem kl_bool {P : Program} {d t : Nat} (hu : P.underlying t = some .bool) {a : Value} {ls : List Lit} (h : P.keyLits (d + 1) t [a] = some ls) : ∃ b, a = .bool b ∧ ls = [.bool b] := by
  cases a <;> simp [Program.keyLits, hu] at h
  exact ⟨_, rfl, h.symm⟩
def lnN (g : Ln) : Nat := g.1 * 2 + (if g.2 = true then 1 else 0)
end Go.Proofs.Ytkjlmibjpfmfnaa.Fl

set_option linter.unusedVariables false
set_option linter.unusedSimpArgs false
set_option maxRecDepth 20000
namespace Go.Proofs.Ytkjlmibjpfmfnaa.Sc
open Go.ChangeShapes Go.WideShapes Go.ChangeAt Go.RowKit Go.Deep Go.Maps Go.Proofs.Ytkjlmibjpfmfnaa.Words Go.Proofs.Ytkjlmibjpfmfnaa.Mx
open Go.Proofs.Ytkjlmibjpfmfnaa.Fl (Ln)
def u16X : KX Try.prog 35 Nat := intKX _ _ .u16 65536 Try.underlying35 (by omega) (fun a => by simp [Lit.wf, IntKind.min, IntKind.max, IntKind.bits, IntKind.signed]; omega)
def lnV (g : Ln) : Value := .agg #[.int .u16 (g.1 : Int), .bool g.2]
theorem lin_ble : Nat.ble (129 + 1) Try.prog.types.size = true := by kernel_rfl
theorem lin_row : 129 < Try.prog.types.size := Nat.le_of_ble_eq_true lin_ble
theorem lin_at : Try.prog.keyTypeAt 3 129 = true := by kernel_rfl
theorem lin_key : Try.prog.keyType 129 = true := by kernel_rfl
theorem lin_laid : laidOutB Try.prog = true := by kernel_rfl
theorem lin_law : Keyed Try.prog 129 := Keyed.of_law (deep_law_laid lin_laid (m := 3) (by omega) lin_row lin_at (by rw [Try.underlying129]))
theorem u16_wf {n : Nat} (h : n < 65536) : (Lit.int .u16 (n : Int)).wf = true := by simp [Lit.wf, IntKind.min, IntKind.max, IntKind.bits, IntKind.signed]; omega
theorem lin_size : ∃ d, Try.prog.types.size = d + 1 := ⟨Try.prog.types.size - 1, by have := lin_row; omega⟩
def lnL (g : Ln) : Lit := .string (keyBytes [.int .u16 (g.1 : Int), .bool g.2])
theorem lin_of (v : Value) : keyOf Try.prog 129 v = if v.formed Try.prog 129 = true then (Try.prog.keyLits (Try.prog.types.size + 1) 129 v.cells.toList).map fun ls => .string (keyBytes ls) else none := by
  unfold keyOf
  rw [Try.underlying129, lin_key]
  simp
theorem lin_keyOf (g : Ln) (h1 : g.1 < 65536) : keyOf Try.prog 129 (lnV g) = some (lnL g) := by
  obtain ⟨d, hd⟩ := lin_size
  have hc16 : Try.prog.cellsOf 35 = 1 := by kernel_rfl
  have hcb : Try.prog.cellsOf 4 = 1 := by kernel_rfl
  have hcg : Try.prog.cellsOf 129 = 2 := by kernel_rfl
  rw [lin_of, if_pos (by simp [lnV, Value.formed, Try.underlying129, hcg]), hd]
  simp [Program.keyLits, lnV, Value.cells, Try.underlying129, Try.underlying35, Try.underlying4, hc16, hcb, hcg, u16_wf h1, lnL]
theorem kl_int {P : Program} {d t : Nat} {q : IntKind} (hu : P.underlying t = some (.int q)) {a : Value} {ls : List Lit} (h : P.keyLits (d + 1) t [a] = some ls) : ∃ n, a = .int q n ∧ (Lit.int q n).wf = true ∧ ls = [.int q n] := by
  cases a <;> simp [Program.keyLits, hu] at h
  obtain ⟨⟨rfl, hw⟩, rfl⟩ := h
  exact ⟨_, rfl, hw, rfl⟩
theorem kl_bool {P : Program} {d t : Nat} (hu : P.underlying t = some .bool) {a : Value} {ls : List Lit} (h : P.keyLits (d + 1) t [a] = some ls) : ∃ b, a = .bool b ∧ ls = [.bool b] := by
  cases a <;> simp [Program.keyLits, hu] at h
  exact ⟨_, rfl, h.symm⟩
theorem lin_sur (v : Value) (l : Lit) (h : keyOf Try.prog 129 v = some l) : ∃ g : Ln, g.1 < 65536 ∧ v = lnV g ∧ l = lnL g := by
  obtain ⟨d, hd⟩ := lin_size
  have hc16 : Try.prog.cellsOf 35 = 1 := by kernel_rfl
  have hcb : Try.prog.cellsOf 4 = 1 := by kernel_rfl
  have hcg : Try.prog.cellsOf 129 = 2 := by kernel_rfl
  rw [lin_of] at h
  split at h
  · rename_i hf
    cases v <;> simp [Value.formed, Try.underlying129, hcg] at hf
    rename_i cs
    obtain ⟨a, b, hl⟩ : ∃ a b, cs.toList = [a, b] := by
      have hlen : cs.toList.length = 2 := by simpa using hf
      match cs.toList, hlen with
      | [a, b], _ => exact ⟨a, b, rfl⟩
    have hcs : cs = #[a, b] := by rw [← Array.toArray_toList (xs := cs), hl]
    subst hcs
    rw [hd] at h
    simp only [Program.keyLits, Value.cells, Try.underlying129, hc16, hcb, hcg] at h
    split at h
    · simp only [List.mapM_cons, List.mapM_nil, List.drop_zero, List.drop_succ_cons, List.take_succ_cons, List.take_zero, List.drop_nil, Option.map_eq_some_iff, Option.bind_eq_some_iff, Option.pure_def, Option.some.injEq, Option.bind_eq_bind] at h
      obtain ⟨ls, ⟨l3, ⟨l1, k1, l2, ⟨m1, k2, m2, rfl, rfl⟩, rfl⟩, rfl⟩, rfl⟩ := h
      obtain ⟨x1, rfl, w1, rfl⟩ := kl_int Try.underlying35 k1
      obtain ⟨x2, rfl, rfl⟩ := kl_bool Try.underlying4 k2
      simp [Lit.wf, IntKind.min, IntKind.max, IntKind.bits, IntKind.signed] at w1
      refine ⟨⟨x1.toNat, x2⟩, by show x1.toNat < _; omega, ?_, ?_⟩
      · show _ = Value.agg #[.int .u16 (x1.toNat : Int), .bool x2]
        rw [Int.toNat_of_nonneg w1.1]
      · show _ = Lit.string (keyBytes [.int .u16 (x1.toNat : Int), .bool x2])
        rw [Int.toNat_of_nonneg w1.1]
        rfl
    · simp at h
  · cases h
def lnN (g : Ln) : Nat := g.1 * 2 + (if g.2 = true then 1 else 0)
def lnX : KX Try.prog 129 Ln where
  enc := lnV
  lit := lnL
  dom g := g.1 < 65536
  key g h := lin_keyOf g h
  inj a b ha hb e := by
    have h1 := lin_keyOf a ha
    have h2 := lin_keyOf b hb
    rw [e] at h1
    have h3 := lin_law.inj h1 h2
    unfold lnV at h3
    obtain ⟨a1, a2⟩ := a
    obtain ⟨b1, b2⟩ := b
    simp at h3
    obtain ⟨h4, h5⟩ := h3
    rw [h5, show a1 = b1 by omega]
  sur := lin_sur
  law := lin_law
  few l hn hl := by
    have h1 : (l.map lnN).Nodup := List.pairwise_map.2 (List.Pairwise.imp_of_mem (fun {a b} ha hb hne e => hne (by
      obtain ⟨a1, a2⟩ := a
      obtain ⟨b1, b2⟩ := b
      simp only [lnN] at e
      cases a2 <;> cases b2 <;> simp at e ⊢ <;> omega)) hn)
    have h2 := nodup_lt _ 1125899906842624 h1 (fun x hx => by
      obtain ⟨g, hg, rfl⟩ := List.mem_map.1 hx
      have h3 := hl g hg
      unfold lnN
      split <;> omega)
    simpa using h2
end Go.Proofs.Ytkjlmibjpfmfnaa.Sc
