/-
  Of the texts ScAd3, ScPu, ScRep5: what the laws reach.
-/
import Derived.Test.YtkjlmibjpfmfnaaSA11
import Derived.Test.YtkjlmibjpfmfnaaSA3

set_option linter.unusedVariables false
set_option linter.unusedSimpArgs false
set_option maxRecDepth 20000
namespace Go.Proofs.Ytkjlmibjpfmfnaa.Sc
open Go.ChangeShapes Go.WideShapes Go.ChangeAt Go.RowKit Go.Deep Go.Maps Go.Proofs.Ytkjlmibjpfmfnaa.Words Go.Proofs.Ytkjlmibjpfmfnaa.Oct Go.Proofs.Ytkjlmibjpfmfnaa.Par Go.Proofs.Ytkjlmibjpfmfnaa.Chk Go.Proofs.Ytkjlmibjpfmfnaa.Mx Go.Proofs.Ytkjlmibjpfmfnaa.Fl
/-- The lines as the plain queue has them. -/
def lns (gh : Gh) : List Lin := gh.gl.map fun g => (g.st, g.its)
/-- How often was added. -/
structure Adm (gh : Gh) (T : Nat) : Prop where
  q : gh.ad ≤ T
  l : ∀ g ∈ gh.gl, g.ad ≤ T
  n : ∀ id n, gh.N id = some n → n.ad ≤ T
section
variable {e : Ev} {w w0 W W' : World} {h0 h h' : Hp} {p b mb st lb nb T : Nat} {x0 : Me} {mm : Ln → Option Nat} {gh : Gh} {S : Nat → Prop} {g : GL} {ga gc : List GL} {n : NR} {it : It} {A : Option Addr} {cp : Nat}
theorem addL_at (it : It) {l : List It} {c : List Lin} : ∀ {a : List Lin}, it.m.st ∉ a.map (·.1) → addL it (a ++ (it.m.st, l) :: c) = a ++ (it.m.st, l ++ [it]) :: c
  | [], _ => by
    show addL it ((it.m.st, l) :: c) = _
    unfold addL
    rw [if_pos rfl]
    rfl
  | x :: a, h => by
    show addL it (x :: (a ++ _)) = _
    unfold addL
    rw [if_neg (fun e => h (by rw [← e]; exact List.mem_cons_self)), addL_at it (fun h2 => h (List.mem_cons_of_mem _ h2))]
    rfl
theorem addL_new (it : It) : ∀ {a : List Lin}, it.m.st ∉ a.map (·.1) → addL it a = a ++ [(it.m.st, [it])]
  | [], _ => rfl
  | x :: a, h => by
    unfold addL
    rw [if_neg (fun e => h (by rw [← e]; exact List.mem_cons_self)), addL_new it (fun h2 => h (List.mem_cons_of_mem _ h2))]
    rfl
/-- What an add leaves. -/
def AddDone (e : Ev) (w : World) (h : Hp) (p : Nat) (gh : Gh) (mm : Ln → Option Nat) (it : It) (en : Ending) (w' : World) : Prop :=
  ∃ h' gh', en = .returned (.tuple #[]) ∧ QM e w' h' p gh' mm ∧ lns gh' = addL it (lns gh) ∧ (∀ T, Adm gh T → Adm gh' (T + 1)) ∧ Grow h h' w.heap.size ∧ Fr (QG e h) w w'
theorem sm_look (hm : MapX u16X w b (smF gh)) {st : Nat} (hst : st < 65536) (W : World) (hW : W.heap[b]? = w.heap[b]?) : (Instr.lookup 83 (.map (some b)) (.int .u16 (st : Int)) false).run Try.prog W = .ok (oV (gh.sm st)) W := by
  have zv : (zeroValue 94).run Try.prog W = .ok (.pointer none) W := by kernel_rfl
  have := (hm.same hW).look (t := 83) Try.underlying83 zv (show u16X.dom st from hst)
  refine Eq.trans this ?_
  unfold smF
  cases gh.sm st <;> rfl
theorem nm_look2 (hm : MapZ Try.prog 3 w b (nmF gh)) {id : Int} (hid : i64ok id) (W : World) (hW : W.heap[b]? = w.heap[b]?) : (Instr.lookup 84 (.map (some b)) (.int .i64 id) false).run Try.prog W = .ok (oV ((gh.N id).map (·.rb))) W := by
  have zv : (zeroValue 121).run Try.prog W = .ok (.pointer none) W := by kernel_rfl
  have := (hm.same hW).look (t := 84) Try.underlying84 zv hid
  refine Eq.trans this ?_
  unfold nmF
  cases gh.N id <;> rfl
theorem lns_old (k : RepW gh) (eg : gh.gl = ga ++ g :: gc) (hst : g.st = it.m.st) (x : GM) (hx : x.it = it) (n : NR) : lns (msgG gh ga gc g x n) = addL it (lns gh) := by
  have hn : it.m.st ∉ (ga.map fun g : GL => ((g.st, g.its) : Lin)).map (·.1) := fun h => by
    rw [List.map_map] at h
    obtain ⟨g', h1, h2⟩ := List.mem_map.1 h
    have hnd := k.sts
    rw [eg, List.map_append, List.nodup_append] at hnd
    exact hnd.2.2 _ (List.mem_map_of_mem h1) g.st (by simp) (by rw [hst]; exact h2)
  show (ga ++ { g with ms := g.ms ++ [x], ad := g.ad + 1 } :: gc).map _ = addL it (gh.gl.map _)
  rw [eg, List.map_append, List.map_append, List.map_cons, List.map_cons]
  show _ ++ (g.st, (g.ms ++ [x]).map GM.it) :: _ = addL it (_ ++ (g.st, g.its) :: _)
  rw [hst, addL_at it hn, List.map_append]
  show _ ++ (it.m.st, g.ms.map GM.it ++ [x.it]) :: _ = _
  rw [hx]
  rfl
theorem adm_msg (hg : g ∈ gh.gl) (eg : gh.gl = ga ++ g :: gc) (x : GM) (hN : gh.N x.it.id = some n) (k : Adm gh T) : Adm (msgG gh ga gc g x n) (T + 1) := by
  refine ⟨Nat.le_succ_of_le k.q, fun g2 h2 => ?_, fun id n' h2 => ?_⟩
  · have h2' : g2 ∈ ga ++ { g with ms := g.ms ++ [x], ad := g.ad + 1 } :: gc := h2
    have hold : g2 ∈ gh.gl → g2.ad ≤ T + 1 := fun h => Nat.le_succ_of_le (k.l g2 h)
    rcases List.mem_append.1 h2' with h9 | h9
    · exact hold (by rw [eg]; exact List.mem_append_left _ h9)
    · rcases List.mem_cons.1 h9 with h9 | h9
      · rw [h9]; exact Nat.succ_le_succ (k.l g hg)
      · exact hold (by rw [eg]; exact List.mem_append_right _ (List.mem_cons_of_mem _ h9))
  · have h2' : (if id = x.it.id then some (⟨n.rb, n.ad + 1, n.l ++ [⟨x.nb, x.mb, n.ad⟩]⟩ : NR) else gh.N id) = some n' := h2
    split at h2'
    · injection h2' with h2'
      rw [← h2']
      exact Nat.succ_le_succ (k.n _ _ hN)
    · exact Nat.le_succ_of_le (k.n _ _ h2')
set_option maxHeartbeats 16000000 in
theorem add_s (k : QM e w h p gh mm) (hm : h mb = some (.ms ⟨it, A, cp, none, none, none⟩)) (hst : it.m.st < 65536) (hid : i64ok it.id) (hT : Adm gh T) (hT2 : T < 4611686018427387900) (hbt : bytesG gh.gl + it.m.body.length ≤ 1000000) {L : List Int} (hL : Few (nmF gh) L) (hL2 : L.length ≤ 1073741824) :
    Calls Try.prog 27 #[qptr p, qptr mb] w (AddDone e w h p gh mm it) := by
  have k0 : AdS e w h p mb ⟨it, A, cp, none, none, none⟩ mm w h gh := ⟨k.hv, k.rep, k.g.w, k.sm, k.nm, k.mm, k.ne, hm, rfl, Grow.refl _ _, Fr.refl _ _⟩
  obtain ⟨rq, hq⟩ := k.rep.q
  have cq : w.cell? ⟨p, 2, none⟩ = some (.map (some e.sm)) := k.hv.cell hq 2
  have cs : w.cell? ⟨mb, 3, none⟩ = some (.int .u16 (it.m.st : Int)) := k.hv.cell hm 3
  have hl1 := sm_look k.sm hst w.drew rfl
  have HRG := Lib.hid k.g
  have HST := Lib.hid hst
  have HID := Lib.hid hid
  have HT := Lib.hid hT
  have HT2 := Lib.hid hT2
  have HBT := Lib.hid hbt
  have HL := Lib.hid hL
  have HL2 := Lib.hid hL2
  obtain ⟨V0, hV0⟩ : ∃ V, V = w.drew := ⟨_, rfl⟩
  have K1 : Hid (AdS e w h p mb ⟨it, A, cp, none, none, none⟩ mm V0 h gh) := by rw [hV0]; exact k0.drew
  have KQ := Lib.hid hq
  clear k k0 hq hm hst hid hT hT2 hbt hL hL2
  go_enter Try.func27, Try.ntmps27
  cases hsm : gh.sm it.m.st with
  | some sb =>
    rw [hsm] at hl1
    simp only [oV] at hl1
    go_upto_region 0 with (fail)
    go_region
    rw [← hV0]
    clear hV0 cq cs hl1
    obtain ⟨g, hg, hgs, hgb⟩ := HRG.out.sm2 _ _ hsm
    obtain ⟨ga, gc, eg⟩ := List.append_of_mem hg
    have HGM : Hid (g ∈ gh.gl) := hg
    have HEG : Hid (gh.gl = ga ++ g :: gc) := eg
    have HGS : Hid (g.st = it.m.st) := hgs
    obtain ⟨W4, hW4⟩ : ∃ W, W = V0 := ⟨_, rfl⟩
    obtain ⟨h4, hh4⟩ : ∃ x, x = h := ⟨_, rfl⟩
    obtain ⟨gh1, hgh1⟩ : ∃ x, x = gh := ⟨_, rfl⟩
    have K4 : Hid (AdS e w h p mb ⟨it, A, cp, none, none, none⟩ mm W4 h4 gh1) := by rw [hW4, hh4, hgh1]; exact K1.out
    have HEG1 : Hid (gh1.gl = ga ++ g :: gc) := by rw [hgh1]; exact eg
    have HGN1 : Hid (∀ g' ∈ gh1.gl, g'.ms = [] → g' = g) := by rw [hgh1]; exact fun g' h1 h2 => absurd h2 (HRG.out.ne g' h1)
    have HN1 : Hid (∀ id, gh1.N id = gh.N id) := by rw [hgh1]; exact fun _ => rfl
    have HAD1 : Hid (Adm gh1 (T + 1)) := by rw [hgh1]; exact ⟨Nat.le_succ_of_le HT.out.q, fun g h => Nat.le_succ_of_le (HT.out.l g h), fun i n h => Nat.le_succ_of_le (HT.out.n i n h)⟩
    have HBY1 : Hid (bytesG gh1.gl = bytesG gh.gl) := by rw [hgh1]; rfl
    have HLN1 : Hid (∀ gh2 : Gh, gh2.gl = gh1.gl → ∀ nb lb, ∀ n : NR, lns (msgG gh2 ga gc g ⟨it, mb, lb, g.ad, nb, A, cp⟩ n) = addL it (lns gh)) := fun gh2 e9 nb lb n => by
      have := lns_old (gh := gh) (it := it) HRG.out.w eg hgs ⟨it, mb, lb, g.ad, nb, A, cp⟩ rfl n
      rw [← this]
      rfl
    have HADF : Hid (∀ T, Adm gh T → ∀ gh2 : Gh, gh2.gl = gh1.gl → gh2.ad = gh1.ad → (∀ id n', gh2.N id = some n' → n'.ad ≤ T) → ∀ nb lb, ∀ n : NR, gh2.N it.id = some n → Adm (msgG gh2 ga gc g ⟨it, mb, lb, g.ad, nb, A, cp⟩ n) (T + 1)) := fun T hT gh2 e1 e2 e3 nb lb n e4 => by
      rw [hgh1] at e1 e2
      exact adm_msg (gh := gh2) (by rw [e1]; exact hg) (by rw [e1]; exact eg) ⟨it, mb, lb, g.ad, nb, A, cp⟩ e4 ⟨by rw [e2]; exact hT.q, by rw [e1]; exact hT.l, e3⟩
    rw [← hgb]
    clear hg hgs hgb eg hsm hh4 hgh1
    go_upto_region 5 with (fail)
    rw [← hW4]
    clear hW4
    obtain ⟨rq4, hq4⟩ := K4.out.rep.q
    have cn4 : W4.cell? ⟨p, 6, none⟩ = some (.map (some e.nm)) := K4.out.hv.cell hq4 6
    have ci4 : W4.cell? ⟨mb, 0, none⟩ = some (.int .i64 it.id) := K4.out.hv.cell K4.out.m 0
    have hl5 := nm_look2 K4.out.nm HID.out W4.drew rfl
    obtain ⟨V5, hV5⟩ : ∃ V, V = W4.drew := ⟨_, rfl⟩
    have K5 : Hid (AdS e w h p mb ⟨it, A, cp, none, none, none⟩ mm V5 h4 gh1) := by rw [hV5]; exact K4.out.drew
    clear hq4
    cases hN : gh1.N it.id with
    | some n =>
      rw [hN] at hl5
      simp only [oV, Option.map_some] at hl5
      go_region
      rw [← hV5]
      clear hV5 cn4 ci4 hl5
      obtain ⟨W9, hW9⟩ : ∃ W, W = V5 := ⟨_, rfl⟩
      obtain ⟨h9, hh9⟩ : ∃ x, x = h4 := ⟨_, rfl⟩
      obtain ⟨gh2, hgh2⟩ : ∃ x, x = gh1 := ⟨_, rfl⟩
      have K9 : Hid (AdS e w h p mb ⟨it, A, cp, none, none, none⟩ mm W9 h9 gh2) := by rw [hW9, hh9, hgh2]; exact K5.out
      have HN2 : Hid (gh2.N it.id = some n) := by rw [hgh2]; exact hN
      have HGL2 : Hid (gh2.gl = gh1.gl) := Lib.hid (by rw [hgh2])
      have HA2 : Hid (gh2.ad = gh1.ad) := Lib.hid (by rw [hgh2])
      have HNN2 : Hid (∀ id n', gh2.N id = some n' → n'.l = [] → id = it.id) := by rw [hgh2]; exact fun id n' h1 h2 => absurd h2 (HRG.out.nn _ _ (by rw [← HN1.out]; exact h1))
      have HNA : Hid (∀ T, Adm gh T → ∀ id n', gh2.N id = some n' → n'.ad ≤ T) := by rw [hgh2]; exact fun T hT id n' h1 => hT.n _ _ (by rw [← HN1.out]; exact h1)
      clear hN hh9 hgh2
      go_upto_region 9 with (fail)
      rw [← hW9]
      clear hW9
      have HEG2 : Hid (gh2.gl = ga ++ g :: gc) := HGL2.out.trans HEG1.out
      have hgm : g ∈ gh1.gl := by rw [HEG1.out]; simp
      have hca := K9.out.msg_a (it := it) HEG2.out HN2.out (by have := HAD1.out.l g hgm; have := HT2.out; omega)
      have hnad : n.ad < 4611686018427387904 := by have := HNA.out T HT.out _ _ HN2.out; have := HT2.out; omega
      have HCA := Lib.hid hca
      have HNAD := Lib.hid hnad
      clear hca hnad hgm
      go_upto_region 10 with (first
        | (go_at_call_of 54 (Value.pointer (some ⟨g.sb, 1, none⟩)); refine HCA.out.mono ?_; rintro en w1 ⟨lb1, h1, rfl, ka⟩; have hcb := ka.msg_b HNAD.out)
        | (go_at_call 54; refine hcb.mono ?_; rintro en2 w2 ⟨nb1, h2, rfl, kb⟩; have hmc := K9.out.msg_c rfl HEG2.out HN2.out ka kb rfl (by rw [HGL2.out]; exact HGN1.out) HNN2.out (by rw [HGL2.out, HBY1.out]; exact HBT.out); (have d9 : w2.cell? ⟨mb, 9, none⟩ = some (.pointer none) := kb.hv.cell hmc.1 9); (have d10 : w2.cell? ⟨mb, 10, none⟩ = some (.pointer none) := kb.hv.cell hmc.1 10); (have d11 : w2.cell? ⟨mb, 11, none⟩ = some (.pointer none) := kb.hv.cell hmc.1 11); (have f9 := kb.hv.frz hmc.1 9); (have f10 := kb.hv.frz hmc.1 10); (have f11 := kb.hv.frz hmc.1 11)))
      obtain ⟨W3, hW3⟩ : ∃ W, W = ((w2.setCell ⟨mb, 9, none⟩ (qptr g.sb)).setCell ⟨mb, 10, none⟩ (qptr lb1)).setCell ⟨mb, 11, none⟩ (qptr nb1) := ⟨_, rfl⟩
      rw [← hW3] at hmc ⊢
      have c7 := hmc.2.1
      have HMC := Lib.hid hmc.2.2
      try dsimp only at c7
      have hb9 : it.m.body.length ≤ 1000000 := by have := HBT.out; omega
      clear hW3 hmc hcb ka kb d9 d10 d11 f9 f10 f11
      go_wp2_with (go_at_call 32; refine HMC.out.mono ?_; rintro en3 w4 ⟨h5, rfl, q5, gr5, fr5⟩)
      go_end0
      exact ⟨h5, _, rfl, q5, HLN1.out gh2 HGL2.out _ _ _, fun T hT => HADF.out T hT gh2 HGL2.out HA2.out (HNA.out T hT) _ _ _ HN2.out, gr5, fr5⟩
    | none =>
      rw [hN] at hl5
      simp only [oV, Option.map_none] at hl5
      have HNO : Hid (gh1.N it.id = none) := hN
      go_region
      rw [← hV5]
      clear hV5 cn4 ci4 hl5 hN
      obtain ⟨W7, hW7⟩ : ∃ W, W = V5.alloc (.cells #[.pointer none, .pointer none, .int .i64 0] 109) := ⟨_, rfl⟩
      obtain ⟨rb, hrb⟩ : ∃ rb, rb = V5.heap.size := ⟨_, rfl⟩
      have HRB : Hid (rb = V5.heap.size) := hrb
      have HW7 : Hid (W7 = V5.alloc (.cells (Ob.cells e (.rw z0)) (Ob.ty (.rw z0)))) := hW7
      have hv7 : Hv e W7 (upd h4 V5.heap.size (.rw z0)) := by rw [HW7.out]; exact K5.out.hv.new _ (fun x hx => by cases hx)
      have hf7 : Fr (fun _ => False) V5 W7 := by rw [hW7]; exact (Fr.refl _ V5).alloc _
      obtain ⟨rq7, hq7⟩ := K5.out.rep.q
      have hq8 := (upd_ne h4 (.rw z0) (fun e9 => by have := K5.out.hv.lt hq7; omega : p ≠ V5.heap.size)).trans hq7
      have hm8 := (upd_ne h4 (.rw z0) (fun e9 => by have := K5.out.hv.lt K5.out.m; omega : mb ≠ V5.heap.size)).trans K5.out.m
      have cn7 : W7.cell? ⟨p, 6, none⟩ = some (.map (some e.nm)) := hv7.cell hq8 6
      have ci7 : W7.cell? ⟨mb, 0, none⟩ = some (.int .i64 it.id) := hv7.cell hm8 0
      have hmp7 := (K5.out.maps hf7 fun _ h _ => h.elim).2.1
      have hfew : Few (nmF gh1) L := fun x hx => HL.out x (by
        intro e9
        refine hx ?_
        unfold nmF at e9 ⊢
        rw [HN1.out]
        exact e9)
      obtain ⟨W9, hput, hm9, ht9⟩ := (hmp7.same (w' := W7.drew) rfl).put (t := 84) Try.underlying84 HID.out (qptr rb) hfew HL2.out
      have hput2 : (Instr.mapUpdate 84 (.map (some e.nm)) (.int .i64 it.id) (qptr rb)).run Try.prog W7.drew = .ok () W9 := hput
      obtain ⟨h9, hh9⟩ : ∃ x, x = upd h4 rb (.rw z0) := ⟨_, rfl⟩
      obtain ⟨gh2, hgh2⟩ : ∃ x, x = numG gh1 it.id rb := ⟨_, rfl⟩
      have K9 : Hid (AdS e w h p mb ⟨it, A, cp, none, none, none⟩ mm W9 h9 gh2) := by
        rw [hh9, hgh2, HRB.out]
        exact K5.out.num2 HNO.out HW7.out (by rw [← HRB.out]; exact hm9) ht9
      obtain ⟨n, hn0⟩ : ∃ n : NR, n = ⟨rb, 0, []⟩ := ⟨_, rfl⟩
      have HN2 : Hid (gh2.N it.id = some n) := by rw [hgh2, hn0]; exact if_pos rfl
      have HGL2 : Hid (gh2.gl = gh1.gl) := by rw [hgh2]; rfl
      have HA2 : Hid (gh2.ad = gh1.ad) := by rw [hgh2]; rfl
      have hnk : ∀ id n', gh2.N id = some n' → id = it.id ∧ n' = ⟨rb, 0, []⟩ ∨ gh.N id = some n' := fun id n' h1 => by
        rw [hgh2] at h1
        have h2 : (if id = it.id then some (⟨rb, 0, []⟩ : NR) else gh1.N id) = some n' := h1
        split at h2
        · rename_i e9
          injection h2 with h2
          exact .inl ⟨e9, h2.symm⟩
        · exact .inr (by rw [← HN1.out]; exact h2)
      have HNN2 : Hid (∀ id n', gh2.N id = some n' → n'.l = [] → id = it.id) := fun id n' h1 h2 => by
        rcases hnk id n' h1 with h9 | h9
        · exact h9.1
        · exact absurd h2 (HRG.out.nn _ _ h9)
      have HNA : Hid (∀ T, Adm gh T → ∀ id n', gh2.N id = some n' → n'.ad ≤ T) := fun T hT id n' h1 => by
        rcases hnk id n' h1 with h9 | h9
        · rw [h9.2]; exact Nat.zero_le _
        · exact hT.n _ _ h9
      have hnb : n.rb = rb := by rw [hn0]
      clear hh9 hgh2 hn0 hnk hput hm9 ht9 hfew hmp7 hv7 hf7 hq7 hq8 hm8
      go_upto_region 8 with (fail)
      rw [← hW7, ← hrb]
      clear hW7 hrb
      go_region
      clear cn7 ci7 hput2
      rw [← hnb]
      clear hnb
      go_upto_region 9 with (fail)
      have HEG2 : Hid (gh2.gl = ga ++ g :: gc) := HGL2.out.trans HEG1.out
      have hgm : g ∈ gh1.gl := by rw [HEG1.out]; simp
      have hca := K9.out.msg_a (it := it) HEG2.out HN2.out (by have := HAD1.out.l g hgm; have := HT2.out; omega)
      have hnad : n.ad < 4611686018427387904 := by have := HNA.out T HT.out _ _ HN2.out; have := HT2.out; omega
      have HCA := Lib.hid hca
      have HNAD := Lib.hid hnad
      clear hca hnad hgm
      go_upto_region 10 with (first
        | (go_at_call_of 54 (Value.pointer (some ⟨g.sb, 1, none⟩)); refine HCA.out.mono ?_; rintro en w1 ⟨lb1, h1, rfl, ka⟩; have hcb := ka.msg_b HNAD.out)
        | (go_at_call 54; refine hcb.mono ?_; rintro en2 w2 ⟨nb1, h2, rfl, kb⟩; have hmc := K9.out.msg_c rfl HEG2.out HN2.out ka kb rfl (by rw [HGL2.out]; exact HGN1.out) HNN2.out (by rw [HGL2.out, HBY1.out]; exact HBT.out); (have d9 : w2.cell? ⟨mb, 9, none⟩ = some (.pointer none) := kb.hv.cell hmc.1 9); (have d10 : w2.cell? ⟨mb, 10, none⟩ = some (.pointer none) := kb.hv.cell hmc.1 10); (have d11 : w2.cell? ⟨mb, 11, none⟩ = some (.pointer none) := kb.hv.cell hmc.1 11); (have f9 := kb.hv.frz hmc.1 9); (have f10 := kb.hv.frz hmc.1 10); (have f11 := kb.hv.frz hmc.1 11)))
      obtain ⟨W3, hW3⟩ : ∃ W, W = ((w2.setCell ⟨mb, 9, none⟩ (qptr g.sb)).setCell ⟨mb, 10, none⟩ (qptr lb1)).setCell ⟨mb, 11, none⟩ (qptr nb1) := ⟨_, rfl⟩
      rw [← hW3] at hmc ⊢
      have c7 := hmc.2.1
      have HMC := Lib.hid hmc.2.2
      try dsimp only at c7
      have hb9 : it.m.body.length ≤ 1000000 := by have := HBT.out; omega
      clear hW3 hmc hcb ka kb d9 d10 d11 f9 f10 f11
      go_wp2_with (go_at_call 32; refine HMC.out.mono ?_; rintro en3 w4 ⟨h5, rfl, q5, gr5, fr5⟩)
      go_end0
      exact ⟨h5, _, rfl, q5, HLN1.out gh2 HGL2.out _ _ _, fun T hT => HADF.out T hT gh2 HGL2.out HA2.out (HNA.out T hT) _ _ _ HN2.out, gr5, fr5⟩
  | none =>
    rw [hsm] at hl1
    simp only [oV] at hl1
    go_upto_region 0 with (fail)
    go_region
    rw [← hV0]
    clear hV0 cq cs hl1
    have HSM : Hid (gh.sm it.m.st = none) := hsm
    obtain ⟨h1, hv1, eh1, hadd⟩ := K1.out.line1 (st := it.m.st) (by have := HT.out.q; have := HT2.out; omega)
    obtain ⟨W1, hW1⟩ : ∃ W, W = V0.alloc (.cells #[.int .i64 0, .pointer none, .pointer none, .int .i64 0, .pointer none] 111) := ⟨_, rfl⟩
    have hadd' : Hid (Calls Try.prog 53 #[.pointer (some ⟨p, 3, none⟩), qptr V0.heap.size] W1 fun en w' => ∃ lb h2, en = .returned (qptr lb) ∧ Hv e w' h2 ∧ Fr (HG h) V0 w' ∧ Grow h h2 V0.heap.size ∧ h2 V0.heap.size = some (.st 0 z0 none) ∧ w.heap.size ≤ V0.heap.size ∧ (∀ sm, RepH (upd h2 V0.heap.size (.st 0 z0 (some lb))) p { gh with gl := gh.gl ++ [⟨it.m.st, V0.heap.size, lb, gh.ad, 0, []⟩], ad := gh.ad + 1, sm := sm }) ∧ h2 mb = some (.ms ⟨it, A, cp, none, none, none⟩)) := by rw [hW1]; exact hadd
    clear hadd hv1 eh1 hsm
    obtain ⟨sb, hsb⟩ : ∃ sb, sb = V0.heap.size := ⟨_, rfl⟩
    have HSB : Hid (sb = V0.heap.size) := hsb
    rw [← hsb] at hadd'
    go_upto_region 3 with (fail)
    rw [← hW1, ← hsb]
    clear hW1 hsb
    go_upto_region 4 with (go_at_call 53; refine hadd'.out.mono ?_; rintro en w2 ⟨lb, h2, rfl, hv2, hf2, gr2, hs2, hB2, rep2, hm2⟩; (have cs2 : w2.cell? ⟨sb, 4, none⟩ = some (.pointer none) := hv2.cell hs2 4); have fs2 := hv2.frz hs2 4)
    obtain ⟨W3, hW3⟩ : ∃ W, W = w2.setCell ⟨sb, 4, none⟩ (qptr lb) := ⟨_, rfl⟩
    rw [← hW3]
    have hv3 : Hv e W3 (upd h2 sb (.st 0 z0 (some lb))) := by rw [hW3]; exact hv2.set hs2 rfl rfl (fun x hx => by cases hx)
    obtain ⟨rq3, hq3⟩ := (rep2 gh.sm).q
    have cq3 : W3.cell? ⟨p, 2, none⟩ = some (.map (some e.sm)) := hv3.cell hq3 2
    have hm3 : upd h2 sb (.st 0 z0 (some lb)) mb = some (.ms ⟨it, A, cp, none, none, none⟩) := (upd_ne _ _ (fun e => by rw [e, hs2] at hm2; cases hm2)).trans hm2
    have cm3 : W3.cell? ⟨mb, 3, none⟩ = some (.int .u16 (it.m.st : Int)) := hv3.cell hm3 3
    have hf3 : Fr (fun i => i = sb) w2 W3 := by rw [hW3]; exact fr_set _
    have hmp3 := (K1.out.maps (hf2.trans hf3 fun i hi hx => by have : i = sb := hx; have := HSB.out; omega) fun _ h _ => h).1
    obtain ⟨W4, hput, hm4, ht4⟩ := hmp3.drew.put (t := 83) Try.underlying83 (show u16X.dom it.m.st from HST.out) (qptr sb)
    have hput2 : (Instr.mapUpdate 83 (.map (some e.sm)) (.int .u16 (it.m.st : Int)) (qptr sb)).run Try.prog W3.drew = .ok () W4 := hput
    obtain ⟨h4, hh4⟩ : ∃ x, x = upd h2 sb (.st 0 z0 (some lb)) := ⟨_, rfl⟩
    obtain ⟨gh1, hgh1⟩ : ∃ x, x = lineG gh it.m.st sb lb := ⟨_, rfl⟩
    have K4 : Hid (AdS e w h p mb ⟨it, A, cp, none, none, none⟩ mm W4 h4 gh1) := by
      have := K1.out.line2 (st := it.m.st) (lb := lb) (W2 := w2) (W3 := W3) (W4 := W4) (h2 := h2) HSM.out hv2 hf2
      rw [← HSB.out] at this
      rw [hh4, hgh1]
      exact this gr2 hs2 hB2 rep2 hm2 hW3 hm4 ht4
    obtain ⟨g, hg0⟩ : ∃ g : GL, g = ⟨it.m.st, sb, lb, gh.ad, 0, []⟩ := ⟨_, rfl⟩
    obtain ⟨ga, hga⟩ : ∃ ga : List GL, ga = gh.gl := ⟨_, rfl⟩
    obtain ⟨gc, hgc⟩ : ∃ gc : List GL, gc = [] := ⟨_, rfl⟩
    have HEG1 : Hid (gh1.gl = ga ++ g :: gc) := by rw [hgh1, hg0, hga, hgc]; rfl
    have HGN1 : Hid (∀ g' ∈ gh1.gl, g'.ms = [] → g' = g) := fun g' h1 h2 => by
      rw [HEG1.out, hga, hgc] at h1
      rcases List.mem_append.1 h1 with h9 | h9
      · exact absurd h2 (HRG.out.ne g' h9)
      · exact List.mem_singleton.1 h9
    have HN1 : Hid (∀ id, gh1.N id = gh.N id) := by rw [hgh1]; exact fun _ => rfl
    have HAD1 : Hid (Adm gh1 (T + 1)) := by
      rw [hgh1]
      refine ⟨Nat.succ_le_succ HT.out.q, fun g' h9 => ?_, fun i n h => Nat.le_succ_of_le (HT.out.n i n h)⟩
      rcases List.mem_append.1 (show g' ∈ gh.gl ++ [(⟨it.m.st, sb, lb, gh.ad, 0, []⟩ : GL)] from h9) with h8 | h8
      · exact Nat.le_succ_of_le (HT.out.l g' h8)
      · rw [List.mem_singleton.1 h8]; exact Nat.zero_le _
    have HBY1 : Hid (bytesG gh1.gl = bytesG gh.gl) := by
      rw [HEG1.out, hga, hgc, hg0, bytesG_app]
      rfl
    have HLN1 : Hid (∀ gh2 : Gh, gh2.gl = gh1.gl → ∀ nb lb', ∀ n : NR, lns (msgG gh2 ga gc g ⟨it, mb, lb', g.ad, nb, A, cp⟩ n) = addL it (lns gh)) := fun gh2 e9 nb lb' n => by
      have hno : it.m.st ∉ (lns gh).map (·.1) := fun h9 => by
        unfold lns at h9
        rw [List.map_map] at h9
        obtain ⟨g', h1, h2⟩ := List.mem_map.1 h9
        have h3 := HRG.out.sm1 g' h1
        rw [show g'.st = it.m.st from h2, HSM.out] at h3
        cases h3
      rw [addL_new it hno, hga, hgc, hg0]
      show (gh.gl ++ [(⟨it.m.st, sb, lb, gh.ad, 0 + 1, [] ++ [⟨it, mb, lb', 0, nb, A, cp⟩]⟩ : GL)]).map _ = _
      rw [List.map_append]
      rfl
    have HADF : Hid (∀ T, Adm gh T → ∀ gh2 : Gh, gh2.gl = gh1.gl → gh2.ad = gh1.ad → (∀ id n', gh2.N id = some n' → n'.ad ≤ T) → ∀ nb lb', ∀ n : NR, gh2.N it.id = some n → Adm (msgG gh2 ga gc g ⟨it, mb, lb', g.ad, nb, A, cp⟩ n) (T + 1)) := fun T hT gh2 e1 e2 e3 nb lb' n e4 => by
      rw [HEG1.out, hga, hgc] at e1
      rw [hgh1] at e2
      rw [hga, hgc]
      refine ⟨?_, fun g2 h2 => ?_, fun id n' h2 => ?_⟩
      · show gh2.ad ≤ T + 1
        rw [e2]
        exact Nat.succ_le_succ hT.q
      · rcases List.mem_append.1 (show g2 ∈ gh.gl ++ [{ g with ms := g.ms ++ [⟨it, mb, lb', g.ad, nb, A, cp⟩], ad := g.ad + 1 }] from h2) with h9 | h9
        · exact Nat.le_succ_of_le (hT.l g2 h9)
        · rw [List.mem_singleton.1 h9, hg0]
          exact Nat.succ_le_succ (Nat.zero_le _)
      · have h2' : (if id = it.id then some (⟨n.rb, n.ad + 1, n.l ++ [⟨nb, mb, n.ad⟩]⟩ : NR) else gh2.N id) = some n' := h2
        split at h2'
        · injection h2' with h2'
          rw [← h2']
          exact Nat.succ_le_succ (e3 _ _ e4)
        · exact Nat.le_succ_of_le (e3 _ _ h2')
    have hgb : g.sb = sb := by rw [hg0]
    clear hg0 hga hgc hgh1 hh4 hW3 hv2 hf2 gr2 hs2 hB2 rep2 hm2 hv3 hq3 hm3 hf3 hmp3 hput hm4 ht4
    go_region
    clear cq3 cm3 hput2
    rw [← hgb]
    clear hgb
    go_upto_region 5 with (fail)
    obtain ⟨rq4, hq4⟩ := K4.out.rep.q
    have cn4 : W4.cell? ⟨p, 6, none⟩ = some (.map (some e.nm)) := K4.out.hv.cell hq4 6
    have ci4 : W4.cell? ⟨mb, 0, none⟩ = some (.int .i64 it.id) := K4.out.hv.cell K4.out.m 0
    have hl5 := nm_look2 K4.out.nm HID.out W4.drew rfl
    obtain ⟨V5, hV5⟩ : ∃ V, V = W4.drew := ⟨_, rfl⟩
    have K5 : Hid (AdS e w h p mb ⟨it, A, cp, none, none, none⟩ mm V5 h4 gh1) := by rw [hV5]; exact K4.out.drew
    clear hq4
    cases hN : gh1.N it.id with
    | some n =>
      rw [hN] at hl5
      simp only [oV, Option.map_some] at hl5
      go_region
      rw [← hV5]
      clear hV5 cn4 ci4 hl5
      obtain ⟨W9, hW9⟩ : ∃ W, W = V5 := ⟨_, rfl⟩
      obtain ⟨h9, hh9⟩ : ∃ x, x = h4 := ⟨_, rfl⟩
      obtain ⟨gh2, hgh2⟩ : ∃ x, x = gh1 := ⟨_, rfl⟩
      have K9 : Hid (AdS e w h p mb ⟨it, A, cp, none, none, none⟩ mm W9 h9 gh2) := by rw [hW9, hh9, hgh2]; exact K5.out
      have HN2 : Hid (gh2.N it.id = some n) := by rw [hgh2]; exact hN
      have HGL2 : Hid (gh2.gl = gh1.gl) := Lib.hid (by rw [hgh2])
      have HA2 : Hid (gh2.ad = gh1.ad) := Lib.hid (by rw [hgh2])
      have HNN2 : Hid (∀ id n', gh2.N id = some n' → n'.l = [] → id = it.id) := by rw [hgh2]; exact fun id n' h1 h2 => absurd h2 (HRG.out.nn _ _ (by rw [← HN1.out]; exact h1))
      have HNA : Hid (∀ T, Adm gh T → ∀ id n', gh2.N id = some n' → n'.ad ≤ T) := by rw [hgh2]; exact fun T hT id n' h1 => hT.n _ _ (by rw [← HN1.out]; exact h1)
      clear hN hh9 hgh2
      go_upto_region 9 with (fail)
      rw [← hW9]
      clear hW9
      have HEG2 : Hid (gh2.gl = ga ++ g :: gc) := HGL2.out.trans HEG1.out
      have hgm : g ∈ gh1.gl := by rw [HEG1.out]; simp
      have hca := K9.out.msg_a (it := it) HEG2.out HN2.out (by have := HAD1.out.l g hgm; have := HT2.out; omega)
      have hnad : n.ad < 4611686018427387904 := by have := HNA.out T HT.out _ _ HN2.out; have := HT2.out; omega
      have HCA := Lib.hid hca
      have HNAD := Lib.hid hnad
      clear hca hnad hgm
      go_upto_region 10 with (first
        | (go_at_call_of 54 (Value.pointer (some ⟨g.sb, 1, none⟩)); refine HCA.out.mono ?_; rintro en w1 ⟨lb1, h1, rfl, ka⟩; have hcb := ka.msg_b HNAD.out)
        | (go_at_call 54; refine hcb.mono ?_; rintro en2 w2 ⟨nb1, h2, rfl, kb⟩; have hmc := K9.out.msg_c rfl HEG2.out HN2.out ka kb rfl (by rw [HGL2.out]; exact HGN1.out) HNN2.out (by rw [HGL2.out, HBY1.out]; exact HBT.out); (have d9 : w2.cell? ⟨mb, 9, none⟩ = some (.pointer none) := kb.hv.cell hmc.1 9); (have d10 : w2.cell? ⟨mb, 10, none⟩ = some (.pointer none) := kb.hv.cell hmc.1 10); (have d11 : w2.cell? ⟨mb, 11, none⟩ = some (.pointer none) := kb.hv.cell hmc.1 11); (have f9 := kb.hv.frz hmc.1 9); (have f10 := kb.hv.frz hmc.1 10); (have f11 := kb.hv.frz hmc.1 11)))
      obtain ⟨W3, hW3⟩ : ∃ W, W = ((w2.setCell ⟨mb, 9, none⟩ (qptr g.sb)).setCell ⟨mb, 10, none⟩ (qptr lb1)).setCell ⟨mb, 11, none⟩ (qptr nb1) := ⟨_, rfl⟩
      rw [← hW3] at hmc ⊢
      have c7 := hmc.2.1
      have HMC := Lib.hid hmc.2.2
      try dsimp only at c7
      have hb9 : it.m.body.length ≤ 1000000 := by have := HBT.out; omega
      clear hW3 hmc hcb ka kb d9 d10 d11 f9 f10 f11
      go_wp2_with (go_at_call 32; refine HMC.out.mono ?_; rintro en3 w4 ⟨h5, rfl, q5, gr5, fr5⟩)
      go_end0
      exact ⟨h5, _, rfl, q5, HLN1.out gh2 HGL2.out _ _ _, fun T hT => HADF.out T hT gh2 HGL2.out HA2.out (HNA.out T hT) _ _ _ HN2.out, gr5, fr5⟩
    | none =>
      rw [hN] at hl5
      simp only [oV, Option.map_none] at hl5
      have HNO : Hid (gh1.N it.id = none) := hN
      go_region
      rw [← hV5]
      clear hV5 cn4 ci4 hl5 hN
      obtain ⟨W7, hW7⟩ : ∃ W, W = V5.alloc (.cells #[.pointer none, .pointer none, .int .i64 0] 109) := ⟨_, rfl⟩
      obtain ⟨rb, hrb⟩ : ∃ rb, rb = V5.heap.size := ⟨_, rfl⟩
      have HRB : Hid (rb = V5.heap.size) := hrb
      have HW7 : Hid (W7 = V5.alloc (.cells (Ob.cells e (.rw z0)) (Ob.ty (.rw z0)))) := hW7
      have hv7 : Hv e W7 (upd h4 V5.heap.size (.rw z0)) := by rw [HW7.out]; exact K5.out.hv.new _ (fun x hx => by cases hx)
      have hf7 : Fr (fun _ => False) V5 W7 := by rw [hW7]; exact (Fr.refl _ V5).alloc _
      obtain ⟨rq7, hq7⟩ := K5.out.rep.q
      have hq8 := (upd_ne h4 (.rw z0) (fun e9 => by have := K5.out.hv.lt hq7; omega : p ≠ V5.heap.size)).trans hq7
      have hm8 := (upd_ne h4 (.rw z0) (fun e9 => by have := K5.out.hv.lt K5.out.m; omega : mb ≠ V5.heap.size)).trans K5.out.m
      have cn7 : W7.cell? ⟨p, 6, none⟩ = some (.map (some e.nm)) := hv7.cell hq8 6
      have ci7 : W7.cell? ⟨mb, 0, none⟩ = some (.int .i64 it.id) := hv7.cell hm8 0
      have hmp7 := (K5.out.maps hf7 fun _ h _ => h.elim).2.1
      have hfew : Few (nmF gh1) L := fun x hx => HL.out x (by
        intro e9
        refine hx ?_
        unfold nmF at e9 ⊢
        rw [HN1.out]
        exact e9)
      obtain ⟨W9, hput, hm9, ht9⟩ := (hmp7.same (w' := W7.drew) rfl).put (t := 84) Try.underlying84 HID.out (qptr rb) hfew HL2.out
      have hput2 : (Instr.mapUpdate 84 (.map (some e.nm)) (.int .i64 it.id) (qptr rb)).run Try.prog W7.drew = .ok () W9 := hput
      obtain ⟨h9, hh9⟩ : ∃ x, x = upd h4 rb (.rw z0) := ⟨_, rfl⟩
      obtain ⟨gh2, hgh2⟩ : ∃ x, x = numG gh1 it.id rb := ⟨_, rfl⟩
      have K9 : Hid (AdS e w h p mb ⟨it, A, cp, none, none, none⟩ mm W9 h9 gh2) := by
        rw [hh9, hgh2, HRB.out]
        exact K5.out.num2 HNO.out HW7.out (by rw [← HRB.out]; exact hm9) ht9
      obtain ⟨n, hn0⟩ : ∃ n : NR, n = ⟨rb, 0, []⟩ := ⟨_, rfl⟩
      have HN2 : Hid (gh2.N it.id = some n) := by rw [hgh2, hn0]; exact if_pos rfl
      have HGL2 : Hid (gh2.gl = gh1.gl) := by rw [hgh2]; rfl
      have HA2 : Hid (gh2.ad = gh1.ad) := by rw [hgh2]; rfl
      have hnk : ∀ id n', gh2.N id = some n' → id = it.id ∧ n' = ⟨rb, 0, []⟩ ∨ gh.N id = some n' := fun id n' h1 => by
        rw [hgh2] at h1
        have h2 : (if id = it.id then some (⟨rb, 0, []⟩ : NR) else gh1.N id) = some n' := h1
        split at h2
        · rename_i e9
          injection h2 with h2
          exact .inl ⟨e9, h2.symm⟩
        · exact .inr (by rw [← HN1.out]; exact h2)
      have HNN2 : Hid (∀ id n', gh2.N id = some n' → n'.l = [] → id = it.id) := fun id n' h1 h2 => by
        rcases hnk id n' h1 with h9 | h9
        · exact h9.1
        · exact absurd h2 (HRG.out.nn _ _ h9)
      have HNA : Hid (∀ T, Adm gh T → ∀ id n', gh2.N id = some n' → n'.ad ≤ T) := fun T hT id n' h1 => by
        rcases hnk id n' h1 with h9 | h9
        · rw [h9.2]; exact Nat.zero_le _
        · exact hT.n _ _ h9
      have hnb : n.rb = rb := by rw [hn0]
      clear hh9 hgh2 hn0 hnk hput hm9 ht9 hfew hmp7 hv7 hf7 hq7 hq8 hm8
      go_upto_region 8 with (fail)
      rw [← hW7, ← hrb]
      clear hW7 hrb
      go_region
      clear cn7 ci7 hput2
      rw [← hnb]
      clear hnb
      go_upto_region 9 with (fail)
      have HEG2 : Hid (gh2.gl = ga ++ g :: gc) := HGL2.out.trans HEG1.out
      have hgm : g ∈ gh1.gl := by rw [HEG1.out]; simp
      have hca := K9.out.msg_a (it := it) HEG2.out HN2.out (by have := HAD1.out.l g hgm; have := HT2.out; omega)
      have hnad : n.ad < 4611686018427387904 := by have := HNA.out T HT.out _ _ HN2.out; have := HT2.out; omega
      have HCA := Lib.hid hca
      have HNAD := Lib.hid hnad
      clear hca hnad hgm
      go_upto_region 10 with (first
        | (go_at_call_of 54 (Value.pointer (some ⟨g.sb, 1, none⟩)); refine HCA.out.mono ?_; rintro en w1 ⟨lb1, h1, rfl, ka⟩; have hcb := ka.msg_b HNAD.out)
        | (go_at_call 54; refine hcb.mono ?_; rintro en2 w2 ⟨nb1, h2, rfl, kb⟩; have hmc := K9.out.msg_c rfl HEG2.out HN2.out ka kb rfl (by rw [HGL2.out]; exact HGN1.out) HNN2.out (by rw [HGL2.out, HBY1.out]; exact HBT.out); (have d9 : w2.cell? ⟨mb, 9, none⟩ = some (.pointer none) := kb.hv.cell hmc.1 9); (have d10 : w2.cell? ⟨mb, 10, none⟩ = some (.pointer none) := kb.hv.cell hmc.1 10); (have d11 : w2.cell? ⟨mb, 11, none⟩ = some (.pointer none) := kb.hv.cell hmc.1 11); (have f9 := kb.hv.frz hmc.1 9); (have f10 := kb.hv.frz hmc.1 10); (have f11 := kb.hv.frz hmc.1 11)))
      obtain ⟨W3, hW3⟩ : ∃ W, W = ((w2.setCell ⟨mb, 9, none⟩ (qptr g.sb)).setCell ⟨mb, 10, none⟩ (qptr lb1)).setCell ⟨mb, 11, none⟩ (qptr nb1) := ⟨_, rfl⟩
      rw [← hW3] at hmc ⊢
      have c7 := hmc.2.1
      have HMC := Lib.hid hmc.2.2
      try dsimp only at c7
      have hb9 : it.m.body.length ≤ 1000000 := by have := HBT.out; omega
      clear hW3 hmc hcb ka kb d9 d10 d11 f9 f10 f11
      go_wp2_with (go_at_call 32; refine HMC.out.mono ?_; rintro en3 w4 ⟨h5, rfl, q5, gr5, fr5⟩)
      go_end0
      exact ⟨h5, _, rfl, q5, HLN1.out gh2 HGL2.out _ _ _, fun T hT => HADF.out T hT gh2 HGL2.out HA2.out (HNA.out T hT) _ _ _ HN2.out, gr5, fr5⟩
end
end Go.Proofs.Ytkjlmibjpfmfnaa.Sc

set_option linter.unusedVariables false
set_option linter.unusedSimpArgs false
set_option maxRecDepth 20000
namespace Go.Proofs.Ytkjlmibjpfmfnaa.Sc
open Go.ChangeShapes Go.WideShapes Go.ChangeAt Go.RowKit Go.Deep Go.Maps Go.Proofs.Ytkjlmibjpfmfnaa.Words Go.Proofs.Ytkjlmibjpfmfnaa.Oct Go.Proofs.Ytkjlmibjpfmfnaa.Par Go.Proofs.Ytkjlmibjpfmfnaa.Chk Go.Proofs.Ytkjlmibjpfmfnaa.Mx Go.Proofs.Ytkjlmibjpfmfnaa.Fl
section
variable {e : Ev} {w w' W W' : World} {h h' : Hp} {p mb T : Nat} {x0 : Me} {mm : Ln → Option Nat} {gh : Gh} {A : Option Addr} {n cp : Nat} {id lk : Int} {ln : Nat} {m : Msg}
set_option maxHeartbeats 1000000 in
theorem bclone_big (A : Option Addr) (l : List UInt8) (n c : Nat) (w : World) (hn : n = l.length) (hl : n ≤ 2000000000) (h : Byt w w.heap.size A l) :
    Calls Try.prog 26 #[.slice A n c] w fun e w' => (∃ v, e = .returned v ∧ Go.Proofs.Ytkjlmibjpfmfnaa.Words.Own w' w.heap.size v l) ∧ Below w.heap.size w w' := by
  obtain ⟨i0, hi0, hz0, hz1, hz2⟩ := info_parts3 u8_info
  have hnil := fun (W : World) (a : Option Addr) (n c : Nat) => Lib.run_eql_slice_nil (P := Try.prog) W 36 5 a n c 0 0 Try.underlying36
  rcases A with _ | ad
  · have h0 : l = [] := by
      rcases Nat.eq_zero_or_pos l.length with h0 | h0
      · exact List.eq_nil_of_length_eq_zero h0
      · obtain ⟨ad, e, _⟩ := h.2 h0; cases e
    subst h0
    go_enter Try.func26, Try.ntmps26
    go_wp2
    go_ret
    exact ⟨⟨_, rfl, World.ownsRow_nil _ _ _ _⟩, Below.refl _ _⟩
  · have HB := Lib.hid h
    have HN := Lib.hid hn
    clear h hn
    go_enter Try.func26, Try.ntmps26
    go_wp2_with (at_builtin; refine wpList_append_any _ rfl (.tmp 5) (.tmp 6) _ rfl w.heap.size 5 i0 _ 1 1 Try.underlying36 hi0 hz0 hz1 hz2 rfl (by omega) (.slice (some ⟨w.heap.size, 0, none⟩) 0 0) 0 [] rfl (own_empty w _) w.heap.size (some ad) n c (u8s l) rfl (by have := HB.out; unfold Byt at this; rw [← HN.out] at this; exact this.alloc (Nat.le_refl _) _) (u8s_one l) (by simp only [maxLen]; omega) (by omega) (by simp) ?_; intro v1 w1 hown1 hg1 hat1)
    go_ret
    refine ⟨⟨v1, rfl, ?_⟩, ?_⟩
    · simp only [Nat.zero_add, List.nil_append] at hown1
      unfold Go.Proofs.Ytkjlmibjpfmfnaa.Words.Own
      rw [← HN.out]
      exact hown1
    · exact ((Below.refl _ _).alloc (Nat.le_refl _) _).grown hg1 (by simp) (fun b e => by simp [Value.ownBlock] at e; omega)
theorem RepH.fresh {b : Nat} (k : RepH h p gh) (hb : h b = none) (o : Ob) : RepH (upd h b o) p gh := by
  have f : Off (fun y => y = b) h (upd h b o) := Off.upd _ _ _
  have P : ∀ y, y = b → Plain h y := fun y e s own th pl bf af e9 => by rw [e, hb] at e9; cases e9
  obtain ⟨rq, hq⟩ := k.q
  have hne : ∀ {y o}, h y = some o → y ≠ b := fun h1 e => by rw [e, hb] at h1; cases h1
  refine ⟨⟨rq, f.at_ hq rfl (hne hq)⟩, k.turns.off f P (hne hq), fun g2 h2 => ?_, fun id' n' hn' => ?_⟩
  · obtain ⟨r, h7⟩ := (k.line g2 h2).ob
    exact k.line_off h2 f P (hne h7) (fun y e x0 h9 => by rw [show y = b from e, hb] at h9; cases h9)
  · obtain ⟨⟨r, h8⟩, _⟩ := k.num _ _ hn'
    exact k.num_off hn' f P (hne h8)
/-- A message that is made. -/
theorem QM.msg (k : QM e W h p gh mm) (x0 : Me) (hb : BodA W x0.A x0.cp x0.it.m.body) : QM e (W.alloc (.cells x0.cells 97)) (upd h W.heap.size (.ms x0)) p gh mm := by
  have hf : Fr (fun _ => False) W (W.alloc (.cells x0.cells 97)) := (Fr.refl _ W).alloc _
  obtain ⟨m1, m2, m3⟩ := k.maps hf fun _ h _ => h.elim
  exact ⟨k.hv.new (.ms x0) (fun x hx => by injection hx with hx; subst hx; exact hb), k.rep.fresh (k.hv.none_ (Nat.le_refl _)) _, k.g, m1, m2, m3, k.ne⟩
theorem bodA_own {B : Nat} {l : List UInt8} (h : Go.Proofs.Ytkjlmibjpfmfnaa.Words.Own w B (.slice A n cp) l) (hn : n = l.length) : BodA w A cp l := by
  obtain ⟨A', c', he, h1, h2⟩ := own_slice h
  injection he with e1 e2 e3
  subst e1 e3
  exact ⟨h.byt, fun ad e => kd_own h (by rw [e]; rfl), h1, h2⟩
def pushN (gh : Gh) (m : Msg) : Nat := if m.body.length = 0 then 42 else if 65536 < m.body.length then 43 else if 262144 < bytesG gh.gl + m.body.length then 170 else 0
def PushD (e : Ev) (w : World) (h : Hp) (p : Nat) (gh : Gh) (mm : Ln → Option Nat) (id lk : Int) (ln : Nat) (m : Msg) (en : Ending) (w' : World) : Prop :=
  en = .returned (.int .i64 (pushN gh m : Int)) ∧ (pushN gh m ≠ 0 → Below w.heap.size w w') ∧ (pushN gh m = 0 → ∃ h' gh', QM e w' h' p gh' mm ∧ lns gh' = addL (newI id lk ln m) (lns gh) ∧ (∀ T, Adm gh T → Adm gh' (T + 1)) ∧ Grow h h' w.heap.size ∧ Fr (QG e h) w w')
theorem lim_sz : (Try.prog.info? 34).map (·.size) = some 2 := by kernel_rfl
theorem msg_sz : (Try.prog.info? 38).map (·.size) = some 5 := by kernel_rfl
set_option maxHeartbeats 16000000 in
theorem push_s (k : QM e w h p gh mm) (hT : Adm gh T) (hT2 : T < 4611686018427387900) (hall : bytesG gh.gl ≤ 262144) {L : List Int} (hL : Few (nmF gh) L) (hL2 : L.length ≤ 1073741824) (hid : i64ok id) (hlk : i64B lk) (hln : ln < 4294967296) (hok : m.ok) (hn : n = m.body.length) (hcp : n ≤ cp) (hc63 : cp ≤ 9223372036854775807) (hy : Byt w w.heap.size A m.body) :
    Calls Try.prog 10 #[qptr p, .int .i64 id, limV lk ln, .agg (mCells m (.slice A n cp))] w (PushD e w h p gh mm id lk ln m) := by
  obtain ⟨rq, hq⟩ := k.rep.q
  have st1 := hok.st
  have mid1 := hok.mid
  have pp1 := hok.pp
  obtain ⟨W2, hW2⟩ : ∃ W, W = (w.alloc (.cells #[.int .i64 lk, .int .u32 (ln : Int)] 34)).alloc (.cells (mCells m (.slice A n cp)) 38) := ⟨_, rfl⟩
  have hb2 : Below w.heap.size w W2 := by rw [hW2]; exact ((Below.refl _ w).alloc (Nat.le_refl _) _).alloc (by rw [World.size_alloc]; omega) _
  have kl : Blk W2 w.heap.size 34 #[.int .i64 lk, .int .u32 (ln : Int)] := by
    rw [hW2]
    exact (Blk.new w _ _).alloc _
  obtain ⟨gm, hgm⟩ : ∃ gm, gm = (w.alloc (.cells #[.int .i64 lk, .int .u32 (ln : Int)] 34)).heap.size := ⟨_, rfl⟩
  have hgm1 : gm = w.heap.size + 1 := by rw [hgm]; exact World.size_alloc _ _
  have hgm1' : gm = w.heap.size + 1 := hgm1
  have km : Blk W2 gm 38 (mCells m (.slice A n cp)) := by
    rw [hW2, hgm]
    exact Blk.new _ _ _
  obtain ⟨gl, hgl⟩ : ∃ gl, gl = w.heap.size := ⟨_, rfl⟩
  rw [← hgl] at kl
  have K2 : Hid (QM e W2 h p gh mm) := k.grows hb2
  have KQG : Hid (∀ i, QG e h i → i < w.heap.size) := fun i hi => k.lt hi
  have KQ := Lib.hid hq
  have HB2 := Lib.hid hb2
  have KL := Lib.hid kl
  have KM := Lib.hid km
  have HGM : Hid (gm = w.heap.size + 1) := hgm1
  have HGL : Hid (gl = w.heap.size) := hgl
  have HY : Hid (Byt W2 W2.heap.size A m.body) := (hy.below hb2).more hb2.size
  have HT := Lib.hid hT
  have HT2 := Lib.hid hT2
  have HALL := Lib.hid hall
  have HL := Lib.hid hL
  have HL2 := Lib.hid hL2
  have HID := Lib.hid hid
  have HOK := Lib.hid hok
  have HN := Lib.hid hn
  have HPN : Hid (pushN gh m = if n = 0 then 42 else if 65536 < n then 43 else if 262144 < bytesG gh.gl + n then 170 else 0) := by
    have : pushN gh m = if m.body.length = 0 then 42 else if 65536 < m.body.length then 43 else if 262144 < bytesG gh.gl + m.body.length then 170 else 0 := rfl
    rw [hn]; exact this
  have c4 : W2.cell? ⟨gm, 4, none⟩ = some (.slice A n cp) := km.cell 4
  have cb : W2.cell? ⟨p, 1, none⟩ = some (.int .i64 (bytesG gh.gl : Int)) := K2.out.hv.cell hq 1
  obtain ⟨bq, hbq⟩ : ∃ bq, bq = bytesG gh.gl := ⟨_, rfl⟩
  have HBQ : Hid (bq = bytesG gh.gl) := hbq
  rw [← hbq] at cb hall
  clear k hq hb2 kl km hy hT hT2 hL hL2 hid hok hn hgm1 hbq
  simp only [mCells] at hW2
  go_enter Try.func10, Try.ntmps10
  go_upto_region 1 with (fail)
  rw [← hW2, ← hgm1', ← hgl]
  clear hW2 hgm hgl hgm1'
  by_cases h0 : n = 0
  · have HE : Hid (pushN gh m = 42) := Lib.hid (by rw [HPN.out, if_pos h0])
    go_wp2_with fail
    go_ret
    exact ⟨by rw [HE.out]; rfl, fun _ => HB2.out, fun h => by rw [HE.out] at h; cases h⟩
  by_cases h1 : 65536 < n
  · have HE : Hid (pushN gh m = 43) := Lib.hid (by rw [HPN.out, if_neg h0, if_pos h1])
    have h0' : ¬ (n : Int) = 0 := by omega
    have h1' : (65536 : Int) < (n : Int) := by omega
    go_wp2_with fail
    go_ret
    exact ⟨by rw [HE.out]; rfl, fun _ => HB2.out, fun h => by rw [HE.out] at h; cases h⟩
  have h0' : ¬ (n : Int) = 0 := by omega
  have h1' : ¬ (65536 : Int) < (n : Int) := by omega
  obtain ⟨V2, hV2⟩ : ∃ V, V = W2.drew := ⟨_, rfl⟩
  have KV : Hid (QM e V2 h p gh mm) := by rw [hV2]; exact K2.out.drew
  have KLV : Hid (Blk V2 gl 34 #[.int .i64 lk, .int .u32 (ln : Int)]) := by rw [hV2]; exact KL.out.drew
  have KMV : Hid (Blk V2 gm 38 (mCells m (.slice A n cp))) := by rw [hV2]; exact KM.out.drew
  have HBV : Hid (Below w.heap.size w V2) := by rw [hV2]; exact HB2.out.drew
  have HYV : Hid (Byt V2 V2.heap.size A m.body) := by rw [hV2]; exact HY.out.drew
  by_cases h2 : 262144 < bq + n
  · have HE : Hid (pushN gh m = 170) := Lib.hid (by rw [HPN.out, if_neg h0, if_neg h1, ← HBQ.out, if_pos h2])
    have h2' : (262144 : Int) < (bq : Int) + (n : Int) := by omega
    go_upto_region 5 with (fail)
    go_region
    rw [← hV2]
    clear hV2
    go_wp2_with fail
    go_ret
    exact ⟨by rw [HE.out]; rfl, fun _ => HBV.out, fun h => by rw [HE.out] at h; cases h⟩
  have HE : Hid (pushN gh m = 0) := Lib.hid (by rw [HPN.out, if_neg h0, if_neg h1, ← HBQ.out, if_neg h2])
  have h2' : ¬ (262144 : Int) < (bq : Int) + (n : Int) := by omega
  go_upto_region 5 with (fail)
  go_region
  rw [← hV2]
  clear hV2 c4 cb K2 KL KM HB2 HY
  have d4 : V2.cell? ⟨gm, 4, none⟩ = some (.slice A n cp) := KMV.out.cell 4
  have hcl := bclone_big A m.body n cp V2 HN.out (by omega) HYV.out
  have HCL := Lib.hid hcl
  clear hcl
  go_upto_region 8 with (go_at_call 26; refine HCL.out.mono ?_; rintro en V3 ⟨⟨v, rfl, ho⟩, hb3⟩; obtain ⟨A', c', rfl, hc1, hc2⟩ := own_slice ho; (have km3 : Blk V3 gm 38 (mCells m (.slice A n cp)) := KMV.out.below hb3 KMV.out.lt); (have e2 : V3.cell? ⟨gm, 2, none⟩ = some (.int .u32 (m.mid : Int)) := km3.cell 2); (have e4 : V3.cell? ⟨gm, 4, none⟩ = some (.slice A n cp) := km3.cell 4); (have f2 := km3.frozen 2); have f4 := km3.frozen 4)
  obtain ⟨n', hn'⟩ : ∃ n', n' = m.body.length := ⟨_, rfl⟩
  have HN' : Hid (n' = m.body.length) := hn'
  rw [← hn'] at ho hc1 ⊢
  obtain ⟨W5, hW5⟩ : ∃ W, W = (V3.setCell ⟨gm, 2, none⟩ (.int .u32 0)).setCell ⟨gm, 4, none⟩ (.slice A' n' c') := ⟨_, rfl⟩
  rw [← hW5]
  have hf5 : Fr (fun i => i = gm) V3 W5 := by rw [hW5]; exact ((Fr.refl (fun i => i = gm) V3).setCell (p := ⟨gm, 2, none⟩) (.inl rfl) _).setCell (p := ⟨gm, 4, none⟩) (.inl rfl) _
  have km5 : Blk W5 gm 38 #[.int .u16 (m.st : Int), .bool m.lo, .int .u32 0, .int .u32 (m.pp : Int), .slice A' n' c'] := by
    rw [hW5]
    exact (km3.set_ 2 (.int .u32 0)).set_ 4 (.slice A' n' c')
  have kl3 := KLV.out.below hb3 KLV.out.lt
  have kl5 : Blk W5 gl 34 #[.int .i64 lk, .int .u32 (ln : Int)] := hf5.blk kl3 (fun e => by have e' : gl = gm := e; have := HGM.out; have := HGL.out; omega)
  have k3 : QM e V3 h p gh mm := KV.out.grows hb3
  have hqg : ∀ i, QG e h i → i < w.heap.size := fun i hi => by
    have h9 := KQG.out i hi
    exact h9
  have k5 : QM e W5 h p gh mm := k3.fr hf5 fun i hi _ h2 => by
    have := hqg i h2
    have e' : i = gm := hi
    have := HGM.out
    omega
  have ho5 : Go.Proofs.Ytkjlmibjpfmfnaa.Words.Own W5 V2.heap.size (.slice A' n' c') m.body := by
    have ho' : Go.Proofs.Ytkjlmibjpfmfnaa.Words.Own V3 V2.heap.size (.slice A' n' c') m.body := ho
    refine hf5.own ho' fun g hg e => ?_
    have e' : g = gm := e
    have := (ho'.lt g hg).1
    have := KMV.out.lt
    omega
  have hbod := bodA_own ho5 hn'
  have hB5 : Below w.heap.size w W5 := by
    refine below_fr (HBV.out.trans (hb3.mono HBV.out.size)) hf5 (Nat.le_refl _) fun i hi => ?_
    have e' : i = gm := hi
    have := HGM.out
    omega
  have kq6 := k5.msg ⟨newI id lk ln m, A', c', none, none, none⟩ hbod
  have hadd := add_s kq6 (upd_same _ _ _) (show (newI id lk ln m).m.st < 65536 from HOK.out.st) (show i64ok (newI id lk ln m).id from HID.out) HT.out HT2.out (by show bytesG gh.gl + m.body.length ≤ _; have := HALL.out; have := HN.out; omega) HL.out HL2.out
  have HADD : Hid (Calls Try.prog 27 #[qptr p, qptr W5.heap.size] (W5.alloc (.cells #[.int .i64 id, .int .i64 lk, .int .u32 (ln : Int), .int .u16 (m.st : Int), .bool m.lo, .int .u32 0, .int .u32 (m.pp : Int), .slice A' n' c', .int .u32 0, .pointer none, .pointer none, .pointer none] 97)) (AddDone e (W5.alloc (.cells #[.int .i64 id, .int .i64 lk, .int .u32 (ln : Int), .int .u16 (m.st : Int), .bool m.lo, .int .u32 0, .int .u32 (m.pp : Int), .slice A' n' c', .int .u32 0, .pointer none, .pointer none, .pointer none] 97)) (upd h W5.heap.size (.ms ⟨newI id lk ln m, A', c', none, none, none⟩)) p gh mm (newI id lk ln m))) := by
    rw [hn']
    exact hadd
  have hldL : ∀ j v, (#[.int .i64 lk, .int .u32 (ln : Int)] : Array Value)[j]? = some v → W5.cell? ((⟨gl, 0, none⟩ : Addr).add j) = some v := fun j v hv => by rw [kl5.cellAdd]; exact hv
  have hldM : ∀ j v, (#[.int .u16 (m.st : Int), .bool m.lo, .int .u32 0, .int .u32 (m.pp : Int), .slice A' n' c'] : Array Value)[j]? = some v → W5.cell? ((⟨gm, 0, none⟩ : Addr).add j) = some v := fun j v hv => by rw [km5.cellAdd]; exact hv
  have HB5 := Lib.hid hB5
  have HOA : Hid (∀ ad : Addr, A' = some ad → w.heap.size ≤ ad.block) := fun ad e9 => by
    have := (ho5.lt ad.block (by rw [e9]; rfl)).1
    have := HBV.out.size
    omega
  have K5 := Lib.hid k5
  clear hn' hW5 hf5 km5 km3 kl3 kl5 k3 k5 ho5 hbod hB5 kq6 hadd ho hb3 e2 e4 f2 f4 d4
  go_wp2_with (first
    | (refine wpList_load_any rfl 34 _ rfl ⟨gl, 0, none⟩ (by first | rfl | simp) #[.int .i64 lk, .int .u32 (ln : Int)] _ hldL Try.underlying34 rfl lim_sz ?_)
    | (refine wpList_load_any rfl 38 _ rfl ⟨gm, 0, none⟩ (by first | rfl | simp) #[.int .u16 (m.st : Int), .bool m.lo, .int .u32 0, .int .u32 (m.pp : Int), .slice A' n' c'] _ hldM Try.underlying38 rfl msg_sz ?_)
    | (go_at_call 27; refine HADD.out.mono ?_; rintro en W7 ⟨h7, gh7, rfl, q7, l7, a7, g7, f7⟩))
  go_ret
  refine ⟨by rw [HE.out]; rfl, fun h9 => absurd HE.out h9, fun _ => ⟨h7, gh7, q7, l7, a7, ?_, ?_⟩⟩
  · refine Grow.trans (h' := upd h W5.heap.size (.ms ⟨newI id lk ln m, A', c', none, none, none⟩)) ⟨fun b hb => ?_, fun b x ad hx ha => ?_⟩ g7 (by rw [World.size_alloc]; have := HB5.out.size; omega)
    · by_cases e9 : b = W5.heap.size
      · exact .inr (by rw [e9]; exact HB5.out.size)
      · rw [upd_ne _ _ e9] at hb; exact .inl hb
    · by_cases e9 : b = W5.heap.size
      · subst e9
        rw [upd_same] at hx
        injection hx with hx
        injection hx with hx
        subst hx
        exact .inr (HOA.out ad ha)
      · rw [upd_ne _ _ e9] at hx
        exact .inl (.inr ⟨b, x, hx, ad, ha, rfl⟩)
  · have hfa : Fr (fun i => w.heap.size ≤ i) w (W5.alloc (.cells #[.int .i64 id, .int .i64 lk, .int .u32 (ln : Int), .int .u16 (m.st : Int), .bool m.lo, .int .u32 0, .int .u32 (m.pp : Int), .slice A' n' c', .int .u32 0, .pointer none, .pointer none, .pointer none] 97)) := (Fr.of_below HB5.out).alloc _
    refine ((hfa.mono (T := QG e h) fun i hi h9 => absurd h9 (by omega)).trans f7 fun i hi hx => ?_)
    rcases hx with hx | hx
    · rcases hx with hx | ⟨b, x, hx, ad, ha, e9⟩
      · by_cases e9 : i = W5.heap.size
        · have := HB5.out.size; omega
        · rw [upd_ne _ _ e9] at hx; exact .inl (.inl hx)
      · by_cases e8 : b = W5.heap.size
        · subst e8
          rw [upd_same] at hx
          injection hx with hx
          injection hx with hx
          subst hx
          have := HOA.out ad ha
          omega
        · rw [upd_ne _ _ e8] at hx
          exact .inl (.inr ⟨b, x, hx, ad, ha, e9⟩)
    · exact .inr hx
end
end Go.Proofs.Ytkjlmibjpfmfnaa.Sc

set_option linter.unusedVariables false
set_option linter.unusedSimpArgs false
namespace Go.Proofs.Ytkjlmibjpfmfnaa.Sc
open Go.Proofs.Ytkjlmibjpfmfnaa.Words Go.Proofs.Ytkjlmibjpfmfnaa.Chk
section
variable {h h' : Hp} {p : Nat} {gh : Gh} {g : GL} {x x' : GM} {ga gc : List GL} {a c : List GM}
def swL (g : GL) (a c : List GM) (x' : GM) : GL := { g with ms := a ++ x' :: c }
def swG (gh : Gh) (ga gc : List GL) (g : GL) (a c : List GM) (x' : GM) : Gh := { gh with gl := ga ++ swL g a c x' :: gc }
structure Sw (gh : Gh) (ga gc : List GL) (g : GL) (a c : List GM) (x x' : GM) : Prop where
  gl : gh.gl = ga ++ g :: gc
  ms : g.ms = a ++ x :: c
  mb : x'.mb = x.mb
  lb : x'.lb = x.lb
  pl : x'.pl = x.pl
  nb : x'.nb = x.nb
  id : x'.it.id = x.it.id
theorem RepG.sw (kg : RepG gh) (s : Sw gh ga gc g a c x x') : RepG (swG gh ga gc g a c x') := by
  have hmap : ∀ f : GL → Nat, f (swL g a c x') = f g → (swG gh ga gc g a c x').gl.map f = gh.gl.map f := fun f hf => by
    rw [s.gl]
    show (ga ++ swL g a c x' :: gc).map f = _
    rw [List.map_append, List.map_append, List.map_cons, List.map_cons, hf]
  have hm1 : ∀ g1 ∈ gh.gl, ∃ g2 ∈ (swG gh ga gc g a c x').gl, g2.st = g1.st ∧ g2.sb = g1.sb ∧ ∀ y ∈ g1.ms, ∃ z ∈ g2.ms, z.mb = y.mb ∧ z.nb = y.nb ∧ z.it.id = y.it.id := fun g1 h1 => by
    rw [s.gl] at h1
    have hcase : (g1 ∈ ga ∨ g1 ∈ gc) ∨ g1 = g := by
      rcases List.mem_append.1 h1 with h9 | h9
      · exact .inl (.inl h9)
      · rcases List.mem_cons.1 h9 with h9 | h9
        · exact .inr h9
        · exact .inl (.inr h9)
    rcases hcase with h9 | rfl
    · refine ⟨g1, ?_, rfl, rfl, fun y hy => ⟨y, hy, rfl, rfl, rfl⟩⟩
      show g1 ∈ ga ++ swL g a c x' :: gc
      rcases h9 with h9 | h9 <;> simp [h9]
    · refine ⟨swL g1 a c x', by simp [swG], rfl, rfl, fun y hy => ?_⟩
      rw [s.ms] at hy
      rcases List.mem_append.1 hy with h8 | h8
      · exact ⟨y, by simp [swL, h8], rfl, rfl, rfl⟩
      · rcases List.mem_cons.1 h8 with h8 | h8
        · exact ⟨x', by simp [swL], by rw [h8]; exact s.mb, by rw [h8]; exact s.nb, by rw [h8]; exact s.id⟩
        · exact ⟨y, by simp [swL, h8], rfl, rfl, rfl⟩
  have hm2 : ∀ g2 ∈ (swG gh ga gc g a c x').gl, ∃ g1 ∈ gh.gl, g2.st = g1.st ∧ g2.sb = g1.sb ∧ (g2.ms = [] → g1.ms = []) ∧ ∀ z ∈ g2.ms, ∃ y ∈ g1.ms, z.mb = y.mb ∧ z.nb = y.nb ∧ z.it.id = y.it.id := fun g2 h2 => by
    have h2' : g2 ∈ ga ++ swL g a c x' :: gc := h2
    rw [s.gl]
    have hcase : (g2 ∈ ga ∨ g2 ∈ gc) ∨ g2 = swL g a c x' := by
      rcases List.mem_append.1 h2' with h9 | h9
      · exact .inl (.inl h9)
      · rcases List.mem_cons.1 h9 with h9 | h9
        · exact .inr h9
        · exact .inl (.inr h9)
    rcases hcase with h9 | rfl
    · refine ⟨g2, ?_, rfl, rfl, fun h => h, fun y hy => ⟨y, hy, rfl, rfl, rfl⟩⟩
      rcases h9 with h9 | h9 <;> simp [h9]
    · refine ⟨g, by simp, rfl, rfl, fun e => by simp [swL] at e, fun z hz => ?_⟩
      rw [s.ms]
      rcases List.mem_append.1 (show z ∈ a ++ x' :: c from hz) with h8 | h8
      · exact ⟨z, by simp [h8], rfl, rfl, rfl⟩
      · rcases List.mem_cons.1 h8 with h8 | h8
        · exact ⟨x, by simp, by rw [h8]; exact s.mb, by rw [h8]; exact s.nb, by rw [h8]; exact s.id⟩
        · exact ⟨z, by simp [h8], rfl, rfl, rfl⟩
  refine ⟨fun g2 h2 => ?_, ?_, ?_, kg.nn, kg.inj, fun g2 h2 y hy => ?_, fun id n hn y hy => ?_, fun g2 h2 => ?_, fun st sb h2 => ?_⟩
  · obtain ⟨g1, e1, _, _, e4, _⟩ := hm2 g2 h2
    exact fun e => kg.ne g1 e1 (e4 e)
  · rw [hmap _ rfl]; exact kg.sbs
  · rw [hmap _ rfl]; exact kg.sts
  · obtain ⟨g1, e1, _, _, _, e5⟩ := hm2 g2 h2
    obtain ⟨z, hz, a1, a2, a3⟩ := e5 y hy
    obtain ⟨n, pl, e6, e7⟩ := kg.mn g1 e1 z hz
    exact ⟨n, pl, by rw [a3]; exact e6, by rw [a1, a2]; exact e7⟩
  · obtain ⟨g1, e1, x1, e2, e3, e4, e5⟩ := kg.nm id n hn y hy
    obtain ⟨g2, e6, _, _, e7⟩ := hm1 g1 e1
    obtain ⟨z, hz, a1, a2, a3⟩ := e7 x1 e2
    exact ⟨g2, e6, z, hz, by rw [a1]; exact e3, by rw [a2]; exact e4, by rw [a3]; exact e5⟩
  · obtain ⟨g1, e1, e2, e3, _⟩ := hm2 g2 h2
    rw [e2, e3]; exact kg.sm1 g1 e1
  · obtain ⟨g1, e1, e2, e3⟩ := kg.sm2 st sb h2
    obtain ⟨g2, e4, e5, e6, _⟩ := hm1 g1 e1
    exact ⟨g2, e4, by rw [e5]; exact e2, by rw [e6]; exact e3⟩
theorem RepH.sw (k : RepH h p gh) (kg : RepG gh) (s : Sw gh ga gc g a c x x') {rq rs : Rw} (hq : h p = some (.q (bytesG gh.gl) rq)) (hs : h g.sb = some (.st (bytesI g.its) rs (some g.lb))) (f : ∀ b, b ≠ p → b ≠ g.sb → b ≠ x.mb → h' b = h b)
    (q' : h' p = some (.q (bytesG (swG gh ga gc g a c x').gl) rq)) (s' : h' g.sb = some (.st (bytesI (swL g a c x').its) rs (some g.lb))) (m' : h' x.mb = some (.ms (x'.me g.sb))) : RepH h' p (swG gh ga gc g a c x') := by
  have hg : g ∈ gh.gl := by rw [s.gl]; simp
  have hx : x ∈ g.ms := by rw [s.ms]; simp
  have L := k.line g hg
  have hm := L.ms x hx
  have P : ∀ b, (b = p ∨ b = g.sb ∨ b = x.mb) → Plain h b := fun b e => by
    rcases e with rfl | rfl | rfl
    · exact plain_of hq rfl
    · exact plain_of hs rfl
    · exact plain_of hm rfl
  have hk : ∀ b, Plain h b → True := fun _ _ => trivial
  have hlk : ∀ {s own th pl bf af b}, h b = some (.lk s own th pl bf af) → h' b = h b := fun {s own th pl bf af b} e =>
    f b (fun e9 => P b (.inl e9) _ _ _ _ _ _ e) (fun e9 => P b (.inr (.inl e9)) _ _ _ _ _ _ e) (fun e9 => P b (.inr (.inr e9)) _ _ _ _ _ _ e)
  have hseg : ∀ {s rb ad l}, Row h s rb ad l → ∀ y ∈ l, h' y.b = h y.b := fun k y hy => by
    obtain ⟨bf, af, e⟩ := k.seg.at_ y hy
    exact hlk e
  have hlkx : x'.lk = x.lk := by unfold GM.lk; rw [s.lb, s.mb, s.pl]
  have hxn : x ∉ a ++ c := fun hx => by
    have hnd := L.row.nd
    rw [s.ms, List.map_map, List.map_append, List.map_cons, List.nodup_append, List.nodup_cons] at hnd
    rcases List.mem_append.1 hx with h1 | h1
    · exact hnd.2.2 _ (List.mem_map_of_mem h1) _ List.mem_cons_self rfl
    · exact hnd.2.1.1 (List.mem_map_of_mem h1)
  have hoth : ∀ g1 ∈ gh.gl, ∀ y ∈ g1.ms, y ≠ x → h' y.mb = h y.mb := fun g1 h1 y hy hne => by
    have e := (k.line g1 h1).ms y hy
    refine f _ (fun e9 => ?_) (fun e9 => ?_) (fun e9 => hne (k.mb_inj kg h1 hg hy hx e9).2)
    · rw [e9, hq] at e; cases e
    · rw [e9, hs] at e; cases e
  refine ⟨⟨rq, q'⟩, ?_, fun g2 h9 => ?_, fun id n hn => ?_⟩
  · have e : (swG gh ga gc g a c x').gl.map GL.lk = gh.gl.map GL.lk := by
      rw [s.gl]
      show (ga ++ swL g a c x' :: gc).map GL.lk = _
      rw [List.map_append, List.map_append, List.map_cons, List.map_cons]
      rfl
    rw [e]
    exact k.turns.mono2 q' (fun o e9 => by rw [hq] at e9; injection e9 with e9; rw [← e9]; rfl) (hseg k.turns)
  · have h9' : g2 ∈ ga ++ swL g a c x' :: gc := h9
    have hcase : (g2 ∈ ga ∨ g2 ∈ gc) ∨ g2 = swL g a c x' := by
      rcases List.mem_append.1 h9' with h8 | h8
      · exact .inl (.inl h8)
      · rcases List.mem_cons.1 h8 with h8 | h8
        · exact .inr h8
        · exact .inl (.inr h8)
    rcases hcase with h8 | rfl
    · have hm' : g2 ∈ gh.gl := by
        rw [s.gl]
        rcases h8 with h7 | h7
        · exact List.mem_append_left _ h7
        · exact List.mem_append_right _ (List.mem_cons_of_mem _ h7)
      have hne : g2.sb ≠ g.sb := fun e5 => by
        have hnd := kg.sbs
        rw [s.gl, List.map_append, List.map_cons, List.nodup_append, List.nodup_cons] at hnd
        rcases h8 with h7 | h7
        · exact hnd.2.2 _ (List.mem_map_of_mem h7) _ List.mem_cons_self e5
        · exact hnd.2.1.1 (by rw [← e5]; exact List.mem_map_of_mem h7)
      have L2 := k.line g2 hm'
      obtain ⟨r2, e2⟩ := L2.ob
      have e3 : h' g2.sb = h g2.sb := f _ (k.p_ne hm') hne (fun e9 => by rw [e9, hm] at e2; cases e2)
      refine ⟨⟨r2, e3.trans e2⟩, L2.row.mono e3 (hseg L2.row), fun y hy => (hoth g2 hm' y hy fun e9 => ?_).trans (L2.ms y hy)⟩
      rw [e9] at hy
      exact hne (by rw [(k.mb_inj kg hm' hg hy hx rfl).1])
    · have e : (swL g a c x').ms.map GM.lk = g.ms.map GM.lk := by
        rw [s.ms]
        show (a ++ x' :: c).map GM.lk = _
        rw [List.map_append, List.map_append, List.map_cons, List.map_cons, hlkx]
      refine ⟨⟨rs, s'⟩, ?_, fun y hy => ?_⟩
      · rw [e]
        exact L.row.mono2 s' (fun o e9 => by rw [hs] at e9; injection e9 with e9; rw [← e9]; rfl) (hseg L.row)
      · rcases List.mem_append.1 (show y ∈ a ++ x' :: c from hy) with h7 | h7
        · have hyg : y ∈ g.ms := by rw [s.ms]; exact List.mem_append_left _ h7
          exact (hoth g hg y hyg fun e9 => hxn (by rw [← e9]; exact List.mem_append_left _ h7)).trans (L.ms y hyg)
        · rcases List.mem_cons.1 h7 with h7 | h7
          · rw [h7, s.mb]; exact m'
          · have hyg : y ∈ g.ms := by rw [s.ms]; exact List.mem_append_right _ (List.mem_cons_of_mem _ h7)
            exact (hoth g hg y hyg fun e9 => hxn (by rw [← e9]; exact List.mem_append_right _ h7)).trans (L.ms y hyg)
  · obtain ⟨⟨r, e1⟩, R⟩ := k.num _ _ hn
    have e2 : h' n.rb = h n.rb := f _ (fun e9 => by rw [e9, hq] at e1; cases e1) (fun e9 => by rw [e9, hs] at e1; cases e1) (fun e9 => by rw [e9, hm] at e1; cases e1)
    exact ⟨⟨r, e2.trans e1⟩, R.mono e2 (hseg R)⟩
end
end Go.Proofs.Ytkjlmibjpfmfnaa.Sc
