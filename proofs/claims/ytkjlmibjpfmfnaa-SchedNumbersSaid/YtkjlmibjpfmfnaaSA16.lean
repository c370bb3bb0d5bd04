/-
  Of the texts ScRd, ScNx: what the laws reach.
-/
import Derived.Test.YtkjlmibjpfmfnaaSA15
import Derived.Test.YtkjlmibjpfmfnaaSA11

set_option linter.unusedVariables false
set_option linter.unusedSimpArgs false
set_option maxRecDepth 20000
namespace Go.Proofs.Ytkjlmibjpfmfnaa.Sc
open Go.ChangeShapes Go.WideShapes Go.ChangeAt Go.RowKit Go.Deep Go.Maps Go.Proofs.Ytkjlmibjpfmfnaa.Words Go.Proofs.Ytkjlmibjpfmfnaa.Oct Go.Proofs.Ytkjlmibjpfmfnaa.Par Go.Proofs.Ytkjlmibjpfmfnaa.Chk Go.Proofs.Ytkjlmibjpfmfnaa.Mx Go.Proofs.Ytkjlmibjpfmfnaa.Fl
section
variable {e : Ev} {w w' W W' : World} {h h' : Hp} {p mb T st : Nat} {gh : Gh} {mm : Ln → Option Nat}
theorem all_s (k : QM e w h p gh mm) : Calls Try.prog 21 #[qptr p] w fun en w' => en = .returned (.int .i64 (bytesG gh.gl : Int)) ∧ w = w' := by
  obtain ⟨rq, hq⟩ := k.rep.q
  have c1 : w.cell? ⟨p, 1, none⟩ = some (.int .i64 (bytesG gh.gl : Int)) := k.hv.cell hq 1
  generalize bytesG gh.gl = n at *
  clear k hq
  go_enter Try.func21, Try.ntmps21
  go_wp2_with fail
  go_ret
  exact ⟨rfl, rfl⟩
def bytesOf (gh : Gh) (st : Nat) : Nat := match gh.gl.find? fun g => decide (g.st = st) with
  | some g => bytesI g.its
  | none => 0
theorem bytes_s (k : QM e w h p gh mm) (hst : st < 65536) : Calls Try.prog 20 #[qptr p, .int .u16 (st : Int)] w fun en w' => en = .returned (.int .i64 (bytesOf gh st : Int)) ∧ w = w' := by
  obtain ⟨rq, hq⟩ := k.rep.q
  have c2 : w.cell? ⟨p, 2, none⟩ = some (.map (some e.sm)) := k.hv.cell hq 2
  have hl := sm_look k.sm hst w rfl
  cases hs : gh.sm st with
  | none =>
    have e0 : bytesOf gh st = 0 := by
      unfold bytesOf
      have : gh.gl.find? (fun g => decide (g.st = st)) = none := List.find?_eq_none.2 fun g hg => by
        have := k.g.sm1 g hg
        intro e9
        rw [of_decide_eq_true e9, hs] at this
        cases this
      rw [this]
    rw [e0]
    rw [hs] at hl
    simp only [oV] at hl
    clear k hq hs e0
    go_enter Try.func20, Try.ntmps20
    go_wp2_with fail
    go_ret
    exact ⟨rfl, rfl⟩
  | some sb =>
    obtain ⟨g, hg, e1, e2⟩ := k.g.sm2 _ _ hs
    obtain ⟨rs, h7⟩ := (k.rep.line g hg).ob
    have e0 : bytesOf gh st = bytesI g.its := by
      unfold bytesOf
      cases hf : gh.gl.find? (fun g => decide (g.st = st)) with
      | none => exact absurd (List.find?_eq_none.1 hf g hg) (by simp [e1])
      | some g' =>
        have h8 := List.mem_of_find?_eq_some hf
        have h9 : g'.st = st := by simpa using List.find?_some hf
        rw [nodup_inj k.g.sts h8 hg (h9.trans e1.symm)]
    rw [e0]
    rw [hs] at hl
    simp only [oV] at hl
    rw [e2] at h7
    have c0 : w.cell? ⟨sb, 0, none⟩ = some (.int .i64 (bytesI g.its : Int)) := k.hv.cell h7 0
    generalize bytesI g.its = n at *
    clear k hq hs e0 e1 e2 h7 hg
    go_enter Try.func20, Try.ntmps20
    go_wp2_with fail
    go_ret
    exact ⟨rfl, rfl⟩
def gh0 : Gh := ⟨[], 0, fun _ => none, fun _ => none⟩
theorem new_mem (w : World) (inter : Bool) : QM ⟨inter, w.heap.size, w.heap.size + 1, w.heap.size + 1 + 1⟩ ((((w.alloc (.map #[] 0)).alloc (.map #[] 0)).alloc (.map #[] 0)).alloc (.cells #[.bool inter, .int .i64 0, .map (some w.heap.size), .pointer none, .pointer none, .int .i64 0, .map (some (w.heap.size + 1)), .map (some (w.heap.size + 1 + 1))] 90)) (upd (fun _ => none) (w.heap.size + 1 + 1 + 1) (.q 0 z0)) (w.heap.size + 1 + 1 + 1) gh0 (fun _ => none) := by
  obtain ⟨W1, hW1⟩ : ∃ W, W = w.alloc (.map #[] 0) := ⟨_, rfl⟩
  obtain ⟨W2, hW2⟩ : ∃ W, W = W1.alloc (.map #[] 0) := ⟨_, rfl⟩
  obtain ⟨W3, hW3⟩ : ∃ W, W = W2.alloc (.map #[] 0) := ⟨_, rfl⟩
  have s1 : W1.heap.size = w.heap.size + 1 := by rw [hW1]; exact World.size_alloc _ _
  have s2 : W2.heap.size = w.heap.size + 1 + 1 := by rw [hW2, World.size_alloc, s1]
  have s3 : W3.heap.size = w.heap.size + 1 + 1 + 1 := by rw [hW3, World.size_alloc, s2]
  have m1 : MapX u16X W1 w.heap.size (fun _ => none) := by rw [hW1]; exact MapX.new _ _
  have m2 : MapZ Try.prog 3 W2 (w.heap.size + 1) (fun _ => none) := by rw [hW2, ← s1]; exact MapZ.new Try.underlying3 _
  have m3 : MapX lnX W3 (w.heap.size + 1 + 1) (fun _ => none) := by rw [hW3, ← s2]; exact MapX.new _ _
  have hv3 : Hv ⟨inter, w.heap.size, w.heap.size + 1, w.heap.size + 1 + 1⟩ W3 (fun _ => none) := ⟨fun b o h => (by cases h), fun b x h => (by cases h)⟩
  have hv4 := hv3.new (.q 0 z0) (fun x hx => by cases hx)
  rw [← hW1, ← hW2, ← hW3, ← s3]
  have f23 : Fr (fun _ => False) W2 W3 := by rw [hW3]; exact (Fr.refl _ _).alloc _
  have f12 : Fr (fun _ => False) W1 W2 := by rw [hW2]; exact (Fr.refl _ _).alloc _
  have f34 : ∀ o, Fr (fun _ => False) W3 (W3.alloc o) := fun o => (Fr.refl _ _).alloc _
  have hq : upd (fun _ => none) W3.heap.size (.q 0 z0) W3.heap.size = some (.q 0 z0) := upd_same _ _ _
  refine ⟨hv4, ⟨⟨z0, hq⟩, ⟨⟨_, hq, rfl⟩, trivial, List.nodup_nil, List.Pairwise.nil, fun x hx => (by cases hx)⟩, fun g hg => (by cases hg), fun id n hn => (by cases hn)⟩, ⟨fun g hg => (by cases hg), List.nodup_nil, List.nodup_nil, fun id n hn => (by cases hn), fun id id' n n' h => (by cases h), fun g hg => (by cases hg), fun id n hn => (by cases hn), fun g hg => (by cases hg), fun st sb h => (by cases h)⟩, (((m1.fr f12 fun h => h).fr f23 fun h => h).fr (f34 _) fun h => h).as_ fun _ => rfl, ((m2.fr f23 fun h => h).fr (f34 _) fun h => h).as_ fun _ => rfl, (m3.fr (f34 _) fun h => h).as_ fun _ => rfl, ⟨by dsimp only; omega, by dsimp only; omega, by dsimp only; omega⟩⟩
theorem new_s (w : World) (inter : Bool) : Calls Try.prog 9 #[.bool inter] w fun en w' => ∃ e h p, en = .returned (qptr p) ∧ e.inter = inter ∧ QM e w' h p gh0 (fun _ => none) ∧ (∀ i, QG e h i → w.heap.size ≤ i) ∧ Below w.heap.size w w' := by
  have HM := Lib.hid (new_mem w inter)
  have hmm := @run_makeMap Try.prog
  have u1 := Try.underlying83
  have u2 := Try.underlying84
  have u3 := Try.underlying85
  go_enter Try.func9, Try.ntmps9
  go_wp2_with fail
  go_ret
  refine ⟨_, _, _, rfl, ?_, HM.out, fun i hi => ?_, ((((Below.refl _ w).alloc (Nat.le_refl _) _).alloc (by simp) _).alloc (by simp; omega) _).alloc (by simp; omega) _⟩
  · rfl
  · rcases hi with hi | rfl | rfl | rfl
    · rcases hi with hi | ⟨b, x, hx, _⟩
      · by_cases e9 : i = w.heap.size + 1 + 1 + 1
        · omega
        · rw [upd_ne _ _ e9] at hi
          exact absurd rfl hi
      · by_cases e9 : b = w.heap.size + 1 + 1 + 1
        · rw [e9, upd_same] at hx; cases hx
        · rw [upd_ne _ _ e9] at hx; cases hx
    · exact Nat.le_refl _
    · exact Nat.le_succ _
    · show w.heap.size ≤ w.heap.size + 1 + 1
      omega
/-- The next numbers that are left. -/
def resM (mm : Ln → Option Nat) (l : List Nat) : Ln → Option Nat := fun k => if l.contains k.1 then none else mm k
/-- Only the numbers have turned. -/
theorem QM.setm (k : QM e w h p gh mm) {mm' : Ln → Option Nat} (hf : Fr (fun i => i = e.mm) w w') (hm : MapX lnX w' e.mm (mmF mm')) : QM e w' h p gh mm' :=
  ⟨k.hv.fr hf fun i hi _ h9 => k.map_no.2.2 (by rw [← show i = e.mm from hi]; exact h9), k.rep, k.g, k.sm.fr hf k.ne.2.1, k.nm.fr hf k.ne.2.2, hm, k.ne⟩
theorem mt_fr {b : Nat} (h : w.drew.mapTurned w' b ∨ w.mapTurned w' b) : Fr (fun i => i = b) w w' := by
  rcases h with h | h
  · exact ((Fr.refl (fun i => i = b) w).drew).same ((Fr.of_grown h.grown).mono (fun i _ e => by injection e))
  · exact (Fr.of_grown h.grown).mono (fun i _ e => by injection e)
set_option maxHeartbeats 8000000 in
theorem reset_s (k : QM e w h p gh mm) {l : List Nat} {A : Option Addr} {n cp : Nat} (hl : ∀ x ∈ l, x < 65536) (hn : n = l.length) (hc : n ≤ cp) (hc2 : cp ≤ 9223372036854775807) (hA : U16s w A l) (hAg : ∀ a, A = some a → ¬ QG e h a.block) :
    Calls Try.prog 17 #[qptr p, .slice A n cp] w fun en w' => en = .returned (.tuple #[]) ∧ QM e w' h p gh (if l.isEmpty then (fun _ => none) else resM mm l) ∧ Fr (QG e h) w w' := by
  obtain ⟨rq, hq⟩ := k.rep.q
  have cq : w.cell? ⟨p, 7, none⟩ = some (.map (some e.mm)) := k.hv.cell hq 7
  have K0 := Lib.hid k
  have KQ := Lib.hid hq
  have HN := Lib.hid hn
  by_cases h0 : l = []
  · subst h0
    obtain rfl : n = 0 := hn
    obtain ⟨W1, hcl, hm1, ht1⟩ := mapX_clear k.mm (t := 85) Try.underlying85 0
    have hcl2 : (Builtin.clear_ #[85] 0 #[.map (some e.mm)]).run Try.prog w = .ok (.tuple #[]) W1 := hcl
    have hf1 : Fr (fun i => i = e.mm) w W1 := mt_fr (.inr ht1)
    have HQM := Lib.hid (k.setm hf1 (mm' := fun _ => none) (hm1.as_ fun _ => rfl))
    have HF1 := Lib.hid hf1
    clear k hq hl hA hAg hcl hm1 ht1 hf1
    go_enter Try.func17, Try.ntmps17
    go_upto_region 3 with (fail)
    obtain ⟨wo, rfl⟩ : ∃ wo : World, wo = W1 := ⟨_, rfl⟩
    go_loopw [15] (fun v15 wr => v15 = .int .i64 0 ∧ Hid (wr = wo)) (fun _ _ => 0)
    case atStart => exact ⟨rfl, rfl⟩
    case round =>
      obtain ⟨rfl, H⟩ := hrel
      go_wp2_with fail
      go_end0
      rw [H.out]
      exact ⟨rfl, HQM.out, HF1.out.mono fun i _ hi => .inr (.inr (.inr hi))⟩
  · have hn0 : ¬ n = 0 := fun e9 => h0 (List.eq_nil_of_length_eq_zero (by rw [← hn, e9]))
    have hie : l.isEmpty = false := by cases l with
      | nil => exact absurd rfl h0
      | cons => rfl
    have HRD : Hid (∀ V, Fr (fun i => i = e.mm) w V → ∀ j, j < n → ∃ (a : Addr) (x : Nat), A = some a ∧ x < 65536 ∧ l[j]? = some x ∧ V.cell? (a.add j) = some (.int .u16 (x : Int))) := fun V hf j hj => by
      have hjl : j < l.length := by omega
      have hx := List.getElem?_eq_getElem hjl
      obtain ⟨a, ha, hc9⟩ := hA j _ hx
      refine ⟨a, l[j], ha, hl _ (List.getElem_mem hjl), hx, ?_⟩
      have hb : (a.add j).block = a.block := by unfold Addr.add; split <;> rfl
      rw [← hc9]
      refine World.cell?_of_block (hf.block _ (World.block_lt_of_cell? w _ hc9) fun e9 => ?_)
      have e9' : (a.add j).block = e.mm := e9
      exact hAg a ha (by rw [← hb, e9']; exact .inr (.inr (.inr rfl)))
    rw [hie]
    have HS : Hid (QM e w h p gh (resM mm (l.take 0))) := by
      refine k.setm (Fr.refl _ _) (k.mm.as_ fun y => ?_)
      rfl
    have hn9 : n ≤ 9223372036854775807 := by omega
    clear k hq h0 hn hl hA hAg hie
    go_enter Try.func17, Try.ntmps17
    go_upto_region 3 with (fail)
    obtain ⟨wo, rfl⟩ : ∃ wo : World, wo = w := ⟨_, rfl⟩
    go_loopw [15] (fun v15 wr => ∃ i : Nat, v15 = .int .i64 (i : Int) ∧ i ≤ n ∧ Hid (QM e wr h p gh (resM mm (l.take i))) ∧ Hid (Fr (fun i => i = e.mm) wo wr)) (fun v15 _ => n - (intOf v15).toNat)
    case atStart => exact ⟨0, rfl, Nat.zero_le _, HS, Fr.refl _ _⟩
    case round =>
      obtain ⟨i, rfl, hi, H, HF⟩ := hrel
      by_cases hil : i < n
      · obtain ⟨a, x, rfl, hx6, hlx, cx⟩ := HRD.out _ HF.out i hil
        have HLX := Lib.hid hlx
        have cq1 : wr.cell? ⟨p, 7, none⟩ = some (.map (some e.mm)) := H.out.hv.cell KQ.out 7
        obtain ⟨W1, hd1, hm1, ht1⟩ := H.out.mm.del (t := 85) Try.underlying85 (x := ((x, false) : Ln)) (show lnX.dom (x, false) from hx6) 0
        have hd1' : (Builtin.delete_ #[85, 129] 0 #[.map (some e.mm), .agg #[.int .u16 (x : Int), .bool false]]).run Try.prog wr = .ok (.tuple #[]) W1 := hd1
        have hf1 : Fr (fun i => i = e.mm) wr W1 := mt_fr (.inr ht1)
        have H1 : Hid (QM e W1 h p gh (fun y => if y = (x, false) then none else resM mm (l.take i) y)) := H.out.setm hf1 (hm1.as_ fun y => by
          unfold delF mmF
          by_cases hy : y = (x, false)
          · simp [hy]
          · simp [hy])
        have cq2 : W1.cell? ⟨p, 7, none⟩ = some (.map (some e.mm)) := H1.out.hv.cell KQ.out 7
        obtain ⟨W2, hd2, hm2, ht2⟩ := H1.out.mm.del (t := 85) Try.underlying85 (x := ((x, true) : Ln)) (show lnX.dom (x, true) from hx6) 0
        have hd2' : (Builtin.delete_ #[85, 129] 0 #[.map (some e.mm), .agg #[.int .u16 (x : Int), .bool true]]).run Try.prog W1 = .ok (.tuple #[]) W2 := hd2
        have hf2 : Fr (fun i => i = e.mm) W1 W2 := mt_fr (.inr ht2)
        have H2 : Hid (QM e W2 h p gh (resM mm (l.take (i + 1)))) := H1.out.setm hf2 (hm2.as_ fun y => by
          have ht : l.take (i + 1) = l.take i ++ [x] := by rw [List.take_add_one, HLX.out]; rfl
          rw [ht]
          unfold delF mmF resM
          obtain ⟨y1, y2⟩ := y
          by_cases e1 : y1 = x
          · subst e1
            cases y2 <;> simp
          · have n1 : ¬ (y1, y2) = (x, true) := fun e9 => e1 (by injection e9)
            have n2 : ¬ (y1, y2) = (x, false) := fun e9 => e1 (by injection e9)
            rw [if_neg n1]
            simp [List.contains_iff_mem, e1, n2])
        have HF2 : Hid (Fr (fun i => i = e.mm) wo W2) := (HF.out.same hf1).same hf2
        clear hd1 hm1 ht1 hf1 hd2 hm2 ht2 hf2 hlx
        go_wp2_with fail
        go_roundw
        case rel => exact ⟨i + 1, by go_num, by omega, H2, HF2⟩
        case measure => simp [intOf]; omega
      · have hie : i = n := by omega
        subst hie
        go_wp2_with fail
        go_end0
        have e9 : l.take i = l := by rw [HN.out]; exact List.take_length
        have h9 := H.out
        rw [e9] at h9
        exact ⟨rfl, h9, HF.out.mono fun j _ hj => .inr (.inr (.inr hj))⟩
end
end Go.Proofs.Ytkjlmibjpfmfnaa.Sc

set_option linter.unusedVariables false
set_option linter.unusedSimpArgs false
set_option maxRecDepth 20000
namespace Go.Proofs.Ytkjlmibjpfmfnaa.Sc
open Go.ChangeShapes Go.WideShapes Go.ChangeAt Go.RowKit Go.Deep Go.Maps Go.Proofs.Ytkjlmibjpfmfnaa.Words Go.Proofs.Ytkjlmibjpfmfnaa.Oct Go.Proofs.Ytkjlmibjpfmfnaa.Par Go.Proofs.Ytkjlmibjpfmfnaa.Chk Go.Proofs.Ytkjlmibjpfmfnaa.Mx Go.Proofs.Ytkjlmibjpfmfnaa.Fl
section
variable {e : Ev} {w w' W W' : World} {h h' : Hp} {p mb T st : Nat} {gh : Gh} {mm : Ln → Option Nat} {most : Int} {g : GL} {x : GM} {gc : List GL} {c : List GM}
theorem built_zk : Try.prog.built 51 [] = some zkA := by kernel_rfl
theorem built_zl : Try.prog.built 34 [] = some limZ := by kernel_rfl
theorem build_0 {P : Program} {ops : Array Oper} {rest : List Oper} {o : Oper} {a : Act} {w : World} {Q : Exit → Act → World → Prop} (hg : o.guard = none) (t : TypeId) (ho : o.op = .build t #[]) (cells : Array Value)
    (hf : P.built t [] = some cells) (h : wpList P ops Q rest (a.put o.dst (.agg cells)) w) : wpList P ops Q (o :: rest) a w :=
  wpList_build_as hg t _ ho cells (by simpa using hf) h
theorem res_nx {fn : Func} {p u q v : Tmp} (h : fn.results = #[.cell p 51, .tmp u, .cell q 34, .tmp v]) (tmps : Array Value) (w : World) (g1 g2 : Nat) (cs ls : Array Value) (hp : tmps.getD p undef = .pointer (some ⟨g1, 0, none⟩)) (hb : CkBlk w g1 cs) (hs : cs.size = 19)
    (hq : tmps.getD q undef = .pointer (some ⟨g2, 0, none⟩)) (hb2 : Blk w g2 34 ls) (hs2 : ls.size = 2) : (results fn tmps).run Try.prog w = .ok (.tuple #[.agg cs, tmps.getD u undef, .agg ls, tmps.getD v undef]) w := by
  have h1 := run_loadVar_row (P := Try.prog) w g1 51 51 cs (0, 0) _ hb Try.underlying51 rfl (by rw [hs]; exact chunk_info)
  have h2 := run_loadVar_row (P := Try.prog) w g2 34 34 ls (0, 0) _ hb2 Try.underlying34 rfl (by rw [hs2]; exact lim_sz)
  have hp' : tmps[p]?.getD undef = .pointer (some ⟨g1, 0, none⟩) := by simpa using hp
  have hq' : tmps[q]?.getD undef = .pointer (some ⟨g2, 0, none⟩) := by simpa using hq
  simp only [results, h]
  simp [Sem.run_bind, Result.andThen, hp', hq', asAddr, h1, h2]
/-- The two variables of its results. -/
def ResW (w : World) : World := (w.alloc (.cells zkA 51)).alloc (.cells limZ 34)
theorem res_below (w : World) : Below w.heap.size w (ResW w) := ((Below.refl _ w).alloc (Nat.le_refl _) _).alloc (by rw [World.size_alloc]; omega) _
theorem res_lim (w : World) : Blk (ResW w) (w.heap.size + 1) 34 limZ := by
  have := Blk.new (w.alloc (.cells zkA 51)) 34 limZ
  rwa [show (w.alloc (.cells zkA 51)).heap.size = w.heap.size + 1 from World.size_alloc _ _] at this
theorem res_chk (w : World) : Blk (ResW w) w.heap.size 51 zkA := blk_ck w
theorem empty_q (k : QM e w h p gh mm) : Calls Try.prog 28 #[.pointer (some ⟨p, 3, none⟩)] w fun en w' => en = .returned (.bool gh.gl.isEmpty) ∧ w = w' := by
  obtain ⟨rq, hq⟩ := k.rep.q
  have := emptyS k.hv hq (r := rq) rfl
  have e9 : rq.fs.isNone = gh.gl.isEmpty := by
    have h9 := k.rep.turns.ob_eq hq
    injection h9 with h9
    rw [h9]
    cases gh.gl <;> rfl
  rw [e9] at this
  exact this
set_option maxHeartbeats 8000000 in
theorem idle_s (k : QM e w h p gh mm) (hm : i64B most) (hi : gh.gl = [] ∨ most < 1 ∨ (roomF e.inter : Int) < most) :
    Calls Try.prog 12 #[qptr p, .int .i64 most] w fun en w' => en = .returned (.tuple #[.agg zArr, .int .i64 0, limV 0 0, .bool false]) ∧ Below w.heap.size w w' := by
  obtain ⟨rq, hq⟩ := k.rep.q
  have hroom := (roomF_le e.inter).2
  obtain ⟨W2, hW2⟩ : ∃ W, W = ResW w := ⟨_, rfl⟩
  obtain ⟨g1, hg1⟩ : ∃ g, g = w.heap.size := ⟨_, rfl⟩
  have K2 : Hid (QM e W2 h p gh mm) := by rw [hW2]; exact k.grows (res_below w)
  have HEM := Lib.hid (empty_q K2.out)
  have HB2 : Hid (Below w.heap.size w W2) := by rw [hW2]; exact res_below w
  have KC : Hid (Blk W2 g1 51 zkA) := by rw [hW2, hg1]; exact res_chk w
  have KL : Hid (Blk W2 (g1 + 1) 34 limZ) := by rw [hW2, hg1]; exact res_lim w
  have HG1 : Hid (g1 = w.heap.size) := hg1
  have ci : W2.cell? ⟨p, 0, none⟩ = some (.bool e.inter) := K2.out.hv.cell hq 0
  obtain ⟨it, hie⟩ : ∃ i, i = e.inter := ⟨_, rfl⟩
  rw [← hie] at ci hroom hi
  have HRM : Hid (Calls Try.prog 29 #[.bool it] W2 fun e w' => e = .returned (.int .i64 (roomF it : Int)) ∧ W2 = w') := room_c W2 it
  unfold ResW at hW2
  have hcase : (gh.gl.isEmpty = true) ∨ (gh.gl.isEmpty = false ∧ most < 1) ∨ (gh.gl.isEmpty = false ∧ ¬ most < 1 ∧ (roomF it : Int) < most) := by
    cases hgl : gh.gl with
    | nil => exact .inl rfl
    | cons a b =>
      rcases hi with h9 | h9 | h9
      · rw [hgl] at h9; cases h9
      · exact .inr (.inl ⟨rfl, h9⟩)
      · by_cases h8 : most < 1
        · exact .inr (.inl ⟨rfl, h8⟩)
        · exact .inr (.inr ⟨rfl, h8, h9⟩)
  obtain ⟨emp, hemp⟩ : ∃ b, b = gh.gl.isEmpty := ⟨_, rfl⟩
  rw [← hemp] at HEM hcase
  clear k hq hi hie hemp
  go_enter Try.func12, Try.ntmps12
  go_upto_region 1 with (with_reducible refine wpList_alloc_run _ rfl 51 rfl (alloc_zk _) ?_)
  rw [← hW2, ← hg1]
  clear hW2 hg1
  rcases hcase with rfl | ⟨rfl, hlt⟩ | ⟨rfl, hlt, hgt⟩
  all_goals
    go_wp2_with (first
      | (go_at_call 28; refine HEM.out.mono ?_; rintro e2 w2' ⟨rfl, rfl⟩)
      | (go_at_call 29; refine HRM.out.mono ?_; rintro e2 w2' ⟨rfl, rfl⟩)
      | (refine build_0 rfl 51 rfl zkA built_zk ?_)
      | (refine build_0 rfl 34 rfl limZ built_zl ?_)
      | (refine wpList_store_row rfl 51 _ _ rfl g1 zkA rfl rfl 51 zkA KC.out chunk_info rfl (ck_one _) ?_)
      | (refine wpList_store_row rfl 34 _ _ rfl (g1 + 1) limZ rfl rfl 34 limZ (by first | exact KL.out | exact (setRow_fr _ _ _).blk KL.out (by show ¬ _ = _; omega)) (lim_info _ _) rfl (lim_one _ _) ?_))
    (try simp only [Exit.inBlock, Exit.then])
    have hkc : CkBlk ((W2.setRow g1 zkA).setRow (g1 + 1) limZ) g1 zkA := (setRow_fr _ _ _).blk (setRow_blk KC.out) (by show ¬ _ = _; omega)
    have hkl : Blk ((W2.setRow g1 zkA).setRow (g1 + 1) limZ) (g1 + 1) 34 limZ := setRow_heap _ _ _ _ _ _ ((setRow_fr _ _ _).blk KL.out (by show ¬ _ = _; omega))
    refine bodyPost_ret (res_nx rfl _ _ g1 (g1 + 1) zkA limZ rfl hkc rfl rfl hkl rfl) rfl ?_
    exact ⟨rfl, below_setRow (below_setRow HB2.out (by rw [HG1.out]; exact Nat.le_refl _) _) (by rw [HG1.out]; omega) _⟩
end
end Go.Proofs.Ytkjlmibjpfmfnaa.Sc
