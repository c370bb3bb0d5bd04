/-
  Of the texts Fl1, Fl2, Fl3: what the laws reach.
-/
import Derived.Test.YtfgfiiknbkakaaaFC8
import Derived.BigQuiet

set_option linter.unusedVariables false
set_option linter.unusedSimpArgs false
set_option maxRecDepth 20000
namespace Go.Proofs.Ytfgfiiknbkakaaa.Fl
open Go.ChangeShapes Go.WideShapes Go.ChangeAt Go.RowKit Go.Deep Go.Maps Go.Proofs.Ytfgfiiknbkakaaa.Words Go.Proofs.Ytfgfiiknbkakaaa.Oct Go.Proofs.Ytfgfiiknbkakaaa.Par Go.Proofs.Ytfgfiiknbkakaaa.Chk Go.Proofs.Ytfgfiiknbkakaaa.Mx
abbrev eptr (g o : Nat) : Value := .pointer (some ⟨g, o, none⟩)
section
variable {w w' : World} {g o : Nat}
theorem left_any {st : Nat} (h : w.cell? ⟨g, o + 6, none⟩ = some (.int .i64 (st : Int))) : Calls Try.prog 44 #[eptr g o] w fun e w' => e = .returned (.bool (st == 0 || st == 1)) ∧ w = w' := by
  rcases Nat.lt_or_ge st 2 with h1 | h1
  · have : st = 0 ∨ st = 1 := by omega
    rcases this with rfl | rfl
    · go_enter Try.func44, Try.ntmps44
      go_wp2_with fail
      go_ret
      exact ⟨rfl, rfl⟩
    · go_enter Try.func44, Try.ntmps44
      go_wp2_with fail
      go_ret
      exact ⟨rfl, rfl⟩
  · have b0 : ((st : Int) == 0) = false := beq_no (by omega)
    have b1 : ((st : Int) == 1) = false := beq_no (by omega)
    have e : (st == 0 || st == 1) = false := by simp; omega
    rw [e]
    go_enter Try.func44, Try.ntmps44
    go_wp2_with fail
    go_ret
    exact ⟨rfl, rfl⟩
set_option maxHeartbeats 1000000 in
theorem spent_any {lk ln sent : Nat} (h1 : w.cell? ⟨g, o + 1, none⟩ = some (.int .i64 (lk : Int))) (h2 : w.cell? ⟨g, o + 2, none⟩ = some (.int .u32 (ln : Int))) (h3 : w.cell? ⟨g, o + 3, none⟩ = some (.int .u64 (sent : Int))) (hln : ln < 4294967296) :
    Calls Try.prog 39 #[eptr g o] w fun e w' => e = .returned (.bool (lk == 1 && decide (ln < sent))) ∧ Below w.heap.size w w' := by
  rcases Classical.em (lk = 1) with rfl | hk
  · have hw : IntKind.u64.wrap (ln : Int) = (ln : Int) := by rw [IntKind.wrap_u64]; omega
    have e : ((1 : Nat) == 1 && decide (ln < sent)) = decide (ln < sent) := by simp
    rw [e]
    go_enter Try.func39, Try.ntmps39
    go_upto_region 1 with (fail)
    go_quiet (fail)
    go_wp2_with fail
    go_ret
    exact ⟨rfl, below_drewN (Below.refl _ _) _⟩
  · have b1 : ((lk : Int) == 1) = false := beq_no (by omega)
    have e : (lk == 1 && decide (ln < sent)) = false := by simp; omega
    rw [e]
    go_enter Try.func39, Try.ntmps39
    go_upto_region 1 with (fail)
    go_quiet (fail)
    go_wp2_with fail
    go_ret
    exact ⟨rfl, below_drewN (Below.refl _ _) _⟩
theorem late_any {lk ln now : Nat} (h1 : w.cell? ⟨g, o + 1, none⟩ = some (.int .i64 (lk : Int))) (h2 : w.cell? ⟨g, o + 2, none⟩ = some (.int .u32 (ln : Int))) :
    Calls Try.prog 45 #[eptr g o, .int .u32 (now : Int)] w fun e w' => e = .returned (.bool (lk == 2 && Ser.lessB (ln : Int) (now : Int))) ∧ w = w' := by
  rcases Classical.em (lk = 2) with rfl | hk
  · have e : ((2 : Nat) == 2 && Ser.lessB (ln : Int) (now : Int)) = Ser.lessB (ln : Int) (now : Int) := by simp
    rw [e]
    go_enter Try.func45, Try.ntmps45
    go_wp2_with fail
    refine (Ser.less_any _ _ _).mono ?_
    rintro e w' ⟨rfl, rfl⟩
    go_wp2_with fail
    go_ret
    exact ⟨rfl, rfl⟩
  · have b1 : ((lk : Int) == 2) = false := beq_no (by omega)
    have e : (lk == 2 && Ser.lessB (ln : Int) (now : Int)) = false := by simp; omega
    rw [e]
    go_enter Try.func45, Try.ntmps45
    go_wp2_with fail
    go_ret
    exact ⟨rfl, rfl⟩
end
/-- A fragment lies at an address. -/
structure FrAt (w : World) (g o : Nat) (q : Pt) (b : Hd) : Prop where
  c : ∀ j, j < 26 → w.cell? ⟨g, o + j, none⟩ = (frA q b)[j]?
  k : kd w g = some (94 + 1)
section
variable {w w' : World} {p g o : Nat} {a : Ad} {m : FM} {q : Pt} {b : Hd} {S : Nat → Prop}
theorem kd_fr {x : Nat} (h : kd w g = some x) (hf : Fr S w w') (hn : ¬ S g) : kd w' g = some x := by
  have := hf.block g (kd_lt h) hn
  unfold kd at *
  rw [this]; exact h
theorem FrAt.fr (h : FrAt w g o q b) (hf : Fr S w w') (hn : ¬ S g) : FrAt w' g o q b :=
  ⟨fun j hj => by
    rw [← h.c j hj]
    exact World.cell?_of_block (hf.block g (kd_lt h.k) hn), kd_fr h.k hf hn⟩
theorem FlM.gp (h : FlM w p a m) (k : FrAt w g o q b) : g ≠ p := fun e => by
  have h1 := k.k
  rw [e, kd_blk h.blk] at h1
  exact absurd h1 (by decide)
theorem FlM.gd (h : FlM w p a m) (k : FrAt w g o q b) : g ≠ a.de := fun e => by
  have h1 := k.k
  rw [e, kd_mapx h.dea] at h1
  exact absurd h1 (by decide)
theorem FlM.pd (h : FlM w p a m) : p ≠ a.de := fun e => by
  have h1 := kd_blk h.blk
  rw [e, kd_mapx h.dea] at h1
  exact absurd h1 (by decide)
theorem fr_set {i : Nat} (u : Value) : Fr (fun k => k = p) w (w.setCell ⟨p, i, none⟩ u) := (Fr.refl (fun k => k = p) w).setCell (p := ⟨p, i, none⟩) (.inl rfl) u
theorem FlM.set_nb (h : FlM w p a m) (x : Int) : FlM (w.setCell ⟨p, 3, none⟩ (.int .i64 x)) p a { m with nb := x } := h.own (fr_set _) (by have := h.blk.set_ 3 (.int .i64 x); exact this)
theorem FlM.set_nl (h : FlM w p a m) (x : Int) : FlM (w.setCell ⟨p, 4, none⟩ (.int .i64 x)) p a { m with nl := x } := h.own (fr_set _) (by have := h.blk.set_ 4 (.int .i64 x); exact this)
theorem FlM.set_no (h : FlM w p a m) (x : Int) : FlM (w.setCell ⟨p, 5, none⟩ (.int .i64 x)) p a { m with no := x } := h.own (fr_set _) (by have := h.blk.set_ 5 (.int .i64 x); exact this)
theorem FlM.set_fl (h : FlM w p a m) (x : Nat) : FlM (w.setCell ⟨p, 6, none⟩ (.int .i64 (x : Int))) p a { m with fl := x } := h.own (fr_set _) (by have := h.blk.set_ 6 (.int .i64 (x : Int)); exact this)
theorem FlM.set_rl (h : FlM w p a m) (x : Nat) : FlM (w.setCell ⟨p, 9, none⟩ (.int .i64 (x : Int))) p a { m with rl := x } := h.own (fr_set _) (by have := h.blk.set_ 9 (.int .i64 (x : Int)); exact this)
def countM (m : FM) (q : Pt) (by_ : Int) : FM :=
  if q.left = true then { m with nl := m.nl + by_, no := if q.st = 1 then m.no + by_ else m.no, nb := if q.st = 1 then m.nb else m.nb + by_ * (q.c.body.length : Int), df := if q.lk = 2 then fun n => if n = q.ln then m.df n + by_ else m.df n else m.df } else m
def Sm (x : Int) : Prop := -1000000000000000000 ≤ x ∧ x ≤ 1000000000000000000
/-- What a fragment's map of deadlines becomes. -/
theorem dea_step (h : FlM w p a m) {n : Nat} (hn : n < 4294967296) (y : Int) :
    ∃ w1, (Instr.mapUpdate 83 (.map (some a.de)) (.int .u32 (n : Int)) (.int .i64 y)).run Try.prog w = .ok () w1 ∧ Fr (fun i => i = a.de) w w1 ∧
      MapX u32X w1 a.de (putF (dfF m.df) n (.int .i64 y)) := by
  obtain ⟨w1, h1, h2, h3⟩ := h.dea.put (t := 83) Try.underlying83 (x := n) hn (.int .i64 y)
  exact ⟨w1, h1, (Fr.of_grown h3.grown).mono (fun i _ e => by injection e), h2⟩
/-- The map of deadlines behind 'm[n] += y' (and 'delete' where nothing is left). -/
theorem dfF_put {df : Nat → Int} {n : Nat} {y : Int} (h : y ≠ 0) : putF (dfF df) n (.int .i64 y) = dfF (fun k => if k = n then y else df k) := funext fun k => by
  unfold putF dfF
  by_cases e : k = n
  · simp [e, h]
  · simp [e]
theorem dfF_del {df : Nat → Int} {n : Nat} {v : Value} : delF (putF (dfF df) n v) n = dfF (fun k => if k = n then 0 else df k) := funext fun k => by
  unfold delF putF dfF
  by_cases e : k = n
  · simp [e]
  · simp [e]
theorem zero_int (w : World) : (zeroValue 3).run Try.prog w = .ok (.int .i64 0) w := by kernel_rfl
theorem dea_look (h : MapX u32X w a.de (dfF m.df)) {n : Nat} (hn : n < 4294967296) : ∀ k, (Instr.lookup 83 (.map (some a.de)) (.int .u32 (n : Int)) false).run Try.prog (w.drewN k) = .ok (.int .i64 (m.df n)) (w.drewN k) := fun k => by
  have h1 := MapX.look (h.drewN k) (t := 83) Try.underlying83 (zero_int _) (x := n) hn
  have e : (dfF m.df n).getD (.int .i64 0) = .int .i64 (m.df n) := by
    unfold dfF
    split
    · rename_i h0; rw [h0]; rfl
    · rfl
  rw [e] at h1
  exact h1
def CountDone (w : World) (p : Nat) (a : Ad) (m : FM) (q : Pt) (by_ : Int) (e : Ending) (w' : World) : Prop := e = .returned (.tuple #[]) ∧ FlM w' p a (countM m q by_) ∧ Fr (fun i => i = p ∨ i = a.de) w w'
set_option maxHeartbeats 4000000 in
theorem count_any (h : FlM w p a m) (k : FrAt w g o q b) {z : Int} (hz : z = 1 ∨ z = -1) (b1 : Sm m.nl) (b2 : Sm m.no) (b3 : Sm m.nb) (b4 : Sm (m.df q.ln)) (hb : q.c.body.length ≤ 1000000) (hln : q.ln < 4294967296) :
    Calls Try.prog 51 #[fptr p, eptr g o, .int .i64 z] w (CountDone w p a m q z) := by
  unfold Sm at b1 b2 b3 b4
  obtain ⟨st, hst⟩ : ∃ st, st = q.st := ⟨_, rfl⟩
  obtain ⟨lk, hlk⟩ : ∃ lk, lk = q.lk := ⟨_, rfl⟩
  obtain ⟨ln, hlne⟩ : ∃ ln, ln = q.ln := ⟨_, rfl⟩
  have HST := Lib.hid hst
  have HLK := Lib.hid hlk
  have HLN := Lib.hid hlne
  have hl := fun w0 (k0 : FrAt w0 g o q b) => left_any (w := w0) (g := g) (o := o) (st := st) (by rw [hst]; exact k0.c 6 (by omega))
  have HK := Lib.hid k
  have H0 := Lib.hid h
  clear hst hlk hlne
  by_cases hL : st = 0 ∨ st = 1
  · have hleft : q.left = true := by unfold Pt.left; rw [← HST.out]; simp; omega
    have HLF := Lib.hid hleft
    have e0 : (st == 0 || st == 1) = true := by simp; omega
    have hl' := hl w k
    rw [e0] at hl'
    have c4 : w.cell? ⟨p, 4, none⟩ = some (.int .i64 m.nl) := h.blk.cell 4
    have f4 := h.blk.frozen 4
    have hw1 : wrap64 (m.nl + z) = m.nl + z := IntWalk.wrap64_in _ (by omega)
    clear hl e0 k h hleft
    go_enter Try.func51, Try.ntmps51
    go_upto_region 2 with (go_at_call 44; refine hl'.mono ?_; rintro e w' ⟨rfl, rfl⟩)
    obtain ⟨W1, hW1⟩ : ∃ W1, W1 = w.setCell ⟨p, 4, none⟩ (.int .i64 (m.nl + z)) := ⟨_, rfl⟩
    have H1 : Hid (FlM W1 p a { m with nl := m.nl + z }) := by rw [hW1]; exact H0.out.set_nl _
    have hf1 : Fr (fun i => i = p) w W1 := by rw [hW1]; exact fr_set _
    have HK1 := Lib.hid (HK.out.fr hf1 (H0.out.gp HK.out))
    have HF1 : Hid (Fr (fun i => i = p ∨ i = a.de) w W1) := hf1.mono (fun i _ e => .inl e)
    have hst1 : W1.cell? ⟨g, o + 6, none⟩ = some (.int .i64 (st : Int)) := by rw [HST.out]; exact HK1.out.c 6 (by omega)
    have hlk1 : W1.cell? ⟨g, o + 1, none⟩ = some (.int .i64 (lk : Int)) := by rw [HLK.out]; exact HK1.out.c 1 (by omega)
    rw [← hW1]
    clear hW1 hf1 c4 f4 hw1 hl'
    obtain ⟨n, hn⟩ : ∃ n, n = q.c.body.length := ⟨_, rfl⟩
    obtain ⟨y, hy⟩ : ∃ y : Int, y = z * (n : Int) := ⟨_, rfl⟩
    have hyb : -1000000 ≤ y ∧ y ≤ 1000000 := by rcases hz with e | e <;> rw [e] at hy <;> omega
    have HY : Hid (z * (q.c.body.length : Int) = y) := by rw [hy, hn]; exact rfl
    have HN := Lib.hid hn
    have hlen : W1.cell? ⟨g, o + 7 + 18, none⟩ = some (.slice b.A n b.cap) := by rw [hn]; exact HK1.out.c 25 (by omega)
    clear hn
    rcases hL with hs | hs
    · subst hs
      have HS : Hid (q.st = 0) := HST.out.symm
      have hwy : wrap64 (z * (n : Int)) = y := by rw [← hy]; exact IntWalk.wrap64_in _ (by omega)
      have hwz : wrap64 (m.nb + y) = m.nb + y := IntWalk.wrap64_in _ (by omega)
      have c3 : W1.cell? ⟨p, 3, none⟩ = some (.int .i64 m.nb) := H1.out.blk.cell 3
      have f3 := H1.out.blk.frozen 3
      clear hy
      go_upto_region 4 with (fail)
      go_still_tail 15, (by kernel_rfl)
      change wpList _ _ _ _ _ W1.drew
      have hd : Below W1.heap.size W1 W1.drew := Below.drew (Below.refl _ _)
      obtain ⟨V1, hV1⟩ : ∃ V1, V1 = W1.drew := ⟨_, rfl⟩
      have HV1 : Hid (FlM V1 p a { m with nl := m.nl + z }) := by rw [hV1]; exact H1.out.below hd
      have HKV : Hid (FrAt V1 g o q b) := by rw [hV1]; exact ⟨HK1.out.c, HK1.out.k⟩
      have HFV : Hid (Fr (fun i => i = p ∨ i = a.de) w V1) := by rw [hV1]; exact HF1.out.drew
      have d3 : V1.cell? ⟨p, 3, none⟩ = some (.int .i64 m.nb) := by rw [hV1]; exact c3
      have f3' := HV1.out.blk.frozen 3
      have dlen : V1.cell? ⟨g, o + 7 + 18, none⟩ = some (.slice b.A n b.cap) := by rw [hV1]; exact hlen
      have dlk : V1.cell? ⟨g, o + 1, none⟩ = some (.int .i64 (lk : Int)) := by rw [hV1]; exact hlk1
      rw [← hV1]
      clear hV1 c3 f3 hlen hlk1 hst1 HK1 H1 HF1 hd
      go_upto_region 5 with (fail)
      obtain ⟨W2, hW2⟩ : ∃ W2, W2 = V1.setCell ⟨p, 3, none⟩ (.int .i64 (wrap64 (m.nb + wrap64 (z * (n : Int))))) := ⟨_, rfl⟩
      have H2 : Hid (FlM W2 p a { m with nl := m.nl + z, nb := m.nb + y }) := by rw [hW2, hwy, hwz]; exact HV1.out.set_nb _
      have hf2 : Fr (fun i => i = p) V1 W2 := by rw [hW2]; exact fr_set _
      have HK2 := Lib.hid (HKV.out.fr hf2 (HV1.out.gp HKV.out))
      have HF2 : Hid (Fr (fun i => i = p ∨ i = a.de) w W2) := HFV.out.same (hf2.mono (fun i _ e => .inl e))
      have hlk2 : W2.cell? ⟨g, o + 1, none⟩ = some (.int .i64 (lk : Int)) := by rw [HLK.out]; exact HK2.out.c 1 (by omega)
      rw [← hW2]
      clear hW2 hf2 d3 f3' dlen dlk hwy hwz HV1 HKV HFV
      by_cases h2 : lk = 2
      · subst h2
        obtain ⟨d, hd⟩ : ∃ d, d = m.df ln := ⟨_, rfl⟩
        have HD := Lib.hid hd
        have b4' : -1000000000000000000 ≤ d ∧ d ≤ 1000000000000000000 := by rw [hd, HLN.out]; exact b4
        obtain ⟨e1, he1⟩ : ∃ e1, e1 = d + z := ⟨_, rfl⟩
        have hwd : wrap64 (d + z) = d + z := IntWalk.wrap64_in _ (by omega)
        have HE1 := Lib.hid he1
        have hl32 : ln < 4294967296 := by rw [HLN.out]; exact hln
        have hlk2 := dea_look H2.out.dea hl32
        have c8 : W2.cell? ⟨p, 8, none⟩ = some (.map (some a.de)) := H2.out.blk.cell 8
        have c2 : W2.cell? ⟨g, o + 1 + 1, none⟩ = some (.int .u32 (ln : Int)) := by rw [HLN.out]; exact HK2.out.c 2 (by omega)
        rw [show ({ m with nl := m.nl + z, nb := m.nb + y } : FM).df ln = d from hd.symm] at hlk2
        obtain ⟨W3, hput, hf3, hm3⟩ := dea_step (w := W2.drew) (H2.out.below (Below.drew (Below.refl _ _))) hl32 (d + z)
        have hf3' : Fr (fun i => i = a.de) W2 W3 := ((Fr.refl _ W2).drew).same hf3
        have HM3 : Hid (MapX u32X W3 a.de (putF (dfF m.df) ln (.int .i64 e1))) := by rw [he1]; exact hm3
        have HF3 := Lib.hid hf3'
        have HK3 := Lib.hid (HK2.out.fr hf3' (H2.out.gd HK2.out))
        have c8' : W3.cell? ⟨p, 8, none⟩ = some (.map (some a.de)) := (World.cell?_of_block (hf3'.block p H2.out.blk.lt H2.out.pd)).trans c8
        have c2' : W3.cell? ⟨g, o + 1 + 1, none⟩ = some (.int .u32 (ln : Int)) := by rw [HLN.out]; exact HK3.out.c 2 (by omega)
        have hlk3 : (Instr.lookup 83 (.map (some a.de)) (.int .u32 (ln : Int)) false).run Try.prog W2.drew = .ok (.int .i64 d) W2.drew := hlk2 1
        clear hm3 hf3 hf3' hlk2 hd he1
        go_upto_region 6 with (fail)
        go_region
        go_upto_region 7 with (fail)
        have HE : Hid (FlM W3 p a { m with nl := m.nl + z, nb := m.nb + y, df := fun k => if k = ln then e1 else m.df k } ∨ e1 = 0) := by
          by_cases h0 : e1 = 0
          · exact .inr h0
          · refine .inl ((H2.out.deas HF3.out (df := fun k => if k = ln then e1 else m.df k) ?_))
            rw [← dfF_put h0]
            exact HM3.out
        have hlk4 : ∀ k, (Instr.lookup 83 (.map (some a.de)) (.int .u32 (ln : Int)) false).run Try.prog (W3.drewN k) = .ok (.int .i64 e1) (W3.drewN k) := fun k => by
          have h1 := MapX.look (HM3.out.drewN k) (t := 83) Try.underlying83 (zero_int _) (x := ln) hl32
          have e2 : (putF (dfF m.df) ln (.int .i64 e1) ln).getD (.int .i64 0) = .int .i64 e1 := by simp [putF]
          rw [e2] at h1
          exact h1
        clear hput hlk3 hwd c8 c2
        by_cases h0 : e1 = 0
        · subst h0
          go_quiet (fail)
          obtain ⟨W4, hW4⟩ : ∃ W4, W4 = W3.drewN nq := ⟨_, rfl⟩
          have hm4 : MapX u32X W4.drew a.de (putF (dfF m.df) ln (.int .i64 0)) := by rw [hW4]; exact (HM3.out.drewN nq).drew
          obtain ⟨W5, hdel, hm5, ht5⟩ := hm4.del (t := 83) Try.underlying83 (x := ln) hl32 0
          have hdel2 : (Builtin.delete_ #[83, 22] 0 #[.map (some a.de), .int .u32 (ln : Int)]).run Try.prog W4.drew = .ok (.tuple #[]) W5 := hdel
          have hf5 : Fr (fun i => i = a.de) W3 W5 := by
            have h1 : Fr (fun i => i = a.de) W3 W4 := by rw [hW4]; exact (Fr.refl _ W3).drewN nq
            exact h1.drew.same ((Fr.of_grown ht5.grown).mono (fun i _ e => by injection e))
          have HF5 : Hid (Fr (fun i => i = p ∨ i = a.de) w W5) := HF2.out.same ((HF3.out.same hf5).mono (fun i _ e => .inr e))
          have H5 : Hid (FlM W5 p a { m with nl := m.nl + z, nb := m.nb + y, df := fun k => if k = ln then 0 else m.df k }) := by
            refine H2.out.deas (HF3.out.same hf5) (df := fun k => if k = ln then 0 else m.df k) ?_
            rw [← dfF_del (v := .int .i64 0)]
            exact hm5
          have c8'' : W4.cell? ⟨p, 8, none⟩ = some (.map (some a.de)) := by rw [hW4]; exact c8'
          have c2'' : W4.cell? ⟨g, o + 1 + 1, none⟩ = some (.int .u32 (ln : Int)) := by rw [hW4]; exact c2'
          rw [← hW4]
          clear hW4 hm4 hm5 ht5 hf5 hdel c8' c2' hlk4
          go_upto_region 8 with (fail)
          go_region
          go_wp2_with fail
          go_end0
          refine ⟨rfl, ?_, HF5.out⟩
          have e : countM m q z = { m with nl := m.nl + z, nb := m.nb + y, df := fun k => if k = ln then 0 else m.df k } := by
            unfold countM
            have hd0 : m.df q.ln + z = 0 := by rw [← HLN.out, ← HD.out]; exact HE1.out.symm
            have hdf : (fun n => if n = q.ln then m.df n + z else m.df n) = fun k => if k = ln then 0 else m.df k := funext fun n => by
              rw [HLN.out]
              by_cases hh : n = q.ln
              · rw [if_pos hh, if_pos hh, hh, hd0]
              · rw [if_neg hh, if_neg hh]
            rw [if_pos HLF.out]
            simp [HS.out, ← HLK.out, HY.out, hdf]
          rw [e]
          exact H5.out
        · have hb0 : (e1 == 0) = false := by simpa using h0
          go_quiet (fail)
          obtain ⟨W4, hW4⟩ : ∃ W4, W4 = W3.drewN nq := ⟨_, rfl⟩
          have H4 : Hid (FlM W4 p a { m with nl := m.nl + z, nb := m.nb + y, df := fun k => if k = ln then e1 else m.df k }) := by
            rcases HE.out with h1 | h1
            · rw [hW4]; exact h1.fr ((Fr.refl (fun _ => False) W3).drewN nq) (fun i h _ _ => h)
            · exact absurd h1 h0
          have HF5 : Hid (Fr (fun i => i = p ∨ i = a.de) w W4) := HF2.out.same ((by rw [hW4]; exact HF3.out.drewN nq : Fr (fun i => i = a.de) W2 W4).mono (fun i _ e => .inr e))
          rw [← hW4]
          clear hW4 hlk4
          go_wp2_with fail
          go_end0
          refine ⟨rfl, ?_, HF5.out⟩
          have e : countM m q z = { m with nl := m.nl + z, nb := m.nb + y, df := fun k => if k = ln then e1 else m.df k } := by
            unfold countM
            have hdf : (fun n => if n = q.ln then m.df n + z else m.df n) = fun k => if k = ln then e1 else m.df k := funext fun n => by
              rw [HLN.out]
              by_cases hh : n = q.ln
              · rw [if_pos hh, if_pos hh, hh, HE1.out, HD.out, HLN.out]
              · rw [if_neg hh, if_neg hh]
            rw [if_pos HLF.out]
            simp [HS.out, ← HLK.out, HY.out, hdf]
          rw [e]
          exact H4.out
      · have b2' : ((lk : Int) == 2) = false := beq_no (by omega)
        go_wp2_with fail
        go_end0
        refine ⟨rfl, ?_, HF2.out⟩
        have e : countM m q z = { m with nl := m.nl + z, nb := m.nb + y } := by
          unfold countM
          have hq2 : ¬ q.lk = 2 := by rw [← HLK.out]; exact h2
          rw [if_pos HLF.out]
          simp [HS.out, hq2, HY.out]
        rw [e]
        exact H2.out
    · subst hs
      have HS : Hid (q.st = 1) := HST.out.symm
      have hwz : wrap64 (m.no + z) = m.no + z := IntWalk.wrap64_in _ (by omega)
      have c3 : W1.cell? ⟨p, 5, none⟩ = some (.int .i64 m.no) := H1.out.blk.cell 5
      have f3 := H1.out.blk.frozen 5
      clear hy
      go_upto_region 5 with (fail)
      obtain ⟨W2, hW2⟩ : ∃ W2, W2 = W1.setCell ⟨p, 5, none⟩ (.int .i64 (m.no + z)) := ⟨_, rfl⟩
      have H2 : Hid (FlM W2 p a { m with nl := m.nl + z, no := m.no + z }) := by rw [hW2]; exact H1.out.set_no _
      have hf2 : Fr (fun i => i = p) W1 W2 := by rw [hW2]; exact fr_set _
      have HK2 := Lib.hid (HK1.out.fr hf2 (H1.out.gp HK1.out))
      have HF2 : Hid (Fr (fun i => i = p ∨ i = a.de) w W2) := HF1.out.same (hf2.mono (fun i _ e => .inl e))
      have hlk2 : W2.cell? ⟨g, o + 1, none⟩ = some (.int .i64 (lk : Int)) := by rw [HLK.out]; exact HK2.out.c 1 (by omega)
      rw [← hW2]
      clear hW2 hf2 c3 f3 hwz hlen hlk1 hst1 HK1 H1 HF1
      by_cases h2 : lk = 2
      · subst h2
        obtain ⟨d, hd⟩ : ∃ d, d = m.df ln := ⟨_, rfl⟩
        have HD := Lib.hid hd
        have b4' : -1000000000000000000 ≤ d ∧ d ≤ 1000000000000000000 := by rw [hd, HLN.out]; exact b4
        obtain ⟨e1, he1⟩ : ∃ e1, e1 = d + z := ⟨_, rfl⟩
        have hwd : wrap64 (d + z) = d + z := IntWalk.wrap64_in _ (by omega)
        have HE1 := Lib.hid he1
        have hl32 : ln < 4294967296 := by rw [HLN.out]; exact hln
        have hlk2 := dea_look H2.out.dea hl32
        have c8 : W2.cell? ⟨p, 8, none⟩ = some (.map (some a.de)) := H2.out.blk.cell 8
        have c2 : W2.cell? ⟨g, o + 1 + 1, none⟩ = some (.int .u32 (ln : Int)) := by rw [HLN.out]; exact HK2.out.c 2 (by omega)
        rw [show ({ m with nl := m.nl + z, no := m.no + z } : FM).df ln = d from hd.symm] at hlk2
        obtain ⟨W3, hput, hf3, hm3⟩ := dea_step (w := W2.drew) (H2.out.below (Below.drew (Below.refl _ _))) hl32 (d + z)
        have hf3' : Fr (fun i => i = a.de) W2 W3 := ((Fr.refl _ W2).drew).same hf3
        have HM3 : Hid (MapX u32X W3 a.de (putF (dfF m.df) ln (.int .i64 e1))) := by rw [he1]; exact hm3
        have HF3 := Lib.hid hf3'
        have HK3 := Lib.hid (HK2.out.fr hf3' (H2.out.gd HK2.out))
        have c8' : W3.cell? ⟨p, 8, none⟩ = some (.map (some a.de)) := (World.cell?_of_block (hf3'.block p H2.out.blk.lt H2.out.pd)).trans c8
        have c2' : W3.cell? ⟨g, o + 1 + 1, none⟩ = some (.int .u32 (ln : Int)) := by rw [HLN.out]; exact HK3.out.c 2 (by omega)
        have hlk3 : (Instr.lookup 83 (.map (some a.de)) (.int .u32 (ln : Int)) false).run Try.prog W2.drew = .ok (.int .i64 d) W2.drew := hlk2 1
        clear hm3 hf3 hf3' hlk2 hd he1
        go_upto_region 6 with (fail)
        go_region
        go_upto_region 7 with (fail)
        have HE : Hid (FlM W3 p a { m with nl := m.nl + z, no := m.no + z, df := fun k => if k = ln then e1 else m.df k } ∨ e1 = 0) := by
          by_cases h0 : e1 = 0
          · exact .inr h0
          · refine .inl ((H2.out.deas HF3.out (df := fun k => if k = ln then e1 else m.df k) ?_))
            rw [← dfF_put h0]
            exact HM3.out
        have hlk4 : ∀ k, (Instr.lookup 83 (.map (some a.de)) (.int .u32 (ln : Int)) false).run Try.prog (W3.drewN k) = .ok (.int .i64 e1) (W3.drewN k) := fun k => by
          have h1 := MapX.look (HM3.out.drewN k) (t := 83) Try.underlying83 (zero_int _) (x := ln) hl32
          have e2 : (putF (dfF m.df) ln (.int .i64 e1) ln).getD (.int .i64 0) = .int .i64 e1 := by simp [putF]
          rw [e2] at h1
          exact h1
        clear hput hlk3 hwd c8 c2
        by_cases h0 : e1 = 0
        · subst h0
          go_quiet (fail)
          obtain ⟨W4, hW4⟩ : ∃ W4, W4 = W3.drewN nq := ⟨_, rfl⟩
          have hm4 : MapX u32X W4.drew a.de (putF (dfF m.df) ln (.int .i64 0)) := by rw [hW4]; exact (HM3.out.drewN nq).drew
          obtain ⟨W5, hdel, hm5, ht5⟩ := hm4.del (t := 83) Try.underlying83 (x := ln) hl32 0
          have hdel2 : (Builtin.delete_ #[83, 22] 0 #[.map (some a.de), .int .u32 (ln : Int)]).run Try.prog W4.drew = .ok (.tuple #[]) W5 := hdel
          have hf5 : Fr (fun i => i = a.de) W3 W5 := by
            have h1 : Fr (fun i => i = a.de) W3 W4 := by rw [hW4]; exact (Fr.refl _ W3).drewN nq
            exact h1.drew.same ((Fr.of_grown ht5.grown).mono (fun i _ e => by injection e))
          have HF5 : Hid (Fr (fun i => i = p ∨ i = a.de) w W5) := HF2.out.same ((HF3.out.same hf5).mono (fun i _ e => .inr e))
          have H5 : Hid (FlM W5 p a { m with nl := m.nl + z, no := m.no + z, df := fun k => if k = ln then 0 else m.df k }) := by
            refine H2.out.deas (HF3.out.same hf5) (df := fun k => if k = ln then 0 else m.df k) ?_
            rw [← dfF_del (v := .int .i64 0)]
            exact hm5
          have c8'' : W4.cell? ⟨p, 8, none⟩ = some (.map (some a.de)) := by rw [hW4]; exact c8'
          have c2'' : W4.cell? ⟨g, o + 1 + 1, none⟩ = some (.int .u32 (ln : Int)) := by rw [hW4]; exact c2'
          rw [← hW4]
          clear hW4 hm4 hm5 ht5 hf5 hdel c8' c2' hlk4
          go_upto_region 8 with (fail)
          go_region
          go_wp2_with fail
          go_end0
          refine ⟨rfl, ?_, HF5.out⟩
          have e : countM m q z = { m with nl := m.nl + z, no := m.no + z, df := fun k => if k = ln then 0 else m.df k } := by
            unfold countM
            have hd0 : m.df q.ln + z = 0 := by rw [← HLN.out, ← HD.out]; exact HE1.out.symm
            have hdf : (fun n => if n = q.ln then m.df n + z else m.df n) = fun k => if k = ln then 0 else m.df k := funext fun n => by
              rw [HLN.out]
              by_cases hh : n = q.ln
              · rw [if_pos hh, if_pos hh, hh, hd0]
              · rw [if_neg hh, if_neg hh]
            rw [if_pos HLF.out]
            simp [HS.out, ← HLK.out, HY.out, hdf]
          rw [e]
          exact H5.out
        · have hb0 : (e1 == 0) = false := by simpa using h0
          go_quiet (fail)
          obtain ⟨W4, hW4⟩ : ∃ W4, W4 = W3.drewN nq := ⟨_, rfl⟩
          have H4 : Hid (FlM W4 p a { m with nl := m.nl + z, no := m.no + z, df := fun k => if k = ln then e1 else m.df k }) := by
            rcases HE.out with h1 | h1
            · rw [hW4]; exact h1.fr ((Fr.refl (fun _ => False) W3).drewN nq) (fun i h _ _ => h)
            · exact absurd h1 h0
          have HF5 : Hid (Fr (fun i => i = p ∨ i = a.de) w W4) := HF2.out.same ((by rw [hW4]; exact HF3.out.drewN nq : Fr (fun i => i = a.de) W2 W4).mono (fun i _ e => .inr e))
          rw [← hW4]
          clear hW4 hlk4
          go_wp2_with fail
          go_end0
          refine ⟨rfl, ?_, HF5.out⟩
          have e : countM m q z = { m with nl := m.nl + z, no := m.no + z, df := fun k => if k = ln then e1 else m.df k } := by
            unfold countM
            have hdf : (fun n => if n = q.ln then m.df n + z else m.df n) = fun k => if k = ln then e1 else m.df k := funext fun n => by
              rw [HLN.out]
              by_cases hh : n = q.ln
              · rw [if_pos hh, if_pos hh, hh, HE1.out, HD.out, HLN.out]
              · rw [if_neg hh, if_neg hh]
            rw [if_pos HLF.out]
            simp [HS.out, ← HLK.out, HY.out, hdf]
          rw [e]
          exact H4.out
      · have b2' : ((lk : Int) == 2) = false := beq_no (by omega)
        go_wp2_with fail
        go_end0
        refine ⟨rfl, ?_, HF2.out⟩
        have e : countM m q z = { m with nl := m.nl + z, no := m.no + z } := by
          unfold countM
          have hq2 : ¬ q.lk = 2 := by rw [← HLK.out]; exact h2
          rw [if_pos HLF.out]
          simp [HS.out, hq2, HY.out]
        rw [e]
        exact H2.out
  · have e0 : (st == 0 || st == 1) = false := by simp; omega
    have hl' := hl w k
    rw [e0] at hl'
    have hc : countM m q z = m := by
      unfold countM
      rw [if_neg (by unfold Pt.left; rw [← HST.out, e0]; simp)]
    clear hl e0 k h
    go_enter Try.func51, Try.ntmps51
    go_wp2_with (go_at_call 44; refine hl'.mono ?_; rintro e w' ⟨rfl, rfl⟩)
    go_end0
    exact ⟨rfl, by rw [hc]; exact H0.out, Fr.refl _ _⟩
end
end Go.Proofs.Ytfgfiiknbkakaaa.Fl

set_option linter.unusedVariables false
set_option linter.unusedSimpArgs false
set_option maxRecDepth 20000
namespace Go.Proofs.Ytfgfiiknbkakaaa.Fl
open Go.ChangeShapes Go.WideShapes Go.ChangeAt Go.RowKit Go.Deep Go.Maps Go.Proofs.Ytfgfiiknbkakaaa.Words Go.Proofs.Ytfgfiiknbkakaaa.Oct Go.Proofs.Ytfgfiiknbkakaaa.Par Go.Proofs.Ytfgfiiknbkakaaa.Chk Go.Proofs.Ytfgfiiknbkakaaa.Mx
theorem built_rest (s6 m7 : Nat) (b3 : Bool) : Try.prog.built 35 [(6, .int .u16 (s6 : Int)), (3, .bool b3), (7, .int .u32 (m7 : Int))] = some (bareA { zeroC 0 with st := s6, lo := b3, mid := m7 } none 0 0) := by kernel_rfl
theorem bareA_one (c : Ck) (A : Option Addr) (n cp : Nat) : (bareA c A n cp).all (·.oneCell') = true := by simp [bareA, ckArr, Value.oneCell']
theorem wpList_build_3 {P : Program} {ops : Array Oper} {rest : List Oper} {o : Oper} {a : Act} {w : World} {Q : Exit → Act → World → Prop} (hg : o.guard = none) (t : TypeId) {i j k : Nat} {x0 x5 x1 : Operand} (ho : o.op = .build t #[(i, x0), (j, x5), (k, x1)]) (v0 v5 v1 : Value)
    (h0 : a.eval x0 = v0) (h5 : a.eval x5 = v5) (h1 : a.eval x1 = v1) (cells : Array Value)
    (hf : P.built t [(i, v0), (j, v5), (k, v1)] = some cells) (h : wpList P ops Q rest (a.put o.dst (.agg cells)) w) : wpList P ops Q (o :: rest) a w := by
  subst h0 h5 h1
  exact wpList_build_as hg t _ ho cells (by simpa using hf) h
set_option maxHeartbeats 1000000 in
theorem rest_any (c : Ck) (A : Option Addr) (n cp : Nat) (w : World) : Calls Try.prog 58 #[.agg (bareA c A n cp)] w fun e w' => e = .returned (.agg (bareA (restC c) none 0 0)) ∧ Below w.heap.size w w' := by
  obtain ⟨cs, hcs⟩ : ∃ cs, cs = bareA c A n cp := ⟨_, rfl⟩
  have e3 : cs[3]? = some (.bool c.lo) := by rw [hcs]; rfl
  have e6 : cs[6]? = some (.int .u16 (c.st : Int)) := by rw [hcs]; rfl
  have e7 : cs[7]? = some (.int .u32 (c.mid : Int)) := by rw [hcs]; rfl
  rw [← hcs]
  clear hcs
  have hbt : Try.prog.built 35 [(6, .int .u16 (c.st : Int)), (3, .bool c.lo), (7, .int .u32 (c.mid : Int))] = some (bareA (restC c) none 0 0) := built_rest c.st c.mid c.lo
  obtain ⟨R, hR⟩ : ∃ R, R = bareA (restC c) none 0 0 := ⟨_, rfl⟩
  have HR1 : Hid (R.all (·.oneCell') = true) := by rw [hR]; exact bareA_one _ _ _ _
  have HRS : Hid (R.size = 19) := by rw [hR]; rfl
  have HCI : Hid ((Try.prog.info? 35).map (·.size) = some R.size) := by rw [HRS.out]; exact chunk_info
  have HZS : Hid (zkA.size = R.size) := by rw [HRS.out]; rfl
  rw [← hR] at hbt ⊢
  clear hR
  obtain ⟨b3, hb3⟩ : ∃ x, x = c.lo := ⟨_, rfl⟩
  obtain ⟨s6, hs6⟩ : ∃ x, x = c.st := ⟨_, rfl⟩
  obtain ⟨m7, hm7⟩ : ∃ x, x = c.mid := ⟨_, rfl⟩
  rw [← hb3] at e3 hbt
  rw [← hs6] at e6 hbt
  rw [← hm7] at e7 hbt
  have HBT := Lib.hid hbt
  clear hbt
  clear hb3 hs6 hm7
  have hB1 := below_one w (.cells cs 35)
  have k1 := Blk.new w 35 cs
  obtain ⟨W1, hW1⟩ : ∃ W1, W1 = w.alloc (.cells cs 35) := ⟨_, rfl⟩
  obtain ⟨g1, hg1⟩ : ∃ g1, g1 = w.heap.size := ⟨_, rfl⟩
  rw [← hW1] at hB1 k1
  rw [← hg1] at k1
  have hb2 := below_one W1 (.cells zkA 35)
  have k2 := Blk.new W1 35 zkA
  obtain ⟨W2, hW2⟩ : ∃ W2, W2 = W1.alloc (.cells zkA 35) := ⟨_, rfl⟩
  obtain ⟨g2, hg2⟩ : ∃ g2, g2 = W1.heap.size := ⟨_, rfl⟩
  rw [← hW2] at hb2 k2
  rw [← hg2] at k2
  have k1' := blk_below k1 hb2
  have c3 : W2.cell? ⟨g1, 3, none⟩ = some (.bool b3) := (k1'.cell 3).trans e3
  have c6 : W2.cell? ⟨g1, 6, none⟩ = some (.int .u16 (s6 : Int)) := (k1'.cell 6).trans e6
  have c7 : W2.cell? ⟨g1, 7, none⟩ = some (.int .u32 (m7 : Int)) := (k1'.cell 7).trans e7
  have HK2 := Lib.hid k2
  have HB2 : Hid (Below w.heap.size w W2) := hB1.trans (hb2.mono hB1.size)
  have HG2 : Hid (w.heap.size ≤ g2) := by rw [hg2]; exact hB1.size
  clear k1 k1' k2 hB1 hb2 e3 e6 e7
  go_enter Try.func58, Try.ntmps58
  go_upto_region 1 with (with_reducible refine wpList_alloc_run _ rfl 35 rfl (alloc_zk _) ?_)
  rw [← hW1, ← hW2, ← hg1, ← hg2]
  clear hW1 hW2 hg1 hg2
  go_wp2_with (first
    | (refine wpList_build_3 rfl 35 rfl (.int .u16 (s6 : Int)) (.bool b3) (.int .u32 (m7 : Int)) rfl rfl rfl R HBT.out ?_)
    | (refine wpList_store_row rfl 35 _ _ rfl _ R rfl rfl 35 zkA HK2.out HCI.out HZS.out HR1.out ?_))
  refine bodyPost_ret (results_cell_row rfl _ _ g2 35 R (0, 0) _ rfl (setRow_blk HK2.out) Try.underlying35 rfl HCI.out) rfl ?_
  exact ⟨rfl, below_setRow HB2.out HG2.out _⟩
theorem cleargap (w : World) : Calls Try.prog 52 #[nilV] w fun e w' => e = .returned nilV ∧ w = w' := by
  have hnil := fun (W : World) (a : Option Addr) (n c : Nat) => Lib.run_eql_slice_nil (P := Try.prog) W 30 42 a n c 0 0 Try.underlying30
  go_enter Try.func52, Try.ntmps52
  go_wp2
  go_ret
  exact ⟨rfl, rfl⟩
theorem cleardup (w : World) : Calls Try.prog 53 #[nilV] w fun e w' => e = .returned nilV ∧ w = w' := by
  have hnil := fun (W : World) (a : Option Addr) (n c : Nat) => Lib.run_eql_slice_nil (P := Try.prog) W 31 22 a n c 0 0 Try.underlying31
  go_enter Try.func53, Try.ntmps53
  go_wp2
  go_ret
  exact ⟨rfl, rfl⟩
theorem clearsk (w : World) : Calls Try.prog 54 #[nilV] w fun e w' => e = .returned nilV ∧ w = w' := by
  have hnil := fun (W : World) (a : Option Addr) (n c : Nat) => Lib.run_eql_slice_nil (P := Try.prog) W 32 122 a n c 0 0 Try.underlying32
  go_enter Try.func54, Try.ntmps54
  go_wp2
  go_ret
  exact ⟨rfl, rfl⟩
theorem clearps (w : World) : Calls Try.prog 55 #[nilV] w fun e w' => e = .returned nilV ∧ w = w' := by
  have hnil := fun (W : World) (a : Option Addr) (n c : Nat) => Lib.run_eql_slice_nil (P := Try.prog) W 33 125 a n c 0 0 Try.underlying33
  go_enter Try.func55, Try.ntmps55
  go_wp2
  go_ret
  exact ⟨rfl, rfl⟩
end Go.Proofs.Ytfgfiiknbkakaaa.Fl

set_option linter.unusedVariables false
set_option linter.unusedSimpArgs false
set_option maxRecDepth 20000
namespace Go.Proofs.Ytfgfiiknbkakaaa.Fl
open Go.ChangeShapes Go.WideShapes Go.ChangeAt Go.RowKit Go.Deep Go.Maps Go.Proofs.Ytfgfiiknbkakaaa.Words Go.Proofs.Ytfgfiiknbkakaaa.Oct Go.Proofs.Ytfgfiiknbkakaaa.Par Go.Proofs.Ytfgfiiknbkakaaa.Chk Go.Proofs.Ytfgfiiknbkakaaa.Mx
/-- What a clone of a chunk leaves. -/
def CloneDone (w : World) (c : Ck) (e : Ending) (w' : World) : Prop := ∃ (b : Hd), e = .returned (.agg (bareA c b.A c.body.length b.cap)) ∧ Own w' w.heap.size (b.v c.body.length) c.body ∧ Below w.heap.size w w'
set_option maxHeartbeats 4000000 in
theorem clone_ck {c : Ck} {A : Option Addr} {n cp : Nat} {w : World} (hn : n = c.body.length) (hl : c.body.length ≤ 1000000) (hy : Byt w w.heap.size A c.body) : Calls Try.prog 32 #[.agg (bareA c A n cp)] w (CloneDone w c) := by
  obtain ⟨cs, hcs⟩ : ∃ cs, cs = bareA c A n cp := ⟨_, rfl⟩
  have HE14 : Hid (cs[14]? = some nilV) := by rw [hcs]; rfl
  have HE15 : Hid (cs[15]? = some nilV) := by rw [hcs]; rfl
  have HE16 : Hid (cs[16]? = some nilV) := by rw [hcs]; rfl
  have HE17 : Hid (cs[17]? = some nilV) := by rw [hcs]; rfl
  have HE18 : Hid (cs[18]? = some (.slice A n cp)) := by rw [hcs]; rfl
  have HCS := Lib.hid hcs
  have HSZ : Hid (cs.size = 19) := by rw [hcs]; rfl
  have HONE : Hid (cs.all (·.oneCell') = true) := by rw [hcs]; exact bareA_one _ _ _ _
  rw [← hcs]
  clear hcs
  have hs : ∀ i, cs[i]? = some nilV → cs.setIfInBounds i nilV = cs := fun i hi => by
    apply Array.ext_getElem?
    intro j
    rw [Array.getElem?_setIfInBounds]
    split
    · rename_i h
      subst h
      rw [hi]
      split
      · rfl
      · rename_i h2
        rw [Array.getElem?_eq_none (by omega)] at hi; cases hi
    · rfl
  have hB1 := below_one w (.cells cs 35)
  have k1 := Blk.new w 35 cs
  have hgs := World.size_alloc w (.cells cs 35)
  obtain ⟨W1, hW1⟩ : ∃ W1, W1 = w.alloc (.cells cs 35) := ⟨_, rfl⟩
  obtain ⟨g1, hg1⟩ : ∃ g1, g1 = w.heap.size := ⟨_, rfl⟩
  rw [← hW1] at hB1 k1 hgs
  rw [← hg1] at k1
  have hb2 := below_one W1 (.cells zkA 35)
  have k2 := Blk.new W1 35 zkA
  obtain ⟨W2, hW2⟩ : ∃ W2, W2 = W1.alloc (.cells zkA 35) := ⟨_, rfl⟩
  obtain ⟨g2, hg2⟩ : ∃ g2, g2 = W1.heap.size := ⟨_, rfl⟩
  rw [← hW2] at hb2 k2
  rw [← hg2] at k2
  have hne : g1 ≠ g2 := by rw [hg1, hg2, hgs]; omega
  have HG1 : Hid (w.heap.size ≤ g1) := by rw [hg1]; exact Nat.le_refl _
  have HG2 : Hid (w.heap.size ≤ g2) := by rw [hg2]; exact hB1.size
  have HNE := Lib.hid hne
  have hB2 : Below w.heap.size w W2 := hB1.trans (hb2.mono hB1.size)
  have k1' := blk_below k1 hb2
  -- setting a list that is nil to nil changes the block to itself
  have hset : ∀ V, CkBlk V g1 cs → ∀ i, cs[i]? = some nilV → CkBlk (V.setCell ⟨g1, i, none⟩ nilV) g1 cs := fun V hV i hi => by have := hV.set_ i nilV; rw [hs i hi] at this; exact this
  have c14 : W2.cell? ⟨g1, 14, none⟩ = some nilV := (k1'.cell 14).trans HE14.out
  have f14 := k1'.frozen 14
  have k3 := hset W2 k1' 14 HE14.out
  obtain ⟨W3, hW3⟩ : ∃ W3, W3 = W2.setCell ⟨g1, 14, none⟩ nilV := ⟨_, rfl⟩
  rw [← hW3] at k3
  have c15 : W3.cell? ⟨g1, 15, none⟩ = some nilV := (k3.cell 15).trans HE15.out
  have f15 := k3.frozen 15
  have k4 := hset W3 k3 15 HE15.out
  obtain ⟨W4, hW4⟩ : ∃ W4, W4 = W3.setCell ⟨g1, 15, none⟩ nilV := ⟨_, rfl⟩
  rw [← hW4] at k4
  have c16 : W4.cell? ⟨g1, 16, none⟩ = some nilV := (k4.cell 16).trans HE16.out
  have f16 := k4.frozen 16
  have k5 := hset W4 k4 16 HE16.out
  obtain ⟨W5, hW5⟩ : ∃ W5, W5 = W4.setCell ⟨g1, 16, none⟩ nilV := ⟨_, rfl⟩
  rw [← hW5] at k5
  have c17 : W5.cell? ⟨g1, 17, none⟩ = some nilV := (k5.cell 17).trans HE17.out
  have f17 := k5.frozen 17
  have k6 := hset W5 k5 17 HE17.out
  obtain ⟨W6, hW6⟩ : ∃ W6, W6 = W5.setCell ⟨g1, 17, none⟩ nilV := ⟨_, rfl⟩
  rw [← hW6] at k6
  have d17 : W6.cell? ⟨g1, 17, none⟩ = some nilV := (k6.cell 17).trans HE17.out
  have d18 : W6.cell? ⟨g1, 18, none⟩ = some (.slice A n cp) := (k6.cell 18).trans HE18.out
  have hf1 : Fr (fun i => i = g1) W2 W6 := by rw [hW6, hW5, hW4, hW3]; exact (((fr_set _).same (fr_set _)).same (fr_set _)).same (fr_set _)
  have hB6 : Below w.heap.size w W6 := below_fr hB2 hf1 (Nat.le_refl _) (fun x e => by rw [show x = g1 from e]; exact HG1.out)
  have HB6 := Lib.hid hB6
  have HK6 := Lib.hid k6
  have HZ6 : Hid (CkBlk W6 g2 zkA) := hf1.blk k2 (fun e => hne e.symm)
  have HY : Hid (Byt W6 W6.heap.size A c.body) := (hy.below hB6).more hB6.size
  clear hB1 k1 hgs hb2 k2 hne hB2 k1' hset k3 k4 k5 k6 hf1 hB6 hs
  go_enter Try.func32, Try.ntmps32
  go_upto_region 1 with (with_reducible refine wpList_alloc_run _ rfl 35 rfl (alloc_zk _) ?_)
  rw [← hW1, ← hW2, ← hg1, ← hg2]
  clear hW1 hW2 hg1 hg2
  go_upto_region 2 with (go_at_call 52; refine (cleargap _).mono ?_; rintro e w' ⟨rfl, rfl⟩)
  rw [← hW3]
  clear hW3 c14 f14
  go_upto_region 3 with (go_at_call 53; refine (cleardup _).mono ?_; rintro e w' ⟨rfl, rfl⟩)
  rw [← hW4]
  clear hW4 c15 f15
  go_upto_region 4 with (go_at_call 54; refine (clearsk _).mono ?_; rintro e w' ⟨rfl, rfl⟩)
  rw [← hW5]
  clear hW5 c16 f16
  go_upto_region 5 with (go_at_call 55; refine (clearps _).mono ?_; rintro e w' ⟨rfl, rfl⟩)
  rw [← hW6]
  clear hW6 c17 f17
  have HSC : Hid (CkBlk W6 g1 cs) := HK6.out
  have hcl := clone_as A c.body n cp W6 hn hl HY.out
  have HN := Lib.hid hn
  clear hn hl
  go_upto_region 6 with (fail)
  obtain ⟨wo, rfl⟩ : ∃ wo : World, wo = W6 := ⟨_, rfl⟩
  go_loopw [24] (fun v24 wr => v24 = .int .i64 0 ∧ wo = wr) (fun _ _ => 0)
  case atStart => exact ⟨rfl, rfl⟩
  case round =>
    obtain ⟨rfl, rfl⟩ := hrel
    go_wp2_with fail
    refine hcl.mono ?_
    rintro e W7 ⟨⟨v, rfl, ho⟩, hb7⟩
    obtain ⟨A', c', rfl, h1, h2⟩ := own_slice ho
    have HO := Lib.hid ho
    have hk7 := blk_below HK6.out hb7
    have HZ7 := Lib.hid (blk_below HZ6.out hb7)
    have hB7 : Below w.heap.size w W7 := HB6.out.trans (hb7.mono HB6.out.size)
    have hg1 := HG1.out
    have c18 : W7.cell? ⟨g1, 18, none⟩ = some (.slice A n cp) := (hk7.cell 18).trans HE18.out
    have f18 := hk7.frozen 18
    obtain ⟨nb, hnb⟩ : ∃ nb, nb = c.body.length := ⟨_, rfl⟩
    have HNB := Lib.hid hnb
    rw [← hnb] at HO ⊢
    obtain ⟨W8, hW8⟩ : ∃ W8, W8 = W7.setCell ⟨g1, 18, none⟩ (.slice A' nb c') := ⟨_, rfl⟩
    obtain ⟨cs', hcs'⟩ : ∃ cs', cs' = cs.setIfInBounds 18 (.slice A' nb c') := ⟨_, rfl⟩
    have HK8 : Hid (CkBlk W8 g1 cs') := by rw [hW8, hcs']; exact hk7.set_ 18 _
    have hf8 : Fr (fun i => i = g1) W7 W8 := by rw [hW8]; exact fr_set _
    have HZ8 : Hid (CkBlk W8 g2 zkA) := hf8.blk HZ7.out (fun e => HNE.out e.symm)
    have HB8 : Hid (Below w.heap.size w W8) := below_fr hB7 hf8 (Nat.le_refl _) (fun x e => by rw [show x = g1 from e]; exact hg1)
    have HCS' : Hid (cs' = bareA c A' nb c') := by rw [hcs', HCS.out, HNB.out]; rfl
    have HSZ' : Hid (cs'.size = 19) := by rw [HCS'.out]; rfl
    have HON' : Hid (cs'.all (·.oneCell') = true) := by rw [HCS'.out]; exact bareA_one _ _ _ _
    have HCI : Hid ((Try.prog.info? 35).map (·.size) = some cs'.size) := by rw [HSZ'.out]; exact chunk_info
    have HZS : Hid (zkA.size = cs'.size) := by rw [HSZ'.out]; rfl
    have HO8 : Hid (Own W8 wo.heap.size (.slice A' nb c') c.body) := by
      refine hf8.own HO.out (fun g hg => ?_)
      intro e
      have h9 := HO.out.lt g hg
      rw [show g = g1 from e] at h9
      have := HK6.out.lt
      omega
    clear hb7 hk7 hB7 hg1 hnb hcs' hf8 ho
    go_upto_region 11 with (fail)
    rw [← hW8]
    clear hW8 c18 f18
    go_wp2_with (first
      | (refine wpList_load_row rfl 35 _ rfl g1 rfl 35 cs' (0, 0) _ HK8.out Try.underlying35 rfl HCI.out ?_)
      | (refine wpList_store_row rfl 35 _ _ rfl _ cs' rfl rfl 35 zkA HZ8.out HCI.out HZS.out HON'.out ?_))
    (try simp only [Exit.inBlock, Exit.then])
    refine bodyPost_ret (results_cell_row rfl _ _ g2 35 cs' (0, 0) _ rfl (setRow_blk HZ8.out) Try.underlying35 rfl HCI.out) rfl ?_
    have hbs := HB6.out.size
    refine ⟨⟨A', c'⟩, by rw [HCS'.out, HNB.out], ?_, below_setRow HB8.out HG2.out _⟩
    have h10 := (setRow_fr W8 g2 cs').own HO8.out (fun g hg => by
      intro e
      have h9 := HO8.out.lt g hg
      rw [show g = g2 from e] at h9
      have := HZ6.out.lt
      omega)
    have h11 := own_mono h10 hbs
    rw [HNB.out] at h11
    exact h11
end Go.Proofs.Ytfgfiiknbkakaaa.Fl
