/-
  Of the texts Fl10, Fl11, Fl12: what the laws reach.
-/
import Derived.Test.YtfgfiiknbkakaaaFC11

set_option linter.unusedVariables false
set_option linter.unusedSimpArgs false
set_option maxRecDepth 20000
namespace Go.Proofs.Ytfgfiiknbkakaaa.Fl
open Go.ChangeShapes Go.WideShapes Go.ChangeAt Go.RowKit Go.Deep Go.Maps Go.Proofs.Ytfgfiiknbkakaaa.Words Go.Proofs.Ytfgfiiknbkakaaa.Oct Go.Proofs.Ytfgfiiknbkakaaa.Par Go.Proofs.Ytfgfiiknbkakaaa.Chk Go.Proofs.Ytfgfiiknbkakaaa.Mx
theorem wpList_build_0 {P : Program} {ops : Array Oper} {rest : List Oper} {o : Oper} {a : Act} {w : World} {Q : Exit → Act → World → Prop} (hg : o.guard = none) (t : TypeId) (ho : o.op = .build t #[]) (cells : Array Value)
    (hf : P.built t [] = some cells) (h : wpList P ops Q rest (a.put o.dst (.agg cells)) w) : wpList P ops Q (o :: rest) a w :=
  wpList_build_as hg t _ ho cells (by simpa using hf) h
theorem built_zk : Try.prog.built 35 [] = some zkA := by kernel_rfl
theorem res_ct {fn : Func} {p u : Tmp} (h : fn.results = #[.cell p 35, .tmp u]) (tmps : Array Value) (w : World) (g : Nat) (cs : Array Value) (hc : cs.size = 19) (hp : tmps.getD p undef = .pointer (some ⟨g, 0, none⟩)) (hb : CkBlk w g cs) :
    (results fn tmps).run Try.prog w = .ok (.tuple #[.agg cs, tmps.getD u undef]) w := by
  rw [results_cell_tmp h, hp]
  have := run_loadVar_row (P := Try.prog) w g 35 35 cs (0, 0) _ hb Try.underlying35 rfl (by rw [hc]; exact chunk_info)
  simp [asAddr, Result.andThen, this]
section
variable {w w' : World} {p g off cap i n now : Nat} {a : Ad} {m : FM} {s : FS} {q : Pt} {b : Hd}
theorem IvM.fl_up (h : IvM m s) (hq : s.ps[m.fl]? = some q) (hs : q.st ≠ 1) : IvM { m with fl := m.fl + 1 } s := by
  refine ⟨h.mk_, h.ps, h.nb, h.nl, h.no, ⟨(List.getElem?_eq_some_iff.1 hq).1, fun j y hj hy => ?_⟩, h.rl, h.gone, h.nums, h.df, h.fresh, h.ms, h.mark, h.len, h.ok, h.pm⟩
  change j < m.fl + 1 at hj
  by_cases e : j = m.fl
  · subst e
    rw [hq] at hy
    injection hy with hy
    rw [← hy]; exact hs
  · exact h.fl.2 j y (by omega) hy
theorem IvM.fl_lt (h : IvM m s) (h0 : 0 < s.losses) : m.fl < s.ps.length := by
  rcases Nat.lt_or_ge m.fl s.ps.length with h1 | h1
  · exact h1
  · exfalso
    obtain ⟨y, hy, hs⟩ := List.countP_pos_iff.1 h0
    obtain ⟨j, hj⟩ := List.mem_iff_getElem?.1 hy
    have hl := (List.getElem?_eq_some_iff.1 hj).1
    exact h.fl.2 j y (by omega) hj (by simpa using hs)
theorem ab_less (hq : s.ps[i]? = some q) (hs : q.st = 1) : (s.abandon q.m).losses < s.losses := by
  show (s.ps.map _).countP _ < s.ps.countP _
  rw [mid_split hq, List.map_append, List.map_cons]
  simp only [List.countP_append, List.countP_cons]
  have hle : ∀ l : List Pt, (l.map fun p => if p.m = q.m ∧ p.left = true then p.turn 3 else p).countP (fun p => p.st == 1) ≤ l.countP fun p => p.st == 1 := fun l => by
    induction l with
    | nil => simp
    | cons x l ih =>
      simp only [List.map_cons, List.countP_cons]
      have : (if ((if x.m = q.m ∧ x.left = true then x.turn 3 else x).st == 1) = true then 1 else 0) ≤ if (x.st == 1) = true then 1 else 0 := by
        by_cases hc : x.m = q.m ∧ x.left = true
        · rw [if_pos hc, if_neg (show ¬ ((Pt.turn 3 x).st == 1) = true from by simp [Pt.turn])]
          omega
        · rw [if_neg hc]
          exact Nat.le_refl _
      omega
  have h1 := hle (s.ps.take i)
  have h2 := hle (s.ps.drop (i + 1))
  have hl : q.left = true := by unfold Pt.left; rw [hs]; rfl
  have e2 : (q.st == 1) = true := by rw [hs]; rfl
  rw [if_pos (⟨trivial, hl⟩ : True ∧ q.left = true), if_pos e2, if_neg (show ¬ ((Pt.turn 3 q).st == 1) = true from by simp [Pt.turn])]
  omega
/-- Three plain fields of a fragment, one behind the other. -/
theorem FlM.flSet (h : FlS w p a m s) (hq : s.ps[m.fl]? = some q) (hs : q.st ≠ 1) : FlS (w.setCell ⟨p, 6, none⟩ (.int .i64 ((m.fl + 1 : Nat) : Int))) p a { m with fl := m.fl + 1 } s ∧ Stp w (w.setCell ⟨p, 6, none⟩ (.int .i64 ((m.fl + 1 : Nat) : Int))) p a m a { m with fl := m.fl + 1 } :=
  ⟨⟨h.mem.set_fl _, h.inv.fl_up hq hs⟩, Stp.of (fr_set _) (fun i e => by rw [show i = p from e]; exact .inl rfl) (fun i hi => hi)⟩
/-- What stands beside a flight keeps. -/
theorem Stp.blk {t : TypeId} {cs : Array Value} {a' : Ad} {m' : FM} {k : Nat} (h : Stp w w' p a m a' m') (hb : Blk w k t cs) (hn : ¬ FG p a m k) : Blk w' k t cs ∧ ¬ FG p a' m' k :=
  ⟨h.fr.blk hb hn, fun hx => (h.sub k hx).elim hn (fun e => by have := hb.lt; omega)⟩
theorem mod_over (l : List Pt) (i : Nat) (y : Pt) (f : Pt → Pt) : ((l.modify i f).modify i fun _ => y) = l.modify i fun _ => y := by
  apply List.ext_getElem?
  intro j
  rw [mod_get, mod_get, mod_get]
  split
  · cases l[j]? <;> rfl
  · rfl
theorem frA_set {q' : Pt} {k : Nat} {u : Value} (h7 : k < 7) (hc : q'.c = q.c) (h0 : ∀ j, j < 7 → (frA q' b)[j]? = if j = k then some u else (frA q b)[j]?) (j : Nat) (hj : j < 26) : (frA q' b)[j]? = if j = k then some u else (frA q b)[j]? := by
  rcases Nat.lt_or_ge j 7 with h | h
  · exact h0 j h
  · rw [if_neg (by omega)]
    obtain ⟨i, rfl⟩ : ∃ i, j = i + 7 := ⟨j - 7, by omega⟩
    have : ∀ (x y : Pt) (b : Hd), x.c = y.c → ∀ i : Nat, (frA x b)[i + 7]? = (frA y b)[i + 7]? := fun x y b e i => by
      unfold frA
      simp only [List.getElem?_toArray, List.getElem?_cons_succ, e]
    exact this q' q b hc i
def AgainDone (w : World) (p : Nat) (a : Ad) (m : FM) (s : FS) (now : Nat) (e : Ending) (w' : World) : Prop := ∃ (c : Ck) (A : Option Addr) (cp : Nat) (ok : Bool) (s' : FS) (r : Option Ck) (m' : FM), e = .returned (.tuple #[.agg (bareA c A c.body.length cp), .bool ok]) ∧ AgainR now s s' r ∧ ((r = none ∧ ok = false ∧ c = zeroC 0) ∨ (r = some c ∧ ok = true)) ∧ FlS w' p a m' s' ∧ MiOk s' ∧ Stp w w' p a m a m'
set_option maxHeartbeats 8000000 in
theorem again_s (h : FlS w p a m s) (hmi : MiOk s) (hnow : now < 4294967296) : Calls Try.prog 14 #[fptr p, .int .u32 (now : Int)] w (AgainDone w p a m s now) := by
  have hb0 := below_one w (.cells zkA 35)
  have k0 := Blk.new w 35 zkA
  have h0 := h.below hb0
  have hng : ¬ FG p a m w.heap.size := fun hx => by have := h.mem.lt hx; omega
  obtain ⟨W0, hW0⟩ : ∃ W0, W0 = w.alloc (.cells zkA 35) := ⟨_, rfl⟩
  obtain ⟨g4, hg4⟩ : ∃ g4, g4 = w.heap.size := ⟨_, rfl⟩
  rw [← hW0] at hb0 k0 h0
  rw [← hg4] at k0 hng
  have H0 := Lib.hid h0
  have HK0 := Lib.hid k0
  have HNG := Lib.hid hng
  have HT0 : Hid (Stp w W0 p a m a m) := (Stp.refl w p a m).grows hb0
  have HMI0 := Lib.hid hmi
  have HAR : Hid (∀ s' r, AgainR now s s' r → AgainR now s s' r) := fun _ _ h => h
  have HLN : Hid (s.ps.length ≤ 1048576) := h.inv.lt
  obtain ⟨N, hN⟩ : ∃ N, N = s.ps.length := ⟨_, rfl⟩
  have HNS := Lib.hid hN
  rw [← hN] at HLN
  clear hb0 k0 h0 hng h hmi hN
  go_enter Try.func14, Try.ntmps14
  go_upto_region 1 with (with_reducible refine wpList_alloc_run _ rfl 35 rfl (alloc_zk _) ?_)
  rw [← hW0, ← hg4]
  have HG4 := Lib.hid hg4
  clear hW0 hg4
  obtain ⟨wo, hwo⟩ : ∃ wo : World, wo = W0 := ⟨_, rfl⟩
  have HWO := Lib.hid hwo
  clear hwo
  go_loopw [6] (fun v6 wr => ∃ (s1 : FS) (m1 : FM), v6 = v6 ∧ Hid (FlS wr p a m1 s1) ∧ Hid (MiOk s1) ∧ Hid (Stp w wr p a m a m1) ∧ Hid (CkBlk wr g4 zkA ∧ ¬ FG p a m1 g4) ∧ Hid (∀ s' r, AgainR now s1 s' r → AgainR now s s' r) ∧ Hid (s1.ps.length = N)) (fun _ wr => (intOf ((wr.cell? ⟨p, 5, none⟩).getD undef)).toNat * (N + 1) + (N - (intOf ((wr.cell? ⟨p, 6, none⟩).getD undef)).toNat))
  case atStart => exact ⟨s, m, rfl, H0, HMI0, HT0, ⟨HK0.out, HNG.out⟩, HAR, HNS.out.symm⟩
  case round =>
    clear H0 HMI0 HT0 HK0 HNG HAR
    obtain ⟨s1, m1, _, HS, HMI, HT, HK, HAR, HLN1⟩ := hrel
    obtain ⟨lo, hlo⟩ : ∃ lo, lo = s1.losses := ⟨_, rfl⟩
    have HLO := Lib.hid hlo
    have c5 : wr.cell? ⟨p, 5, none⟩ = some (.int .i64 (lo : Int)) := by have := HS.out.mem.blk.cell 5; rw [HS.out.inv.no, ← hlo] at this; exact this
    have c6 : wr.cell? ⟨p, 6, none⟩ = some (.int .i64 (m1.fl : Int)) := HS.out.mem.blk.cell 6
    have HC5 := Lib.hid c5
    have HC6 := Lib.hid c6
    clear hlo
    by_cases hz : lo = 0
    · subst hz
      have hno : ∀ q ∈ s1.ps, q.st ≠ 1 := fun q hq e => by
        have h1 : s1.ps.countP (fun p => p.st == 1) = 0 := HLO.out.symm
        have h2 := List.countP_eq_zero.1 h1 q hq
        exact h2 (by rw [e]; rfl)
      have HNO := Lib.hid hno
      have hkk := HK.out.1
      have HKB := Lib.hid hkk
      clear hno hkk c6
      go_wp2_with (first
        | (refine wpList_build_0 rfl 35 rfl zkA built_zk ?_)
        | (refine wpList_store_row rfl 35 _ _ rfl g4 zkA rfl rfl 35 zkA HKB.out chunk_info rfl (bareA_one _ _ _ _) ?_))
      (try simp only [Exit.inBlock, Exit.then])
      refine bodyPost_ret (res_ct rfl _ _ g4 zkA rfl rfl (setRow_blk HKB.out)) rfl ?_
      have hf := setRow_fr wr g4 zkA
      have hS := HS.out.mem.fr hf (fun i e _ hx => HK.out.2 (by rw [← show i = g4 from e]; exact hx))
      exact ⟨zeroC 0, none, 0, false, s1, none, m1, rfl, HAR.out _ _ (.none HNO.out), .inl ⟨rfl, rfl, rfl⟩, ⟨hS, HS.out.inv⟩, HMI.out, ⟨HT.out.fr.trans hf (fun x hx e => by
        have h1 := HG4.out
        have h2 : x = g4 := e
        omega), HT.out.sub⟩⟩
    · have hpos : 0 < s1.losses := by rw [← HLO.out]; omega
      have hfl := HS.out.inv.fl_lt hpos
      obtain ⟨q, hq⟩ : ∃ q, s1.ps[m1.fl]? = some q := ⟨_, List.getElem?_eq_getElem hfl⟩
      have HQ := Lib.hid hq
      rw [HLN1.out] at hfl
      obtain ⟨fl, hfe⟩ : ∃ fl, fl = m1.fl := ⟨_, rfl⟩
      have HFE := Lib.hid hfe
      obtain ⟨B, cap, hv, hle, hbc, hB⟩ := HS.out.list
      rw [HLN1.out] at hv hle hB
      obtain ⟨g, off, rfl, hgp⟩ := hB (by omega)
      have HV := Lib.hid hv
      have c1 : wr.cell? ⟨p, 1, none⟩ = some (.slice (some ⟨g, off, none⟩) N cap) := by have := HS.out.mem.blk.cell 1; rw [← hv]; exact this
      obtain ⟨b, hx, hfr⟩ := HS.out.frag hv hq
      rw [← hfe] at hfr hfl c6
      have HFR := Lib.hid hfr
      have HX := Lib.hid hx
      have hflz : (fl : Int) < (N : Int) := by omega
      have hloz : (0 : Int) < (lo : Int) := by omega
      have hlo1 : ¬ (lo : Int) = 0 := by omega
      have HFL : Hid (firstLost s1 fl ∨ q.st ≠ 1) := by
        by_cases e : q.st = 1
        · exact .inl ⟨q, by rw [hfe]; exact hq, e, fun j y hj hy => HS.out.inv.fl.2 j y (by rw [← hfe]; exact hj) hy⟩
        · exact .inr e
      have HQM : Hid (q.m ∈ s1.ms) := HS.out.inv.pm q (List.mem_of_getElem? hq)
      have HOK : Hid (PtOk q) := HS.out.inv.ok q (List.mem_of_getElem? hq)
      have ht6 : wr.cell? ⟨g, off + fl * 26 + 6, none⟩ = some (.int .i64 (q.st : Int)) := hfr.c 6 (by omega)
      clear hq hfe hv hB hx hfr hpos
      go_upto_region 7 with (first | (go_quiet (fail)))
      obtain ⟨W1, hW1⟩ : ∃ W1, W1 = wr.drewN nq := ⟨_, rfl⟩
      have hb1 : Below wr.heap.size wr W1 := by rw [hW1]; exact below_drewN (Below.refl _ _) nq
      have HS1 := Lib.hid (HS.out.below hb1)
      have HT1 := Lib.hid (HT.out.grows hb1)
      have HK1 : Hid (CkBlk W1 g4 zkA ∧ ¬ FG p a m1 g4) := ⟨blk_below HK.out.1 hb1, HK.out.2⟩
      have HFR1 : Hid (FrAt W1 g (off + fl * 26) q b) := by rw [hW1]; exact ⟨HFR.out.c, HFR.out.k⟩
      have t6 : W1.cell? ⟨g, off + fl * 26 + 6, none⟩ = some (.int .i64 (q.st : Int)) := HFR1.out.c 6 (by omega)
      have HC51 : Hid (W1.cell? ⟨p, 5, none⟩ = some (.int .i64 (lo : Int))) := by rw [hW1]; exact c5
      have d6 : W1.cell? ⟨p, 6, none⟩ = some (.int .i64 (fl : Int)) := by rw [hW1]; exact c6
      have g6 := HS1.out.mem.blk.frozen 6
      have HC61 := Lib.hid d6
      have HCF : Hid (wr.cell? ⟨p, 6, none⟩ = some (.int .i64 (fl : Int))) := c6
      rw [← hW1]
      clear hW1 hb1 ht6 c5 c6 c1 HS HT HK HFR
      obtain ⟨st, hst⟩ : ∃ st, st = q.st := ⟨_, rfl⟩
      rw [← hst] at t6
      by_cases h1 : st = 1
      · subst h1
        have HST := Lib.hid hst
        have hsp := spent_any (w := W1) (g := g) (o := off + fl * 26) (lk := q.lk) (ln := q.ln) (sent := q.sent) (HFR1.out.c 1 (by omega)) (HFR1.out.c 2 (by omega)) (HFR1.out.c 3 (by omega)) HOK.out.ln
        obtain ⟨sp, hspe⟩ : ∃ sp, sp = (q.lk == 1 && decide (q.ln < q.sent)) := ⟨_, rfl⟩
        have HSP : Hid (q.spent = sp) := by rw [hspe]; rfl
        rw [← hspe] at hsp
        clear hspe hst
        go_wp2_with fail
        refine hsp.mono ?_
        rintro e W2 ⟨rfl, hb2⟩
        have HS2 := Lib.hid (HS1.out.below hb2)
        have HT2 := Lib.hid (HT1.out.grows hb2)
        have HK2 : Hid (CkBlk W2 g4 zkA ∧ ¬ FG p a m1 g4) := ⟨blk_below HK1.out.1 hb2, HK1.out.2⟩
        obtain ⟨b', hx2, hfr2⟩ := HS2.out.frag HV.out HQ.out
        rw [← HFE.out] at hfr2
        have HFR2 := Lib.hid hfr2
        clear hsp hb2 t6 HS1 HT1 HK1 HFR1 hx2 hfr2 g6 d6
        cases sp
        · have hql : q.left = true := by unfold Pt.left; rw [← HST.out]; rfl
          have htn := turn_t HS2.out HQ.out (z := 0) (by omega) (fun _ => hql)
          rw [← HFE.out] at htn
          clear hql
          have d6 : W2.cell? ⟨p, 6, none⟩ = some (.int .i64 (fl : Int)) := by have := HS2.out.mem.blk.cell 6; rw [HFE.out]; exact this
          go_wp2_with fail
          refine htn.mono ?_
          rintro e W3 ⟨rfl, m3, HS3, HTT, _⟩
          have HT3 := Lib.hid (HT2.out.trans HTT.out)
          have HK3 : Hid (CkBlk W3 g4 zkA ∧ ¬ FG p a m3 g4) := HTT.out.blk HK2.out.1 HK2.out.2
          have hQ0 : s1.ps[fl]? = some q := by rw [HFE.out]; exact HQ.out
          have hQ3 : (s1.turn fl 0).ps[fl]? = some (q.turn 0) := by show (s1.ps.modify fl (Pt.turn 0))[fl]? = _; rw [mod_get, if_pos rfl, hQ0]; rfl
          obtain ⟨b3, hx3, hfr3⟩ := HS3.out.frag HV.out hQ3
          have hok3 := HS3.out.inv.ok _ (List.mem_of_getElem? hQ3)
          -- sent
          obtain ⟨sn, hsn⟩ : ∃ sn, sn = q.sent := ⟨_, rfl⟩
          have e3 : W3.cell? ⟨g, off + fl * 26 + 3, none⟩ = some (.int .u64 (sn : Int)) := by rw [hsn]; exact hfr3.c 3 (by omega)
          have f3 := (HS3.out.mem.psr HV.out).1.frz (off + fl * 26 + 3)
          have hw64 : IntKind.u64.wrap ((sn : Int) + 1) = (((sn + 1) % 18446744073709551616 : Nat) : Int) := by rw [IntKind.wrap_u64]; omega
          obtain ⟨q1, hq1⟩ : ∃ q1 : Pt, q1 = { q.turn 0 with sent := (sn + 1) % 18446744073709551616 } := ⟨_, rfl⟩
          have hs4 := HS3.out.setq (u := .int .u64 (((sn + 1) % 18446744073709551616 : Nat) : Int)) (q' := q1) (k := 3) HV.out hx3 (by omega) (frA_set (by omega) (by rw [hq1]) (fun j hj => by
            rw [hq1]
            have : j = 0 ∨ j = 1 ∨ j = 2 ∨ j = 3 ∨ j = 4 ∨ j = 5 ∨ j = 6 := by omega
            rcases this with rfl | rfl | rfl | rfl | rfl | rfl | rfl <;> rfl)) (by rw [hq1]) (by rw [hq1]) (by rw [hq1]) (by rw [hq1]) (by rw [hq1]) (by rw [hq1]; exact ⟨hok3.m, hok3.lk, hok3.ln, Nat.mod_lt _ (by omega), hok3.wn, hok3.mi, hok3.st, hok3.ok, hok3.bare, hok3.len⟩)
          obtain ⟨v4, hv4⟩ : ∃ v : Int, v = (((sn + 1) % 18446744073709551616 : Nat) : Int) := ⟨_, rfl⟩
          rw [← hv4] at hw64 hs4
          obtain ⟨W4, hW4⟩ : ∃ W4, W4 = W3.setCell ⟨g, off + fl * 26 + 3, none⟩ (.int .u64 v4) := ⟨_, rfl⟩
          rw [← hW4] at hs4
          obtain ⟨h4, t4⟩ := hs4
          have hk4 := t4.blk HK3.out.1 HK3.out.2
          have hQ4 : ({ s1.turn fl 0 with ps := (s1.turn fl 0).ps.modify fl fun _ => q1 } : FS).ps[fl]? = some q1 := by show ((s1.turn fl 0).ps.modify fl fun _ => q1)[fl]? = _; rw [mod_get, if_pos rfl, hQ3]; rfl
          -- when
          obtain ⟨b4, hx4, hfr4⟩ := h4.frag HV.out hQ4
          have hok4 := h4.inv.ok _ (List.mem_of_getElem? hQ4)
          have e4 : W4.cell? ⟨g, off + fl * 26 + 4, none⟩ = some (.int .u32 (q1.wn : Int)) := hfr4.c 4 (by omega)
          have f4 := (h4.mem.psr HV.out).1.frz (off + fl * 26 + 4)
          have e45 : W4.cell? ⟨g, off + fl * 26 + 5, none⟩ = some (.int .i64 (q1.mi : Int)) := hfr4.c 5 (by omega)
          have f45 := (h4.mem.psr HV.out).1.frz (off + fl * 26 + 5)
          obtain ⟨q2, hq2⟩ : ∃ q2 : Pt, q2 = { q1 with wn := now } := ⟨_, rfl⟩
          have hs5 := h4.setq (u := .int .u32 (now : Int)) (q' := q2) (k := 4) HV.out hx4 (by omega) (frA_set (by omega) (by rw [hq2]) (fun j hj => by
            rw [hq2]
            have : j = 0 ∨ j = 1 ∨ j = 2 ∨ j = 3 ∨ j = 4 ∨ j = 5 ∨ j = 6 := by omega
            rcases this with rfl | rfl | rfl | rfl | rfl | rfl | rfl <;> rfl)) (by rw [hq2]) (by rw [hq2]) (by rw [hq2]) (by rw [hq2]) (by rw [hq2]) (by rw [hq2]; exact ⟨hok4.m, hok4.lk, hok4.ln, hok4.sent, hnow, hok4.mi, hok4.st, hok4.ok, hok4.bare, hok4.len⟩)
          obtain ⟨W5, hW5⟩ : ∃ W5, W5 = W4.setCell ⟨g, off + fl * 26 + 4, none⟩ (.int .u32 (now : Int)) := ⟨_, rfl⟩
          rw [← hW5] at hs5
          obtain ⟨h5, t5⟩ := hs5
          have hk5 := t5.blk hk4.1 hk4.2
          obtain ⟨s5, hs5e⟩ : ∃ s5 : FS, s5 = { s1 with ps := s1.ps.modify fl fun _ => q2 } := ⟨_, rfl⟩
          have e5 : ({ ({ s1.turn fl 0 with ps := (s1.turn fl 0).ps.modify fl fun _ => q1 } : FS) with ps := ({ s1.turn fl 0 with ps := (s1.turn fl 0).ps.modify fl fun _ => q1 } : FS).ps.modify fl fun _ => q2 } : FS) = s5 := by
            rw [hs5e]
            show FS.mk _ (((s1.ps.modify fl (Pt.turn 0)).modify fl fun _ => q1).modify fl fun _ => q2) _ _ _ = _
            rw [mod_over, mod_over]
            rfl
          rw [e5] at h5
          -- missed
          have hQ5 : s5.ps[fl]? = some q2 := by rw [hs5e]; show (s1.ps.modify fl fun _ => q2)[fl]? = _; rw [mod_get, if_pos rfl, hQ0]; rfl
          obtain ⟨b5, hx5, hfr5⟩ := h5.frag HV.out hQ5
          have hok5 := h5.inv.ok _ (List.mem_of_getElem? hQ5)
          have e5' : W5.cell? ⟨g, off + fl * 26 + 5, none⟩ = some (.int .i64 (q2.mi : Int)) := hfr5.c 5 (by omega)
          have f5 := (h5.mem.psr HV.out).1.frz (off + fl * 26 + 5)
          obtain ⟨q3, hq3⟩ : ∃ q3 : Pt, q3 = { q2 with mi := 0 } := ⟨_, rfl⟩
          have hs6 := h5.setq (u := .int .i64 0) (q' := q3) (k := 5) HV.out hx5 (by omega) (frA_set (by omega) (by rw [hq3]) (fun j hj => by
            rw [hq3]
            have : j = 0 ∨ j = 1 ∨ j = 2 ∨ j = 3 ∨ j = 4 ∨ j = 5 ∨ j = 6 := by omega
            rcases this with rfl | rfl | rfl | rfl | rfl | rfl | rfl <;> rfl)) (by rw [hq3]) (by rw [hq3]) (by rw [hq3]) (by rw [hq3]) (by rw [hq3]) (by rw [hq3]; exact ⟨hok5.m, hok5.lk, hok5.ln, hok5.sent, hok5.wn, Nat.zero_le _, hok5.st, hok5.ok, hok5.bare, hok5.len⟩)
          obtain ⟨W6, hW6⟩ : ∃ W6, W6 = W5.setCell ⟨g, off + fl * 26 + 5, none⟩ (.int .i64 0) := ⟨_, rfl⟩
          rw [← hW6] at hs6
          obtain ⟨h6, t6⟩ := hs6
          have hk6 := t6.blk hk5.1 hk5.2
          obtain ⟨s6, hs6e⟩ : ∃ s6 : FS, s6 = { s1 with ps := s1.ps.modify fl (againP now) } := ⟨_, rfl⟩
          have eq3 : q3 = againP now q := by
            rw [hq3, hq2, hq1, hsn]
            unfold againP Pt.turn
            simp
          have e6 : ({ s5 with ps := s5.ps.modify fl fun _ => q3 } : FS) = s6 := by
            rw [hs6e, hs5e]
            show FS.mk _ ((s1.ps.modify fl fun _ => q2).modify fl fun _ => q3) _ _ _ = _
            rw [mod_over, mod_const hQ0 (againP now) q3 eq3.symm]
          rw [e6] at h6
          have hQ6 : s6.ps[fl]? = some q3 := by rw [hs6e, eq3]; show (s1.ps.modify fl (againP now))[fl]? = _; rw [mod_get, if_pos rfl, hQ0]; rfl
          obtain ⟨b6, hx6, hfr6⟩ := h6.frag HV.out hQ6
          have hc3 : q3.c = q.c := by rw [eq3]; rfl
          have hrange := hfr6.range
          rw [hc3] at hrange
          have hbod := h6.mem.bod _ (List.mem_of_getElem? hx6)
          have hby : Byt W6 W6.heap.size b6.A q.c.body := by
            rw [← hc3]
            exact Reads.of_own hbod
          have hcl := clone_ck (c := q.c) (A := b6.A) (n := q.c.body.length) (cp := b6.cap) rfl HOK.out.len hby
          obtain ⟨cs, hcs⟩ : ∃ cs, cs = bareA q.c b6.A q.c.body.length b6.cap := ⟨_, rfl⟩
          rw [← hcs] at hrange hcl
          have HRG := Lib.hid hrange
          have HCS : Hid ((Try.prog.info? 35).map (·.size) = some cs.size) := by rw [hcs]; exact chunk_info
          have HS6 := Lib.hid h6
          have HK6 := Lib.hid hk6
          have HT6 := Lib.hid (((HT3.out.trans t4).trans t5).trans t6)
          have HAR6 : Hid (AgainR now s s6 (some q.c)) := by
            rw [hs6e]
            exact HAR.out _ _ (.hit (HFL.out.elim id (fun e => absurd HST.out.symm e)) hQ0 HSP.out)
          have HMI6 : Hid (MiOk s6) := fun y hy hy0 => by
            rw [hs6e] at hy
            change y ∈ s1.ps.modify fl (againP now) at hy
            obtain ⟨j, hj⟩ := List.mem_iff_getElem?.1 hy
            rw [mod_get] at hj
            split at hj
            · rename_i e
              subst e
              rw [hQ0] at hj
              injection hj with hj
              rw [← hj]
              exact Nat.zero_le _
            · exact HMI.out y (List.mem_of_getElem? hj) hy0
          obtain ⟨w4, hw4⟩ : ∃ x, x = q1.wn := ⟨_, rfl⟩
          rw [← hw4] at e4
          obtain ⟨m5, hm5⟩ : ∃ x, x = q1.mi := ⟨_, rfl⟩
          rw [← hm5] at e45
          clear e5' f5
          clear htn HTT hx3 hfr3 hok3 hq1 h4 t4 hk4 hQ4 hx4 hfr4 hok4 hq2 h5 t5 hk5 hs5e e5 hQ5 hx5 hfr5 hok5 hq3 h6 t6 hk6 hs6e eq3 e6 hQ6 hx6 hfr6 hc3 hrange hbod hby hcs hQ3 hQ0 hv4 hw4 hm5 hsn d6 HS2 HT2 HS3 HT3 HK3 HK2
          go_upto_region 5 with (fail)
          rw [← hW4]
          clear hW4 e3 f3 hw64
          go_upto_region 6 with (fail)
          rw [← hW5, ← hW6]
          clear hW5 hW6 e4 f4 e45 f45
          go_wp2_with (refine wpList_load_midA rfl 35 _ rfl g (off + fl * 26 + 7) rfl cs _ HRG.out Try.underlying35 rfl HCS.out ?_)
          refine hcl.mono ?_
          rintro e W7 ⟨b7, rfl, ho7, hb7⟩
          obtain ⟨R, hR⟩ : ∃ R, R = bareA q.c b7.A q.c.body.length b7.cap := ⟨_, rfl⟩
          have HR := Lib.hid hR
          have HR1 : Hid (R.all (·.oneCell') = true) := by rw [hR]; exact bareA_one _ _ _ _
          have HRS : Hid (R.size = 19) := by rw [hR]; rfl
          have HCI : Hid ((Try.prog.info? 35).map (·.size) = some R.size) := by rw [HRS.out]; exact chunk_info
          have HZS : Hid (zkA.size = R.size) := by rw [HRS.out]; rfl
          have HK7 : Hid (CkBlk W7 g4 zkA) := blk_below HK6.out.1 hb7
          have HS7 := Lib.hid (HS6.out.below hb7)
          have HT7 := Lib.hid (HT6.out.grows hb7)
          rw [← hR]
          clear hR hcl hb7 ho7
          go_wp2_with (refine wpList_store_row rfl 35 _ _ rfl g4 R rfl rfl 35 zkA HK7.out HCI.out HZS.out HR1.out ?_)
          (try simp only [Exit.inBlock, Exit.then])
          refine bodyPost_ret (res_ct rfl _ _ g4 R HRS.out rfl (setRow_blk HK7.out)) rfl ?_
          have hf := setRow_fr W7 g4 R
          have hng7 := HK6.out.2
          have hS := HS7.out.mem.fr hf (fun i e _ hx => hng7 (by rw [← show i = g4 from e]; exact hx))
          refine ⟨q.c, b7.A, b7.cap, true, s6, some q.c, _, by rw [HR.out]; rfl, HAR6.out, .inr ⟨rfl, rfl⟩, ⟨hS, HS7.out.inv⟩, HMI6.out, ⟨HT7.out.fr.trans hf (fun x hx e => by
            have h1 := HG4.out
            have h2 : x = g4 := e
            omega), HT7.out.sub⟩⟩
        · have hm0 : W2.cell? ⟨g, off + fl * 26, none⟩ = some (.int .i64 q.m) := HFR2.out.c 0 (by omega)
          have hab := abandon_s HS2.out (k := q.m) HOK.out.m HQM.out
          obtain ⟨km, hkm⟩ : ∃ km, km = q.m := ⟨_, rfl⟩
          rw [← hkm] at hm0 hab
          have HKM := Lib.hid hkm
          clear hkm
          go_wp2_with fail
          refine hab.mono ?_
          rintro e W3 ⟨m3, rfl, h3, ht3⟩
          have HS3 := Lib.hid h3
          have HT3 := Lib.hid (HT2.out.trans ht3)
          have HK3 : Hid (CkBlk W3 g4 zkA ∧ ¬ FG p a m3 g4) := ht3.blk HK2.out.1 HK2.out.2
          have HMI3 : Hid (MiOk (s1.abandon km)) := fun y hy hy0 => by
            change y ∈ s1.ps.map _ at hy
            obtain ⟨u, hu, rfl⟩ := List.mem_map.1 hy
            by_cases hc : u.m = km ∧ u.left = true
            · rw [if_pos hc] at hy0; exact absurd hy0 (by simp [Pt.turn])
            · rw [if_neg hc] at hy0 ⊢
              exact HMI.out u hu hy0
          have HAR3 : Hid (∀ s' r, AgainR now (s1.abandon km) s' r → AgainR now s s' r) := fun s' r h => HAR.out s' r (.skip (i := fl) (p := q) (HFL.out.elim id (fun e => absurd HST.out.symm e)) (by rw [HFE.out]; exact HQ.out) HSP.out (by rw [← HKM.out]; exact h))
          have hless : (s1.abandon km).losses < lo := by rw [HLO.out, HKM.out]; exact ab_less HQ.out HST.out.symm
          have HM5 : Hid (W3.cell? ⟨p, 5, none⟩ = some (.int .i64 ((s1.abandon km).losses : Int))) := by have := h3.mem.blk.cell 5; rw [h3.inv.no] at this; exact this
          have HM6 : Hid (W3.cell? ⟨p, 6, none⟩ = some (.int .i64 (m3.fl : Int))) := h3.mem.blk.cell 6
          have HLS := Lib.hid hless
          have HL3 : Hid ((s1.abandon km).ps.length = N) := by show (s1.ps.map _).length = N; rw [List.length_map]; exact HLN1.out
          clear hab h3 ht3 hless hm0
          go_wp2_with fail
          go_roundw
          case rel => exact ⟨s1.abandon km, m3, trivial, HS3, HMI3, HT3, HK3, HAR3, HL3⟩
          case measure =>
            rw [HM5.out, HM6.out, HC5.out, HCF.out]
            simp only [Option.getD_some, intOf, Int.toNat_natCast]
            have hm : ((s1.abandon km).losses + 1) * (N + 1) ≤ lo * (N + 1) := Nat.mul_le_mul_right _ HLS.out
            rw [Nat.add_mul] at hm
            omega
      · have hb1 : ((st : Int) == 1) = false := beq_no (by omega)
        have hb2 : ¬ (st : Int) = 1 := by omega
        have hset := FlM.flSet HS1.out HQ.out (by rw [← hst]; exact h1)
        rw [← HFE.out] at hset
        obtain ⟨W2, hW2⟩ : ∃ W2, W2 = W1.setCell ⟨p, 6, none⟩ (.int .i64 ((fl : Int) + 1)) := ⟨_, rfl⟩
        rw [show ((fl + 1 : Nat) : Int) = (fl : Int) + 1 from rfl, ← hW2] at hset
        have HS2 := Lib.hid hset.1
        have HT2 := Lib.hid (HT1.out.trans hset.2)
        have HK2 : Hid (CkBlk W2 g4 zkA ∧ ¬ FG p a { m1 with fl := fl + 1 } g4) := hset.2.blk HK1.out.1 HK1.out.2
        have HM5 : Hid (W2.cell? ⟨p, 5, none⟩ = some (.int .i64 (lo : Int))) := by have := HS2.out.mem.blk.cell 5; rw [HS2.out.inv.no, ← HLO.out] at this; exact this
        have HM6 : Hid (W2.cell? ⟨p, 6, none⟩ = some (.int .i64 ((fl + 1 : Nat) : Int))) := HS2.out.mem.blk.cell 6
        clear hset hst
        go_wp2_with fail
        rw [← hW2]
        clear hW2
        go_roundw
        case rel => exact ⟨s1, { m1 with fl := fl + 1 }, trivial, HS2, HMI, HT2, HK2, HAR, HLN1⟩
        case measure =>
          rw [HM5.out, HM6.out, HC5.out, HCF.out]
          simp only [Option.getD_some, intOf, Int.toNat_natCast]
          omega
end
end Go.Proofs.Ytfgfiiknbkakaaa.Fl

set_option linter.unusedVariables false
set_option linter.unusedSimpArgs false
set_option maxRecDepth 20000
namespace Go.Proofs.Ytfgfiiknbkakaaa.Fl
open Go.ChangeShapes Go.WideShapes Go.ChangeAt Go.RowKit Go.Deep Go.Maps Go.Proofs.Ytfgfiiknbkakaaa.Words Go.Proofs.Ytfgfiiknbkakaaa.Oct Go.Proofs.Ytfgfiiknbkakaaa.Par Go.Proofs.Ytfgfiiknbkakaaa.Chk Go.Proofs.Ytfgfiiknbkakaaa.Mx
theorem dist_nat {x y : Nat} (hx : x < 4294967296) (hy : y < 4294967296) : Ser.dist (x : Int) (y : Int) = (distN x y : Int) := by
  unfold Ser.dist distN
  omega
section
variable {w w' : World} {p : Nat} {a : Ad} {m : FM} {s : FS}
set_option maxHeartbeats 8000000 in
theorem sound_s (h : FlS w p a m s) {cs : Array Value} {c : Ck} (hc : CkAt w w.heap.size cs c) : Calls Try.prog 33 #[fptr p, .agg cs] w fun e w' => e = .returned (.bool (sound s c)) ∧ Below w.heap.size w w' := by
  have ok := hc.ok
  obtain ⟨Hg, Hd', Hs, Hp, Hb, hcells, hlists⟩ := hc.parts
  have e0 := hcells.c0
  have e5 := hcells.c5
  have e14 := hcells.c14
  have HB := Lib.hid (below_one w (.cells cs 35))
  have HBL := Lib.hid (Blk.new w 35 cs)
  obtain ⟨W1, hW1⟩ : ∃ W1, W1 = w.alloc (.cells cs 35) := ⟨_, rfl⟩
  obtain ⟨g3, hg3⟩ : ∃ g3, g3 = w.heap.size := ⟨_, rfl⟩
  rw [← hW1] at HBL HB
  rw [← hg3] at HBL
  have HS1 := Lib.hid (h.below HB.out)
  have HLS := Lib.hid ((hlists.gaps.below HB.out).more HB.out.size)
  obtain ⟨kd, hkd⟩ : ∃ kd, kd = c.kind := ⟨_, rfl⟩
  obtain ⟨tsn, htsn⟩ : ∃ t, t = c.tsn := ⟨_, rfl⟩
  obtain ⟨gs, hgs⟩ : ∃ gs, gs = c.gaps := ⟨_, rfl⟩
  have HGB : Hid (∀ g ∈ gs, g.1 < 65536 ∧ g.2 < 65536) := by rw [hgs]; exact ok.gaps
  have htb : tsn < 4294967296 := by rw [htsn]; exact ok.tsn
  obtain ⟨last, hlast⟩ : ∃ l, l = s.last := ⟨_, rfl⟩
  have HSD : Hid (sound s c = (decide (kd = 3) && (Ser.inB (tsn : Int) (s.mark : Int) (last : Int) && gapsOk (distN tsn last) 2 gs))) := by rw [hkd, htsn, hgs, hlast]; rfl
  have hlb : last < 4294967296 := by rw [hlast]; exact Nat.mod_lt _ (by omega)
  have hlw : IntKind.u32.wrap ((s.next : Int) - 1) = (last : Int) := by
    rw [IntKind.wrap_u32, hlast]
    unfold FS.next FS.last tsnOf
    omega
  obtain ⟨nx, hnx⟩ : ∃ n, n = s.next := ⟨_, rfl⟩
  have hns := next_s HS1.out
  rw [← hnx] at hns hlw
  obtain ⟨mk, hmk⟩ : ∃ mk, mk = s.mark := ⟨_, rfl⟩
  have HMK := Lib.hid hmk
  rw [← hmk] at HSD
  obtain ⟨r, hr⟩ : ∃ r, r = sound s c := ⟨_, rfl⟩
  rw [← hr] at HSD ⊢
  rw [← hkd] at e0
  rw [← htsn] at e5
  obtain ⟨n, hn⟩ : ∃ n, n = gs.length := ⟨_, rfl⟩
  rw [← hgs, ← hn] at e14
  rw [← hgs, ← hn] at HLS
  have HN := Lib.hid hn
  have hnb : n ≤ Hg.cap ∧ Hg.cap ≤ 9223372036854775807 := by have := hlists.okg; rw [← hgs, ← hn] at this; exact this
  have f0 : W1.cell? ⟨g3, 0, none⟩ = some (.int .u8 (kd : Int)) := (HBL.out.cell 0).trans e0
  have HE5 : Hid (cs[5]? = some (.int .u32 (tsn : Int))) := e5
  have HE14 : Hid (cs[14]? = some (.slice Hg.A n Hg.cap)) := e14
  have hkb : kd < 256 := by rw [hkd]; exact ok.kind
  clear ok hcells hlists hc h hkd htsn hgs hlast hnx hmk hr hn e0 e5 e14
  go_enter Try.func33, Try.ntmps33
  go_upto_region 1 with (fail)
  rw [← hW1, ← hg3]
  clear hW1 hg3
  go_wp2_with fail
  refine hns.mono ?_
  rintro e W2 ⟨rfl, hb2⟩
  have HS2 := Lib.hid (HS1.out.below hb2)
  have HBL2 := Lib.hid (blk_below HBL.out hb2)
  have HB2 : Hid (Below w.heap.size w W2) := HB.out.trans (hb2.mono HB.out.size)
  have HLS2 := Lib.hid ((HLS.out.below hb2).more hb2.size)
  have f0' : W2.cell? ⟨g3, 0, none⟩ = some (.int .u8 (kd : Int)) := by have := HBL2.out.cell 0; rw [this]; rw [HBL.out.cell 0] at f0; exact f0
  have f5 : W2.cell? ⟨g3, 5, none⟩ = some (.int .u32 (tsn : Int)) := (HBL2.out.cell 5).trans HE5.out
  have fm : W2.cell? ⟨p, 0, none⟩ = some (.int .u32 (mk : Int)) := by have := HS2.out.mem.blk.cell 0; rw [HS2.out.inv.mk_, ← HMK.out] at this; exact this
  clear hns hb2 f0 HS1 HBL HB HLS
  go_upto_region 2 with (fail)
  have hin := fun V => Ser.in_any (tsn : Int) (mk : Int) (last : Int) V
  obtain ⟨ib, hib⟩ : ∃ ib, ib = Ser.inB (tsn : Int) (mk : Int) (last : Int) := ⟨_, rfl⟩
  rw [← hib] at HSD
  simp only [← hib] at hin
  clear hib
  by_cases hk3 : kd = 3
  · subst hk3
    go_quiet ((go_at_call 57; exact quiet_left (hin _)))
    have HB3 : Hid (Below w.heap.size w (W2.drewN nq)) := below_drewN HB2.out nq
    obtain ⟨W3, hW3⟩ : ∃ W3, W3 = W2.drewN nq := ⟨_, rfl⟩
    have hb3 : Below W2.heap.size W2 W3 := by rw [hW3]; exact below_drewN (Below.refl _ _) nq
    rw [← hW3] at HB3 ⊢
    have HS3 := Lib.hid (HS2.out.below hb3)
    have HBL3 := Lib.hid (blk_below HBL2.out hb3)
    have HLS3 := Lib.hid ((HLS2.out.below hb3).more hb3.size)
    clear hW3 hb3 f0' f5 fm hin HS2 HBL2 HLS2 HB2
    cases ib
    · go_wp2_with fail
      go_ret
      exact ⟨Ser.ret_bool (by rw [HSD.out]; simp), HB3.out⟩
    · have f14 : W3.cell? ⟨g3, 14, none⟩ = some (.slice Hg.A n Hg.cap) := (HBL3.out.cell 14).trans HE14.out
      have hdist := fun V => Ser.dist_any (tsn : Int) (last : Int) V
      have hdn : Ser.dist (tsn : Int) (last : Int) = (distN tsn last : Int) := dist_nat htb hlb
      obtain ⟨far, hfar⟩ : ∃ f, f = distN tsn last := ⟨_, rfl⟩
      rw [← hfar] at HSD hdn
      simp only [hdn] at hdist
      have HSD2 : Hid (r = gapsOk far 2 gs) := by show _ = _; rw [HSD.out]; simp
      have hfb : far < 4294967296 := by rw [hfar]; exact Nat.mod_lt _ (by omega)
      clear hdn hfar HSD
      go_upto_region 6 with (fail)
      simp only [Bool.not_true]
      obtain ⟨wo, hwo⟩ : ∃ wo : World, wo = W3 := ⟨_, rfl⟩
      have HBO : Hid (Below W3.heap.size W3 W3) := Below.refl _ _
      obtain ⟨L0, hL0⟩ : ∃ L0, L0 = gapsOk far 2 gs := ⟨_, rfl⟩
      have HL0 : Hid (L0 = gapsOk far 2 (gs.drop 0)) := by rw [hL0]; rfl
      rw [← hL0] at HSD2
      clear hwo hL0
      go_loopw [6, 31] (fun v6 v31 wr => ∃ (i l : Nat), v6 = .int .u32 (l : Int) ∧ v31 = .int .i64 (i : Int) ∧ i ≤ n ∧ l ≤ 65537 ∧ Hid (L0 = gapsOk far l (gs.drop i)) ∧ Hid (Below W3.heap.size W3 wr)) (fun _ v31 _ => n - (intOf v31).toNat)
      case atStart => exact ⟨0, 2, rfl, rfl, by omega, by omega, HL0, HBO⟩
      case round =>
        clear HL0 HBO f14
        obtain ⟨i, l, rfl, rfl, hi, hl, HL, HBW⟩ := hrel
        by_cases hlt : i < n
        · obtain ⟨ad, g, hA, hab, hg, ga, gb⟩ := gap_cells HLS3.out HN.out hlt
          rw [hA]
          have hgb := HGB.out g (List.mem_of_getElem? hg)
          have ga' : wr.cell? (ad.add (i * 2)) = some (.int .u16 (g.1 : Int)) := (HBW.out.cell (by rw [block_of_add]; exact hab)).trans ga
          have gb' : wr.cell? ⟨(ad.add (i * 2)).block, (ad.add (i * 2)).off + 1, none⟩ = some (.int .u16 (g.2 : Int)) := (HBW.out.cell (by show (ad.add (i * 2)).block < _; rw [block_of_add]; exact hab)).trans gb
          have hdrop : gs.drop i = g :: gs.drop (i + 1) := by rw [List.drop_eq_getElem_cons (List.getElem?_eq_some_iff.1 hg).1, (List.getElem?_eq_some_iff.1 hg).2]
          obtain ⟨x, y⟩ := g
          have hxb : x < 65536 := hgb.1
          have hyb : y < 65536 := hgb.2
          have HLN : Hid (L0 = (decide (l ≤ x ∧ x ≤ y ∧ y ≤ far) && gapsOk far (y + 2) (gs.drop (i + 1)))) := by rw [HL.out, hdrop]; rfl
          have hi2 : (i : Int) < (n : Int) := by omega
          have ga2 : wr.cell? (ad.add (i * 2)) = some (.int .u16 (x : Int)) := ga'
          have gb2 : wr.cell? ⟨(ad.add (i * 2)).block, (ad.add (i * 2)).off + 1, none⟩ = some (.int .u16 (y : Int)) := gb'
          have hbv := below_one wr (.cells #[.int .u16 (x : Int), .int .u16 (y : Int)] 42)
          have hkv := Blk.new wr 42 #[.int .u16 (x : Int), .int .u16 (y : Int)]
          obtain ⟨W4, hW4⟩ : ∃ W4, W4 = wr.alloc (.cells #[.int .u16 (x : Int), .int .u16 (y : Int)] 42) := ⟨_, rfl⟩
          obtain ⟨g8, hg8⟩ : ∃ g8, g8 = wr.heap.size := ⟨_, rfl⟩
          clear hA hab hg ga gb hgb ga' gb' hdrop HL
          go_upto_region 8 with (fail)
          rw [← hW4, ← hg8]
          rw [← hW4] at hbv hkv
          rw [← hg8] at hkv
          have k0 : W4.cell? ⟨g8, 0, none⟩ = some (.int .u16 (x : Int)) := hkv.cell 0
          have k1 : W4.cell? ⟨g8, 1, none⟩ = some (.int .u16 (y : Int)) := hkv.cell 1
          have HBV : Hid (Below W3.heap.size W3 W4) := HBW.out.trans (hbv.mono HBW.out.size)
          have w1 : IntKind.u32.wrap (x : Int) = (x : Int) := by rw [IntKind.wrap_u32]; omega
          have w2 : IntKind.u32.wrap (y : Int) = (y : Int) := by rw [IntKind.wrap_u32]; omega
          clear hW4 hg8 hbv hkv ga2 gb2 HBW
          go_quiet (fail)
          obtain ⟨W5, hW5⟩ : ∃ W5, W5 = W4.drewN nq := ⟨_, rfl⟩
          have HBV5 : Hid (Below W3.heap.size W3 W5) := by rw [hW5]; exact below_drewN HBV.out nq
          have HB5 : Hid (Below w.heap.size w W5) := HB3.out.trans (HBV5.out.mono HB3.out.size)
          have f5 : W5.cell? ⟨g3, 5, none⟩ = some (.int .u32 (tsn : Int)) := ((HBL3.out.below HBV5.out HBL3.out.lt).cell 5).trans HE5.out
          rw [← hW5]
          clear hW5 k0 k1 HBV
          by_cases q1 : x < l
          · have q1' : (x : Int) < (l : Int) := by omega
            go_wp2_with (first | (go_at_call 35; refine (hdist _).mono ?_; rintro e w' ⟨rfl, rfl⟩))
            go_ret
            exact ⟨Ser.ret_bool (by rw [HSD2.out, HLN.out, decide_eq_false (by omega)]; rfl), HB5.out⟩
          · have q1' : ¬ (x : Int) < (l : Int) := by omega
            by_cases q2 : y < x
            · have q2' : (y : Int) < (x : Int) := by omega
              go_wp2_with (first | (go_at_call 35; refine (hdist _).mono ?_; rintro e w' ⟨rfl, rfl⟩))
              go_ret
              exact ⟨Ser.ret_bool (by rw [HSD2.out, HLN.out, decide_eq_false (by omega)]; rfl), HB5.out⟩
            · have q2' : ¬ (y : Int) < (x : Int) := by omega
              by_cases q3 : far < y
              · have q3' : (far : Int) < (y : Int) := by omega
                go_wp2_with (first | (go_at_call 35; refine (hdist _).mono ?_; rintro e w' ⟨rfl, rfl⟩))
                go_ret
                exact ⟨Ser.ret_bool (by rw [HSD2.out, HLN.out, decide_eq_false (by omega)]; rfl), HB5.out⟩
              · have q3' : ¬ (far : Int) < (y : Int) := by omega
                have HL6 : Hid (L0 = gapsOk far (y + 2) (gs.drop (i + 1))) := by show _ = _; rw [HLN.out, decide_eq_true (by omega)]; rfl
                have w3 : IntKind.u32.wrap ((y : Int) + 2) = (y : Int) + 2 := by rw [IntKind.wrap_u32]; omega
                go_wp2_with (first | (go_at_call 35; refine (hdist _).mono ?_; rintro e w' ⟨rfl, rfl⟩))
                go_roundw
                case rel => exact ⟨i + 1, y + 2, by go_num, by go_num, by omega, by omega, HL6, HBV5⟩
                case measure => simp [intOf]; omega
        · have hin : i = n := by omega
          subst hin
          have hlt2 : ¬ (i : Int) < (i : Int) := by omega
          have HLT : Hid (L0 = true) := by show _ = _; rw [HL.out, List.drop_of_length_le (by rw [← HN.out]; exact Nat.le_refl _)]; rfl
          go_wp2_with fail
          go_ret
          exact ⟨Ser.ret_bool (by rw [HSD2.out, HLT.out]), HB3.out.trans (HBW.out.mono HB3.out.size)⟩
  · have hb3 : ((kd : Int) == 3) = false := beq_no (by omega)
    have hb3' : ¬ (kd : Int) = 3 := by omega
    go_quiet ((go_at_call 57; exact quiet_left (hin _)))
    have HB3 : Hid (Below w.heap.size w (W2.drewN nq)) := below_drewN HB2.out nq
    go_wp2_with fail
    go_ret
    exact ⟨Ser.ret_bool (by rw [HSD.out, decide_eq_false hk3]; rfl), HB3.out⟩
end
end Go.Proofs.Ytfgfiiknbkakaaa.Fl

set_option linter.unusedVariables false
set_option linter.unusedSimpArgs false
set_option maxRecDepth 20000
namespace Go.Proofs.Ytfgfiiknbkakaaa.Fl
open Go.ChangeShapes Go.WideShapes Go.ChangeAt Go.RowKit Go.Deep Go.Maps Go.Proofs.Ytfgfiiknbkakaaa.Words Go.Proofs.Ytfgfiiknbkakaaa.Oct Go.Proofs.Ytfgfiiknbkakaaa.Par Go.Proofs.Ytfgfiiknbkakaaa.Chk Go.Proofs.Ytfgfiiknbkakaaa.Mx
/-- Ack's own variables: the flight, the greatest that came newly, the answer, the tick. -/
structure Bx (V : World) (p gf gn ga gw now : Nat) (x : AS) : Prop where
  f : Blk V gf 26 #[fptr p]
  n : Blk V gn 3 #[.int .i64 (x.newest : Int)]
  a : Blk V ga 44 #[.int .i64 (x.bytes : Int), .bool false, .bool false, .int .i64 x.rtt, .bool false]
  w : Blk V gw 22 #[.int .u32 (now : Int)]
def cnt2 (s : FS) : Nat := s.ps.countP fun p => p.st == 2
/-- Ack under way. -/
structure AkS (V : World) (p : Nat) (a : Ad) (m : FM) (gf gn ga gw now : Nat) (x : AS) : Prop where
  fl : FlS V p a m x.s
  bx : Bx V p gf gn ga gw now x
  nf : ¬ FG p a m gf
  nn : ¬ FG p a m gn
  na : ¬ FG p a m ga
  nw : ¬ FG p a m gw
def ByOk (x : AS) : Prop := x.bytes ≤ cnt2 x.s * 1000000
def AkF (p : Nat) (a : Ad) (m : FM) (gn ga : Nat) (k : Nat) : Prop := FG p a m k ∨ k = gn ∨ k = ga
/-- A step of Ack's. -/
structure AkT (w w' : World) (p : Nat) (a : Ad) (m : FM) (m' : FM) (gn ga : Nat) : Prop where
  fr : Fr (AkF p a m gn ga) w w'
  sub : ∀ i, FG p a m' i → FG p a m i ∨ w.heap.size ≤ i
section
variable {w w' w'' V : World} {p i gf gn ga gw now n : Nat} {a : Ad} {m m' m'' : FM} {s : FS} {q : Pt} {x : AS}
theorem AkT.refl (w : World) (p : Nat) (a : Ad) (m : FM) (gn ga : Nat) : AkT w w p a m m gn ga := ⟨Fr.refl _ _, fun _ h => .inl h⟩
theorem AkT.trans (h : AkT w w' p a m m' gn ga) (k : AkT w' w'' p a m' m'' gn ga) : AkT w w'' p a m m'' gn ga :=
  ⟨h.fr.trans k.fr (fun x hx hi => hi.elim (fun e => (h.sub x e).elim (fun e => .inl e) (fun e => by omega)) (fun e => .inr e)), fun i hi => (k.sub i hi).elim (fun e => h.sub i e) (fun e => .inr (Nat.le_trans h.fr.size e))⟩
theorem AkT.of (h : Stp w w' p a m a m') : AkT w w' p a m m' gn ga := ⟨h.fr.mono fun _ _ e => .inl e, h.sub⟩
theorem cnt2_turn (hq : s.ps[i]? = some q) (h : q.st ≠ 2) : cnt2 (s.turn i 2) = cnt2 s + 1 := by
  have := mid_count hq (Pt.turn 2) (fun p => p.st == 2)
  have e1 : (q.st == 2) = false := by simpa using h
  rw [if_neg (by rw [e1]; simp), if_pos (show ((q.turn 2).st == 2) = true from rfl)] at this
  unfold cnt2 FS.turn
  simp only
  omega
theorem cnt2_le (s : FS) : cnt2 s ≤ s.ps.length := List.countP_le_length
/-- The answer's cells have turned. -/
theorem AkS.seta (h : AkS w p a m gf gn ga gw now x) (hf : Fr (fun k => k = ga) w w') {y : Nat} {r : Int} (hb : Blk w' ga 44 #[.int .i64 (y : Int), .bool false, .bool false, .int .i64 r, .bool false]) : AkS w' p a m gf gn ga gw now { x with bytes := y, rtt := r } ∧ AkT w w' p a m m gn ga := by
  have hna : gn ≠ ga := fun e => absurd (kd_blk h.bx.n) (by rw [e, kd_blk h.bx.a]; decide)
  have haf : gf ≠ ga := fun e => absurd (kd_blk h.bx.a) (by rw [← e, kd_blk h.bx.f]; decide)
  have haw : gw ≠ ga := fun e => absurd (kd_blk h.bx.a) (by rw [← e, kd_blk h.bx.w]; decide)
  exact ⟨⟨⟨h.fl.mem.fr hf (fun k e _ hx => h.na (by rw [← show k = ga from e]; exact hx)), h.fl.inv⟩, ⟨hf.blk h.bx.f haf, hf.blk h.bx.n hna, hb, hf.blk h.bx.w haw⟩, h.nf, h.nn, h.na, h.nw⟩, ⟨hf.mono fun k _ e => .inr (.inr e), fun i e => .inl e⟩⟩
theorem AkS.drew (h : AkS w p a m gf gn ga gw now x) (hb : Below w.heap.size w w') : AkS w' p a m gf gn ga gw now x :=
  ⟨h.fl.below hb, ⟨blk_below h.bx.f hb, blk_below h.bx.n hb, blk_below h.bx.a hb, blk_below h.bx.w hb⟩, h.nf, h.nn, h.na, h.nw⟩
theorem AkT.grows (h : AkT w w' p a m m' gn ga) (hb : Below w'.heap.size w' w'') : AkT w w'' p a m m' gn ga := ⟨h.fr.grows hb, h.sub⟩
theorem AkS.turn (h : AkS w p a m gf gn ga gw now x) (hs : FlS w' p a m' (x.s.turn i 2)) (ht : Stp w w' p a m a m') : AkS w' p a m' gf gn ga gw now { x with s := x.s.turn i 2 } :=
  ⟨hs, ⟨(ht.blk h.bx.f h.nf).1, (ht.blk h.bx.n h.nn).1, (ht.blk h.bx.a h.na).1, (ht.blk h.bx.w h.nw).1⟩, (ht.blk h.bx.f h.nf).2, (ht.blk h.bx.n h.nn).2, (ht.blk h.bx.a h.na).2, (ht.blk h.bx.w h.nw).2⟩
def ArriveDone (w : World) (p : Nat) (a : Ad) (m : FM) (gf gn ga gw now i : Nat) (x : AS) (e : Ending) (w' : World) : Prop := e = .returned (.tuple #[]) ∧ ∃ m', AkS w' p a m' gf gn ga gw now (arriveF now x i) ∧ ByOk (arriveF now x i) ∧ AkT w w' p a m m' gn ga
set_option maxHeartbeats 8000000 in
theorem arrive_s (h : AkS w p a m gf gn ga gw now x) (hbk : ByOk x) (hi : i < x.s.ps.length) :
    Calls Try.prog 34 #[.int .i64 (i : Int), .pointer (some ⟨gf, 0, none⟩), .pointer (some ⟨gn, 0, none⟩), .pointer (some ⟨ga, 0, none⟩), .pointer (some ⟨gw, 0, none⟩)] w (ArriveDone w p a m gf gn ga gw now i x) := by
  obtain ⟨q, hq⟩ : ∃ q, x.s.ps[i]? = some q := ⟨_, List.getElem?_eq_getElem hi⟩
  have hlen := h.fl.inv.lt
  obtain ⟨B, cap, hv, hle, hbc, hB⟩ := h.fl.list
  obtain ⟨g, off, rfl, hgp⟩ := hB (by omega)
  obtain ⟨b, hx, hfr⟩ := h.fl.frag hv hq
  have cf : w.cell? ⟨gf, 0, none⟩ = some (fptr p) := h.bx.f.cell 0
  have c1 : w.cell? ⟨p, 1, none⟩ = some (.slice (some ⟨g, off, none⟩) x.s.ps.length cap) := by have := h.fl.mem.blk.cell 1; rw [← hv]; exact this
  have c6 : w.cell? ⟨g, off + i * 26 + 6, none⟩ = some (.int .i64 (q.st : Int)) := hfr.c 6 (by omega)
  obtain ⟨N, hN⟩ : ∃ N, N = x.s.ps.length := ⟨_, rfl⟩
  rw [← hN] at c1 hi hle hlen
  have hi2 : (i : Int) < (N : Int) := by omega
  obtain ⟨st, hst⟩ : ∃ st, st = q.st := ⟨_, rfl⟩
  rw [← hst] at c6
  have HA := Lib.hid h
  have HBK := Lib.hid hbk
  clear hbk
  have HQ := Lib.hid hq
  have HFR := Lib.hid hfr
  have HV := Lib.hid hv
  have HST := Lib.hid hst
  have HOK : Hid (PtOk q) := h.fl.inv.ok q (List.mem_of_getElem? hq)
  have hst3 : st ≤ 3 := by rw [hst]; exact HOK.out.st
  have HLN : Hid (x.s.ps.length ≤ 1048576) := h.fl.inv.lt
  by_cases h2 : st = 2
  · subst h2
    have e : arriveF now x i = x := by unfold arriveF; rw [hq]; simp [← hst]
    clear hq hx hfr hN hB hst h hv
    go_enter Try.func34, Try.ntmps34
    go_wp2_with fail
    go_end0
    exact ⟨rfl, m, by rw [e]; exact HA.out, by rw [e]; exact HBK.out, AkT.refl _ _ _ _ _ _⟩
  · have hb2 : ((st : Int) == 2) = false := beq_no (by omega)
    have hb2' : ¬ (st : Int) = 2 := by omega
    -- newest
    have cn : w.cell? ⟨gn, 0, none⟩ = some (.int .i64 (x.newest : Int)) := h.bx.n.cell 0
    have fn := h.bx.n.frozen 0
    obtain ⟨W1, hW1⟩ : ∃ W1, W1 = w.setCell ⟨gn, 0, none⟩ (.int .i64 (i : Int)) := ⟨_, rfl⟩
    have hf1 : Fr (fun k => k = gn) w W1 := by rw [hW1]; exact fr_set _
    have hna : gn ≠ ga := fun e => absurd (kd_blk h.bx.n) (by rw [e, kd_blk h.bx.a]; decide)
    have hnf : gn ≠ gf := fun e => absurd (kd_blk h.bx.n) (by rw [e, kd_blk h.bx.f]; decide)
    have hnw : gn ≠ gw := fun e => absurd (kd_blk h.bx.n) (by rw [e, kd_blk h.bx.w]; decide)
    have haf : ga ≠ gf := fun e => absurd (kd_blk h.bx.a) (by rw [e, kd_blk h.bx.f]; decide)
    have haw : ga ≠ gw := fun e => absurd (kd_blk h.bx.a) (by rw [e, kd_blk h.bx.w]; decide)
    have h1 : AkS W1 p a m gf gn ga gw now { x with newest := i } :=
      ⟨⟨h.fl.mem.fr hf1 (fun k e _ hx => h.nn (by rw [← show k = gn from e]; exact hx)), h.fl.inv⟩, ⟨hf1.blk h.bx.f (fun e => hnf e.symm), by rw [hW1]; exact h.bx.n.set_ 0 _, hf1.blk h.bx.a (fun e => hna e.symm), hf1.blk h.bx.w (fun e => hnw e.symm)⟩, h.nf, h.nn, h.na, h.nw⟩
    have HT1 : Hid (AkT w W1 p a m m gn ga) := ⟨hf1.mono fun k _ e => .inr (.inl e), fun k e => .inl e⟩
    have hgn : g ≠ gn := fun e => absurd hfr.k (by rw [e, kd_blk h.bx.n]; decide)
    have hgaf : g ≠ ga := fun e => absurd hfr.k (by rw [e, kd_blk h.bx.a]; decide)
    have hfr1 := hfr.fr hf1 hgn
    have c6' : W1.cell? ⟨g, off + i * 26 + 6, none⟩ = some (.int .i64 (st : Int)) := by rw [hst]; exact hfr1.c 6 (by omega)
    have H1 := Lib.hid h1
    have HFR1 := Lib.hid hfr1
    have HNE : Hid (gn ≠ ga ∧ gn ≠ gf ∧ gn ≠ gw ∧ ga ≠ gf ∧ ga ≠ gw ∧ g ≠ ga) := ⟨hna, hnf, hnw, haf, haw, hgaf⟩
    clear hq hx hfr hN hB hst h hv hf1 h1 hfr1 hna hnf hnw haf haw hgn hgaf
    go_enter Try.func34, Try.ntmps34
    go_upto_region 3 with (fail)
    rw [← hW1]
    clear hW1 cn fn c6 cf c1
    by_cases h3 : st = 3
    · subst h3
      clear hb2 hb2'
      have cf : W1.cell? ⟨gf, 0, none⟩ = some (fptr p) := H1.out.bx.f.cell 0
      have htn := turn_t H1.out.fl HQ.out (z := 2) (by omega) (fun e => absurd rfl e)
      go_wp2_with fail
      refine htn.mono ?_
      rintro e W9 ⟨rfl, m9, H9, T9, _⟩
      have HA9 := Lib.hid (H1.out.turn H9.out T9.out)
      have HT9 := Lib.hid (HT1.out.trans (AkT.of T9.out))
      clear htn
      go_wp2_with fail
      go_end0
      have e : arriveF now x i = { s := x.s.turn i 2, newest := i, bytes := x.bytes, rtt := x.rtt } := by
        unfold arriveF
        rw [HQ.out]
        simp [← HST.out]
      refine ⟨rfl, m9, by rw [e]; exact HA9.out, ?_, HT9.out⟩
      rw [e]
      have h5 := cnt2_turn HQ.out (show q.st ≠ 2 from by rw [← HST.out]; exact h2)
      have h6 := HBK.out
      unfold ByOk at h6 ⊢
      show x.bytes ≤ cnt2 (x.s.turn i 2) * 1000000
      rw [h5]
      exact Nat.le_trans h6 (Nat.mul_le_mul_right _ (Nat.le_succ _))
    · have hb3 : ((st : Int) == 3) = false := beq_no (by omega)
      have hb3' : ¬ (st : Int) = 3 := by omega
      -- bytes
      have cb : W1.cell? ⟨ga, 0, none⟩ = some (.int .i64 (x.bytes : Int)) := H1.out.bx.a.cell 0
      have fb := H1.out.bx.a.frozen 0
      obtain ⟨n, hn⟩ : ∃ n, n = q.c.body.length := ⟨_, rfl⟩
      have cl : W1.cell? ⟨g, off + i * 26 + 7 + 18, none⟩ = some (.slice b.A n b.cap) := by rw [hn]; exact HFR1.out.c 25 (by omega)
      have hby : x.bytes ≤ 1048576000000 := by
        have h5 := HBK.out
        have h6 := cnt2_le x.s
        have h7 := HLN.out
        change x.bytes ≤ cnt2 x.s * 1000000 at h5
        omega
      have hnb : n ≤ 1000000 := by rw [hn]; exact HOK.out.len
      have hww : wrap64 ((x.bytes : Int) + (n : Int)) = (x.bytes : Int) + (n : Int) := IntWalk.wrap64_in _ (by omega)
      have HN := Lib.hid hn
      clear hn
      go_upto_region 4 with (fail)
      go_still_tail 10, (by kernel_rfl)
      change wpList _ _ _ _ _ W1.drew
      obtain ⟨V1, hV1⟩ : ∃ V1, V1 = W1.drew := ⟨_, rfl⟩
      have hbd : Below W1.heap.size W1 V1 := by rw [hV1]; exact Below.drew (Below.refl _ _)
      have HV1 := Lib.hid (H1.out.drew hbd)
      have HTV := Lib.hid (HT1.out.grows hbd)
      have HFV : Hid (FrAt V1 g (off + i * 26) q b) := by rw [hV1]; exact ⟨HFR1.out.c, HFR1.out.k⟩
      have cbv : V1.cell? ⟨ga, 0, none⟩ = some (.int .i64 (x.bytes : Int)) := HV1.out.bx.a.cell 0
      have fbv := HV1.out.bx.a.frozen 0
      have clv : V1.cell? ⟨g, off + i * 26 + 7 + 18, none⟩ = some (.slice b.A n b.cap) := by rw [HN.out]; exact HFV.out.c 25 (by omega)
      rw [← hV1]
      clear hV1 hbd cb fb cl H1 HT1 HFR1 c6'
      go_upto_region 5 with (fail)
      obtain ⟨W2, hW2⟩ : ∃ W2, W2 = V1.setCell ⟨ga, 0, none⟩ (.int .i64 ((x.bytes : Int) + (n : Int))) := ⟨_, rfl⟩
      have hf2 : Fr (fun k => k = ga) V1 W2 := by rw [hW2]; exact fr_set _
      have hb2 : Blk W2 ga 44 #[.int .i64 ((x.bytes + n : Nat) : Int), .bool false, .bool false, .int .i64 x.rtt, .bool false] := by
        rw [hW2]
        exact HV1.out.bx.a.set_ 0 _
      have hs2 := HV1.out.seta hf2 hb2
      have H2 := Lib.hid hs2.1
      have HT2 := Lib.hid (HTV.out.trans hs2.2)
      have HF2 : Hid (FrAt W2 g (off + i * 26) q b) := HFV.out.fr hf2 HNE.out.2.2.2.2.2
      rw [← hW2]
      clear hW2 hf2 hb2 hs2 cbv fbv clv HV1 HTV HFV hww
      have cs : W2.cell? ⟨g, off + i * 26 + 3, none⟩ = some (.int .u64 (q.sent : Int)) := HF2.out.c 3 (by omega)
      obtain ⟨sn, hsn⟩ : ∃ sn, sn = q.sent := ⟨_, rfl⟩
      rw [← hsn] at cs
      have HSN := Lib.hid hsn
      clear hsn
      by_cases hs1 : sn = 1
      · subst hs1
        have cw : W2.cell? ⟨g, off + i * 26 + 4, none⟩ = some (.int .u32 (q.wn : Int)) := HF2.out.c 4 (by omega)
        have cnw : W2.cell? ⟨gw, 0, none⟩ = some (.int .u32 (now : Int)) := H2.out.bx.w.cell 0
        have ca : W2.cell? ⟨ga, 3, none⟩ = some (.int .i64 x.rtt) := H2.out.bx.a.cell 3
        have fa := H2.out.bx.a.frozen 3
        obtain ⟨wn, hwn⟩ : ∃ wn, wn = q.wn := ⟨_, rfl⟩
        rw [← hwn] at cw
        have HWN := Lib.hid hwn
        clear hwn
        have hd := fun V => Ser.dist_any (wn : Int) (now : Int) V
        obtain ⟨d, hde⟩ : ∃ d : Int, d = Ser.dist (wn : Int) (now : Int) := ⟨_, rfl⟩
        have hdb : 0 ≤ d ∧ d ≤ 4294967295 := by rw [hde]; exact Ser.dist_bd _ _
        have HDE := Lib.hid hde
        simp only [← hde] at hd
        clear hde
        go_upto_region 6 with (fail)
        have hwd : IntKind.i64.wrap d = d := IntWalk.i64_in d ⟨by omega, by omega⟩
        go_region_with (go_at_call 35; refine (hd _).mono ?_; rintro e w5 ⟨rfl, rfl⟩)
        all_goals
          obtain ⟨W3, hW3⟩ : ∃ W3, W3 = (W2.setCell ⟨ga, 3, none⟩ (.int .i64 d)).drew := ⟨_, rfl⟩
          have hf3 : Fr (fun k => k = ga) W2 W3 := by rw [hW3]; exact (fr_set _).drew
          have hb3 : Blk W3 ga 44 #[.int .i64 ((x.bytes + n : Nat) : Int), .bool false, .bool false, .int .i64 d, .bool false] := by
            rw [hW3]
            exact (H2.out.bx.a.set_ 3 _).drew
          have hs3 := H2.out.seta hf3 hb3
          have H3 := Lib.hid hs3.1
          have HT3 := Lib.hid (HT2.out.trans hs3.2)
          rw [← hW3]
          clear hW3 hf3 hb3 hs3 cw cnw ca fa hd hwd
          have cf : W3.cell? ⟨gf, 0, none⟩ = some (fptr p) := H3.out.bx.f.cell 0
          have htn := turn_t H3.out.fl HQ.out (z := 2) (by omega) (fun e => absurd rfl e)
          go_wp2_with fail
          refine htn.mono ?_
          rintro e W9 ⟨rfl, m9, H9, T9, _⟩
          have HA9 := Lib.hid (H3.out.turn H9.out T9.out)
          have HT9 := Lib.hid (HT3.out.trans (AkT.of T9.out))
          clear htn
          go_wp2_with fail
          go_end0
          have e : arriveF now x i = { s := x.s.turn i 2, newest := i, bytes := x.bytes + n, rtt := d } := by
            unfold arriveF
            rw [HQ.out]
            have h7 : q.st ≠ 2 := by rw [← HST.out]; exact h2
            have h8 : q.st ≠ 3 := by rw [← HST.out]; exact h3
            simp only [if_neg h7, if_neg h8]
            rw [if_pos ⟨h8, HSN.out.symm⟩, HDE.out, HN.out, HWN.out]
          refine ⟨rfl, m9, by rw [e]; exact HA9.out, ?_, HT9.out⟩
          rw [e]
          have h5 := cnt2_turn HQ.out (show q.st ≠ 2 from by rw [← HST.out]; exact h2)
          have h6 := HBK.out
          unfold ByOk at h6 ⊢
          show x.bytes + n ≤ cnt2 (x.s.turn i 2) * 1000000
          rw [h5, Nat.add_mul, Nat.one_mul]
          exact Nat.add_le_add h6 hnb
      · have hs2 : ((sn : Int) == 1) = false := beq_no (by omega)
        have hs2' : ¬ (sn : Int) = 1 := by omega
        have cf : W2.cell? ⟨gf, 0, none⟩ = some (fptr p) := H2.out.bx.f.cell 0
        have htn := turn_t H2.out.fl HQ.out (z := 2) (by omega) (fun e => absurd rfl e)
        go_wp2_with fail
        refine htn.mono ?_
        rintro e W9 ⟨rfl, m9, H9, T9, _⟩
        have HA9 := Lib.hid (H2.out.turn H9.out T9.out)
        have HT9 := Lib.hid (HT2.out.trans (AkT.of T9.out))
        clear htn
        go_wp2_with fail
        go_end0
        have e : arriveF now x i = { s := x.s.turn i 2, newest := i, bytes := x.bytes + n, rtt := x.rtt } := by
          unfold arriveF
          rw [HQ.out]
          have h7 : q.st ≠ 2 := by rw [← HST.out]; exact h2
          have h8 : q.st ≠ 3 := by rw [← HST.out]; exact h3
          simp only [if_neg h7, if_neg h8]
          rw [if_neg (fun e => hs1 (by rw [HSN.out]; exact e.2)), HN.out]
        refine ⟨rfl, m9, by rw [e]; exact HA9.out, ?_, HT9.out⟩
        rw [e]
        have h5 := cnt2_turn HQ.out (show q.st ≠ 2 from by rw [← HST.out]; exact h2)
        have h6 := HBK.out
        unfold ByOk at h6 ⊢
        show x.bytes + n ≤ cnt2 (x.s.turn i 2) * 1000000
        rw [h5, Nat.add_mul, Nat.one_mul]
        exact Nat.add_le_add h6 hnb
end
end Go.Proofs.Ytfgfiiknbkakaaa.Fl
