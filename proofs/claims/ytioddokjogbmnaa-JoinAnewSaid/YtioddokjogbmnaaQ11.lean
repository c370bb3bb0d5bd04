/-
  Of the texts Jp15, Jp16, Jp17: what the laws reach.
-/
import Derived.Test.YtioddokjogbmnaaQ10

set_option linter.unusedVariables false
set_option linter.unusedSimpArgs false
set_option maxRecDepth 20000
namespace Go.Proofs.Ytioddokjogbmnaa.Chk
open Go.ChangeShapes Go.WideShapes Go.ChangeAt Go.RowKit Go.Deep Go.Maps Go.Proofs.Ytioddokjogbmnaa.Words Go.Proofs.Ytioddokjogbmnaa.Oct Go.Proofs.Ytioddokjogbmnaa.Par Go.Proofs.Ytioddokjogbmnaa.Mx
section
variable {w w' : World} {T T' : Nat → Nat} {p bl bo h : Nat} {inter : Bool} {rv : Value} {xs : List Mg} {Om : Nat → Option Nat} {Wb next : Nat → Nat} {wait wait' : List Jo.Ms} {S : Nat → Prop}
/-- A message is put beside what waits. -/
theorem OrdR.put (k : OrdR w T bo inter Om Wb next wait) {st b : Nat} {x : Mg} (ho : Om st = some b) (hs : x.m.st = st) (hlo : x.m.lo = false) (hm : MidOk inter x.m.mid) (hst : st < 65536) (hno : waitB wait st x.m.mid = false) (hok : MgOk w T x) :
    ∃ w1, (Instr.mapUpdate 105 (.map (some (Wb st))) (.int .u32 (x.m.mid : Int)) (mgV x)).run Try.prog w = .ok () w1 ∧ OrdR w1 T bo inter Om Wb next (wait ++ [msOf x.m]) ∧ Fr (fun i => i = Wb st) w w1 := by
  obtain ⟨W, h1, h2, h3⟩ := (k.ord st b ho).ws
  obtain ⟨w1, hrun, hm1, hturn⟩ := MapX.put h1 (t := 105) Try.underlying105 (x := x.m.mid) (small32 hm) (mgV x)
  have hf : Fr (fun i => i = Wb st) w w1 := (Fr.of_grown hturn.grown).mono (fun i hi e => by injection e)
  have hn3 : ∀ j, T j = 5 → ¬ j = Wb st := fun j hj e => by rw [e, (k.ord st b ho).twb] at hj; cases hj
  have hin : ∀ m, m ∈ wait ++ [msOf x.m] ↔ (m ∈ wait ∨ m = msOf x.m) := fun m => by simp
  have hms : (msOf x.m).st = st ∧ (msOf x.m).mid = x.m.mid := ⟨hs, rfl⟩
  refine ⟨w1, hrun, ⟨k.tbo, k.map.fr hf (fun e => (k.ord st b ho).ne e.symm), fun s b' hs' => ?_, fun s hs' => ⟨(k.none_ s hs').1, fun m hm' e => ?_⟩, k.inj, k.sep, fun m hm' => ?_, k.nx, ?_⟩, hf⟩
  · by_cases e : s = st
    · subst e
      rw [ho] at hs'
      injection hs' with hs'
      subst hs'
      have kk := k.ord s b ho
      refine ⟨kk.tb, kk.twb, kk.ne, hf.blk kk.blk (fun e => k.ne ho ho e), fun i => if i = x.m.mid then some x else W i, hm1.as_ (fun i => ?_), fun i y hy => ?_, fun m hm' hms' => ?_⟩
      · unfold putF
        show (if i = x.m.mid then some (mgV x) else (W i).map mgV) = (if i = x.m.mid then some x else W i).map mgV
        by_cases e : i = x.m.mid
        · rw [if_pos e, if_pos e]; rfl
        · rw [if_neg e, if_neg e]
      · have hy : (if i = x.m.mid then some x else W i) = some y := hy
        by_cases e : i = x.m.mid
        · rw [if_pos e] at hy
          injection hy with hy
          subst hy
          exact ⟨e.symm, hs, (hin _).2 (.inr rfl), hok.fr hf (fun j hj h5 => hn3 j h5) (fun _ _ => rfl)⟩
        · rw [if_neg e] at hy
          obtain ⟨a1, a2, a3, a4⟩ := h2 i y hy
          exact ⟨a1, a2, (hin _).2 (.inl a3), a4.fr hf (fun j hj h5 => hn3 j h5) (fun _ _ => rfl)⟩
      · rcases (hin m).1 hm' with hm' | rfl
        · have hne : m.mid ≠ x.m.mid := fun e => by
            have := waitB_iff.2 ⟨m, hm', hms', e⟩
            rw [hno] at this; cases this
          obtain ⟨y, a3, a4⟩ := h3 m hm' hms'
          exact ⟨y, (by show (if m.mid = x.m.mid then some x else W m.mid) = some y; rw [if_neg hne]; exact a3), a4⟩
        · exact ⟨x, (if_pos hms.2 : (if (msOf x.m).mid = x.m.mid then some x else W (msOf x.m).mid) = some x), rfl⟩
    · have kk := (k.ord s b' hs').fr (T' := T) hf ⟨fun e' => k.ne hs' ho e', fun e' => e (k.sep s st b' b hs' ho e')⟩ (fun j hj h5 => hn3 j h5) (fun _ _ => rfl)
      exact kk.wait_ (fun m hms' => ⟨fun hx => by
        rcases (hin m).1 hx with hx | rfl
        · exact hx
        · exact absurd (hms'.symm.trans hms.1) e, fun hx => (hin m).2 (.inl hx)⟩)
  · rcases (hin m).1 hm' with hm' | rfl
    · exact (k.none_ s hs').2 m hm' e
    · have e2 : s = st := e.symm.trans hms.1
      rw [e2, ho] at hs'; cases hs'
  · rcases (hin m).1 hm' with hm' | rfl
    · exact k.wok m hm'
    · exact ⟨hlo, hm, by rw [hms.1]; exact hst⟩
  · rw [List.pairwise_append]
    refine ⟨k.wnd, by simp, fun a ha c hc => ?_⟩
    rw [List.mem_singleton] at hc
    subst hc
    intro e
    have := waitB_iff.2 ⟨a, ha, e.1.trans hms.1, e.2.trans hms.2⟩
    rw [hno] at this; cases this
def ArrDone (w : World) (T : Nat → Nat) (p : Nat) (inter : Bool) (bl bo h : Nat) (xs : List Mg) (next : Nat → Nat) (wait : List Jo.Ms) (x : Mg) (e : Ending) (w' : World) : Prop :=
  ∃ T' rv' xs' Om' Wb' next' wait', e = .returned (.tuple #[]) ∧ ((x.m.lo = true ∧ xs' = xs ++ [x] ∧ wait' = wait ∧ next' = next) ∨ (x.m.lo = false ∧ ∃ nx', AdvR inter x.m.st (next x.m.st) xs xs' (wait ++ [msOf x.m]) wait' nx' ∧ waitB wait' x.m.st nx' = false ∧ next' = setN next x.m.st nx')) ∧
    JO w' T' p inter bl bo rv' h xs' Om' Wb' next' wait' ∧ Fr (ownS w T) w w' ∧ Ext w w' T T'
set_option maxHeartbeats 4000000 in
theorem arrive_any (k : JO w T p inter bl bo rv h xs Om Wb next wait) (hxl : xs.length + wait.length ≤ 2000000000) {x : Mg} (hok : MgOk w T x) (hst : x.m.st < 65536) (hm : x.m.lo = false → MidOk inter x.m.mid ∧ waitB wait x.m.st x.m.mid = false) :
    Calls Try.prog 36 #[jptr p, .agg (mgCells x).toArray] w (ArrDone w T p inter bl bo h xs next wait x) := by
  obtain ⟨⟨x1, x2, x3, x4, x5⟩, xA, xc⟩ := x
  obtain ⟨X, hX⟩ : ∃ X : Mg, X = ⟨⟨x1, x2, x3, x4, x5⟩, xA, xc⟩ := ⟨_, rfl⟩
  rw [← hX] at hok hm ⊢
  have hmc : (mgCells X).toArray = #[.int .u16 (x1 : Int), .bool x2, .int .u32 (x3 : Int), .int .u32 (x4 : Int), .slice xA x5.length xc] := by rw [hX]; rfl
  have HMC := Lib.hid hmc
  obtain ⟨xn, hxn⟩ : ∃ xn, xn = x5.length := ⟨_, rfl⟩
  rw [← hxn] at HMC
  rw [HMC.out]
  have HXE : Hid (X.m.st = x1 ∧ X.m.lo = x2 ∧ X.m.mid = x3) := by rw [hX]; exact ⟨rfl, rfl, rfl⟩
  have hst1 : x1 < 65536 := hst
  have HK := Lib.hid k
  have HOK := Lib.hid hok
  have HM := Lib.hid hm
  clear hX hmc hxn k hok hm hst
  go_enter Try.func36, Try.ntmps36
  go_upto_region 1 with (fail)
  obtain ⟨W1, hW1⟩ : ∃ W1, W1 = w.alloc (.cells #[.int .u16 (x1 : Int), .bool x2, .int .u32 (x3 : Int), .int .u32 (x4 : Int), .slice xA xn xc] 43) := ⟨_, rfl⟩
  obtain ⟨gm, hgm⟩ : ∃ gm, gm = w.heap.size := ⟨_, rfl⟩
  have HGB : Hid (Blk W1 gm 43 (mgCells X).toArray) := by rw [hW1, hgm, HMC.out]; exact Blk.new _ _ _
  have HB1 : Hid (Below w.heap.size w W1) := by rw [hW1]; exact below_one w _
  have HS1 : Hid (W1.heap.size = w.heap.size + 1) := by rw [hW1]; show _ = _; simp
  have HGM := Lib.hid hgm
  have HK1 := Lib.hid (HK.out.grows HB1.out)
  have HOK1 : Hid (MgOk W1 T X) := HOK.out.fr (Fr.of_below HB1.out) (fun i hi _ e => by have e' : w.heap.size ≤ i := e; omega) (fun _ _ => rfl)
  have HF1 : Hid (Fr (ownS w T) w W1) := (Fr.of_below HB1.out).mono (fun i hi e => by have e' : w.heap.size ≤ i := e; omega)
  have hcells : ∀ j u, (mgCells X)[j]? = some u → W1.cell? ⟨gm, j, none⟩ = some u := fun j u hu => by
    have := HGB.out.cell j
    rw [this]
    simpa using hu
  have hmg : mgCells X = [.int .u16 (x1 : Int), .bool x2, .int .u32 (x3 : Int), .int .u32 (x4 : Int), .slice xA xn xc] := by have := congrArg Array.toList HMC.out; simpa using this
  have f0 := hcells 0 (.int .u16 (x1 : Int)) (by rw [hmg]; rfl)
  have f1 := hcells 1 (.bool x2) (by rw [hmg]; rfl)
  have f2 := hcells 2 (.int .u32 (x3 : Int)) (by rw [hmg]; rfl)
  rw [← hW1, ← hgm]
  clear hW1 hgm hcells hmg
  cases x2
  · go_upto_region 3 with (fail)
    go_wp2_with fail
    refine (order_any HK1.out hst1).mono ?_
    rintro e W2 ⟨b, T2, Om2, Wb2, rfl, ho2, hk2, hf2, he2⟩
    have hno := HM.out HXE.out.2.1
    have hok2 : MgOk W2 T2 X := HOK1.out.fr hf2 (fun i hi h5 e => by have := e.2; rw [h5] at this; cases this) he2.old
    have HK2 := Lib.hid hk2
    have HO2 := Lib.hid ho2
    have HF2 : Hid (Fr (ownS w T) w W2) := HF1.out.trans hf2 (fun i hi e => ⟨hi, .inr (.inl e.2)⟩)
    have HE2 : Hid (Ext w W2 T T2) := ⟨fun i hi => he2.old i (by have := HS1.out; omega), he2.out⟩
    have hgt : ¬ (gm < W1.heap.size ∧ T gm = 3) := fun e => by
      have h1 := HK.out.out gm (by have := HGM.out; omega)
      rw [h1] at e; cases e.2
    have HGB2 : Hid (Blk W2 gm 43 (mgCells X).toArray) := hf2.blk HGB.out hgt
    have cm2 : W2.cell? ⟨gm, 2, none⟩ = some (.int .u32 (x3 : Int)) := by
      have := HGB2.out.cell 2
      rw [this, HMC.out]; rfl
    have cb2 := (hk2.ord.ord x1 b ho2).blk.cell 1
    simp only [List.getElem?_toArray, List.getElem?_cons_succ, List.getElem?_cons_zero] at cb2
    have hx3 : X.m.mid = x3 := HXE.out.2.2
    obtain ⟨W3, hrun, hord, hfp⟩ := (hk2.drewN 1).ord.put ho2 HXE.out.1 HXE.out.2.1 hno.1 hst1 (by rw [← HXE.out.1]; exact hno.2) (show MgOk (W2.drewN 1) T2 X from hok2.fr ((Fr.refl (fun _ => False) W2).drewN 1) (fun _ _ _ h => h) (fun _ _ => rfl))
    rw [hx3] at hrun
    have hv : mgV X = .agg #[.int .u16 (x1 : Int), .bool false, .int .u32 (x3 : Int), .int .u32 (x4 : Int), .slice xA xn xc] := by rw [← HMC.out]; rfl
    rw [hv] at hrun
    have hrun2 : (Instr.mapUpdate 105 (.map (some (Wb2 x1))) (.int .u32 (x3 : Int)) (.agg #[.int .u16 (x1 : Int), .bool false, .int .u32 (x3 : Int), .int .u32 (x4 : Int), .slice xA xn xc])).run Try.prog W2.drew = .ok () W3 := hrun
    have e0 : W2.cell? ⟨gm, 0, none⟩ = some (.int .u16 (x1 : Int)) := by rw [HGB2.out.cell 0, HMC.out]; rfl
    have e1 : W2.cell? ⟨gm, 1, none⟩ = some (.bool false) := by rw [HGB2.out.cell 1, HMC.out]; rfl
    have e3 : W2.cell? ⟨gm, 3, none⟩ = some (.int .u32 (x4 : Int)) := by rw [HGB2.out.cell 3, HMC.out]; rfl
    have e4 : W2.cell? ⟨gm, 4, none⟩ = some (.slice xA xn xc) := by rw [HGB2.out.cell 4, HMC.out]; rfl
    have hwb3 : T2 (Wb2 x1) = 3 := (hk2.ord.ord x1 b ho2).twb
    have hwlt : Wb2 x1 < W2.heap.size := hk2.ord.wlt ho2
    have hn3 : ∀ j, T2 j ≠ 3 → j ≠ Wb2 x1 := fun j hj e => hj (by rw [e]; exact hwb3)
    have hfp' : Fr (fun i => i = Wb2 x1) W2 W3 := (Fr.refl (fun i => i = Wb2 x1) W2).drew.same hfp
    have HJ3 : Hid (JO W3 T2 p inter bl bo rv h xs Om2 Wb2 next (wait ++ [msOf X.m])) := ⟨hk2.jb.fr hfp' (hn3 p (by rw [hk2.tp]; decide)), hk2.tp, hord, hk2.rdy.fr hfp' (fun i hi e => hn3 i (by rw [e]; decide)) (fun _ _ => rfl), fun y hy => (hk2.rok y hy).fr hfp' (fun i hi e => hn3 i (by rw [e]; decide)) (fun _ _ => rfl), fun i hi => hk2.out i (by have := hfp'.size; omega)⟩
    have HF3 : Hid (Fr (ownS w T) w W3) := HF2.out.trans hfp' (fun i hi e => ⟨hi, by rw [← HE2.out.old i hi, show i = Wb2 x1 from e, hwb3]; exact .inr (.inl rfl)⟩)
    have HE3 : Hid (Ext w W3 T T2) := ⟨HE2.out.old, fun i hi => HE2.out.out i (by have := hfp'.size; omega)⟩
    clear hrun hord hfp hfp' hn3 hv hk2 ho2 hf2 he2 hok2 hwb3 hwlt hgt hno f0 f1 f2
    go_upto_region 4 with (fail)
    go_region
    have hadv := advance_any HJ3.out (by rw [List.length_append, List.length_singleton]; omega) HO2.out
    go_wp2_with fail
    refine hadv.mono ?_
    rintro e W5 ⟨T5, rv5, xs5, wait5, nx5, rfl, ha5, hw5, hj5, hf5, he5⟩
    go_wp2_with fail
    go_end0
    refine ⟨T5, rv5, xs5, Om2, Wb2, _, wait5, rfl, .inr ⟨HXE.out.2.1, nx5, ?_, ?_, rfl⟩, ?_, HF3.out.trans hf5 (fun i hi e => ownS_ext HE3.out HF3.out.size i hi e), HE3.out.trans he5 HF3.out.size⟩
    · rw [HXE.out.1]; exact ha5
    · rw [HXE.out.1]; exact hw5
    · rw [HXE.out.1]; exact hj5
  · have HTG : Hid (T gm = 0) := HK.out.out gm (by have := HGM.out; omega)
    have HRC : Hid (∀ V m, RdS W1.drew T m V → V.cell? ⟨p, 3, none⟩ = some rv ∧ V.frozen? ⟨p, 3, none⟩ = false) := fun V m hS => by
      have h1 : JB V p inter bl bo rv h := JB.fr (w := W1.drew) HK1.out.jb hS.1 (fun hx => by have := hx.2; rw [HK1.out.tp] at this; cases this)
      exact ⟨h1.c3, Blk.frozen h1 3⟩
    have HMB : Hid (∀ V m, RdS W1.drew T m V → Blk V gm 43 (mgCells X).toArray) := fun V m hS => hS.1.blk (show Blk W1.drew gm _ _ from HGB.out) (fun hx => by have := hx.2; rw [HTG.out] at this; cases this)
    go_upto_region 2 with (fail)
    clear f0 f1 f2
    refine wp_region_stage_tail 8 (RdRel W1.drew T) (RdS W1.drew T) [(false, .exact (.pointer (some ⟨p, 0, none⟩))),
        (false, .exact (.pointer (some ⟨p, 0, none⟩))),
        (false, .exact (.pointer (some ⟨p, 0, none⟩))),
        (false, .exact (.pointer (some ⟨p, 3, none⟩))),
        (false, .exact (rv)),
        (false, .exact (.agg (mgCells X).toArray)),
        (false, .grows (BsP W1.drew.heap.size X)),
        (true, .grows (ApP W1.drew T (xs ++ [X])))] (by kernel_rfl) (by kernel_rfl) (by kernel_rfl) rfl (of_decide_eq_true (by kernel_rfl)) (by kernel_rfl) (by kernel_rfl) ?lasts ?start ?walk
    case lasts => exact ⟨fun m v V V' _ h k => BsP.lasts h k, fun m v V V' hm h k => ApP.lasts (Nat.lt_of_le_of_lt (Nat.zero_le _) (hm rfl)) h k, trivial⟩
    case start => exact ⟨(Fr.refl _ _), fun _ => Fr.refl _ _⟩
    case walk =>
      simp only [List.take_succ_cons, List.take_zero, List.drop_succ_cons, List.drop_zero]
      refine stageT_pure rfl (fun m V => RdRel.refl _ _ m V) (fun V m hS hl => by go_simp) ?_
      simp only [Act.put, List.setIfInBounds_toArray, List.set_cons_zero, List.set_cons_succ, List.cons_append, List.nil_append]
      refine stageT_pure rfl (fun m V => RdRel.refl _ _ m V) (fun V m hS hl => by go_simp) ?_
      simp only [Act.put, List.setIfInBounds_toArray, List.set_cons_zero, List.set_cons_succ, List.cons_append, List.nil_append]
      refine stageT_pure rfl (fun m V => RdRel.refl _ _ m V) (fun V m hS hl => by go_simp) ?_
      simp only [Act.put, List.setIfInBounds_toArray, List.set_cons_zero, List.set_cons_succ, List.cons_append, List.nil_append]
      refine stageT_pure rfl (fun m V => RdRel.refl _ _ m V) (fun V m hS hl => by go_simp) ?_
      simp only [Act.put, List.setIfInBounds_toArray, List.set_cons_zero, List.set_cons_succ, List.cons_append, List.nil_append]
      refine stageT_pure rfl (fun m V => RdRel.refl _ _ m V) (fun V m hS hl => by
          have hc := (HRC.out V m hS).1
          go_simp) ?_
      simp only [Act.put, List.setIfInBounds_toArray, List.set_cons_zero, List.set_cons_succ, List.cons_append, List.nil_append]
      refine stageT_pure rfl (fun m V => RdRel.refl _ _ m V) (fun V m hS hl => by exact exec_load_any rfl rfl (mg_load (HMB.out V m hS)) Try.underlying43 rfl msg_info) ?_
      simp only [Act.put, List.setIfInBounds_toArray, List.set_cons_zero, List.set_cons_succ, List.cons_append, List.nil_append]
      refine stageT_grows rfl (fun V m hS hl => by
          show Words.Leaves _ _ _
          rw [exec_slice_mg _ rfl X rfl]
          exact ⟨⟨(Fr.refl _ V).alloc _, fun _ => (Fr.refl _ V).alloc _⟩, ⟨_, rfl, hS.1.size, Blk.new V _ _⟩, ⟨hS.1.alloc _, fun e => (hS.2 e).alloc _⟩⟩) (fun v13 => ?_)
      simp only [Act.put, List.setIfInBounds_toArray, List.set_cons_zero, List.set_cons_succ, List.cons_append, List.nil_append]
      refine stageT_move_grows rfl (fun V hS hl => by
          obtain ⟨g1, e1, hB1, hb1⟩ := (hl.1 (by kernel_rfl))
          obtain ⟨v', w5, hrun, hr, hf⟩ := ((show ReadyR W1.drew T rv xs from HK1.out.rdy.fr ((Fr.refl (fun _ => False) W1).drew) (fun _ _ _ h => h) (fun _ _ => rfl)).fr (T' := T) (hS.2 rfl) (fun _ _ _ h => h) (fun _ _ => rfl)).append (by omega) hb1 74
          show Words.Leaves _ _ _
          rw [exec_append rfl rfl e1 hrun]
          exact push_ap HK1.out.out hS.1 hr hf) (fun v14 => ?_)
      simp only [Act.put, List.setIfInBounds_toArray, List.set_cons_zero, List.set_cons_succ, List.cons_append, List.nil_append]
      refine stageT_nil (fun V2 hS hF => ?_)
      have hF2 : BsP W1.drew.heap.size X v13 V2 ∧ ApP W1.drew T (xs ++ [X]) v14 V2 ∧ True := hF
      have HAP := Lib.hid hF2.2.1
      obtain ⟨T9, h91, h92, h93⟩ := HAP.out
      obtain ⟨A9, c9, rfl, h9a, h9b⟩ := h91.form
      obtain ⟨n9, hn9⟩ : ∃ n9, n9 = (xs ++ [X]).length := ⟨_, rfl⟩
      rw [← hn9] at HAP h9a ⊢
      have hc3 := (HRC.out V2 _ hS).1
      have hz3 := (HRC.out V2 _ hS).2
      have HS2 : Hid (Fr (fun i => i < W1.heap.size ∧ T i = 4) W1 V2) := (Fr.refl (fun i => i < W1.heap.size ∧ T i = 4) W1).drew.same hS.1
      clear hS hF hF2 h91 h92 h93 hn9
      go_wp2_with fail
      (try simp only [Exit.inBlock, Exit.then])
      refine bodyPost_ret (results_none rfl _ _ _) rfl ?_
      obtain ⟨T', k1, k2, k3⟩ := HK1.out.push HOK1.out HS2.out (show ApP W1 T (xs ++ [X]) _ V2 from HAP.out)
      exact ⟨T', _, _, _, _, _, _, rfl, .inl ⟨HXE.out.2.1, rfl, rfl, rfl⟩, k1, HF1.out.trans k2 (fun i hi e => ⟨hi, (show T i = 1 ∨ T i = 4 from e.2).elim .inl (fun e => .inr (.inr e))⟩), ⟨fun i hi => k3.old i (by have := HF1.out.size; omega), k3.out⟩⟩
end
end Go.Proofs.Ytioddokjogbmnaa.Chk

set_option linter.unusedVariables false
set_option linter.unusedSimpArgs false
set_option maxRecDepth 20000
namespace Go.Proofs.Ytioddokjogbmnaa.Chk
open Go.ChangeShapes Go.WideShapes Go.ChangeAt Go.RowKit Go.Deep Go.Maps Go.Proofs.Ytioddokjogbmnaa.Words Go.Proofs.Ytioddokjogbmnaa.Oct Go.Proofs.Ytioddokjogbmnaa.Par Go.Proofs.Ytioddokjogbmnaa.Mx
def keyP (inter : Bool) (q : Jo.Pc) : Gk := keyC inter q.st q.lo q.mid
def idxP (inter : Bool) (q : Jo.Pc) : Nat := if inter = true then q.fr else q.tsn
def atK (inter : Bool) (g : Gk) (pcs : List Jo.Pc) : List Jo.Pc := pcs.filter fun q => decide (keyP inter q = g)
section
variable {w w' : World} {T T' : Nat → Nat} {p bl bo h : Nat} {inter : Bool} {rv : Value} {S : Nat → Prop} {F F' : Gk → Option Nat} {pcs pcs' : List Jo.Pc} {r : Jo.Pc → Bool}
/-- The lines, and what they hold. -/
structure LnsR (w : World) (T : Nat → Nat) (bl : Nat) (inter : Bool) (F : Gk → Option Nat) (pcs : List Jo.Pc) : Prop where
  line : ∀ g b, F g = some b → T b = 2 ∧ b ≠ bl ∧ ∃ L, LineAt w b L ∧ LnOf (idxP inter) L (atK inter g pcs) ∧ ∀ i x, L i = some x → BodT w T x.A x.cp x.m.body ∧ x.m.body ≠ []
  all : ∀ q ∈ pcs, ∃ b, F (keyP inter q) = some b
  inj : ∀ g g' b, F g = some b → F g' = some b → g = g'
abbrev lptr (b : Nat) : Value := .map (some b)
structure LinesR (w : World) (T : Nat → Nat) (bl : Nat) (inter : Bool) (F : Gk → Option Nat) (pcs : List Jo.Pc) : Prop where
  tbl : T bl = 2
  map : MapX grpX w bl (fun g => (F g).map lptr)
  lns : LnsR w T bl inter F pcs
theorem LnsR.lt (k : LnsR w T bl inter F pcs) {g : Gk} {b : Nat} (h : F g = some b) : b < w.heap.size := by obtain ⟨_, _, L, h1, _⟩ := k.line g b h; exact h1.lt
theorem LnsR.fr (k : LnsR w T bl inter F pcs) (hf : Fr S w w') (h2 : ∀ i, i < w.heap.size → T i = 2 → i ≠ bl → ¬ S i) (h5 : ∀ i, i < w.heap.size → T i = 5 → ¬ S i) (he : ∀ i, i < w.heap.size → T' i = T i) : LnsR w' T' bl inter F pcs :=
  ⟨fun g b hg => by
    obtain ⟨a1, a2, L, a3, a4, a5⟩ := k.line g b hg
    exact ⟨by rw [he b a3.lt]; exact a1, a2, L, a3.fr hf (h2 b a3.lt a1 a2), a4, fun i x hx => ⟨(a5 i x hx).1.fr hf h5 he (a5 i x hx).2, (a5 i x hx).2⟩⟩, k.all, k.inj⟩
theorem LinesR.fr (k : LinesR w T bl inter F pcs) (hf : Fr S w w') (h2 : ∀ i, i < w.heap.size → T i = 2 → ¬ S i) (h5 : ∀ i, i < w.heap.size → T i = 5 → ¬ S i) (he : ∀ i, i < w.heap.size → T' i = T i) : LinesR w' T' bl inter F pcs :=
  ⟨by rw [he bl k.map.lt]; exact k.tbl, k.map.fr hf (h2 bl k.map.lt k.tbl), k.lns.fr hf (fun i hi e _ => h2 i hi e) h5 he⟩
theorem LinesR.perm (k : LinesR w T bl inter F pcs) (hp : pcs.Perm pcs') : LinesR w T bl inter F pcs' :=
  ⟨k.tbl, k.map, ⟨fun g b hg => by
    obtain ⟨a1, a2, L, a3, a4, a5⟩ := k.lns.line g b hg
    have hq : (atK inter g pcs).Perm (atK inter g pcs') := hp.filter _
    exact ⟨a1, a2, L, a3, ⟨fun q hq' => a4.has q (hq.mem_iff.2 hq'), fun i x hx => by obtain ⟨q, h1, h2⟩ := a4.of i x hx; exact ⟨q, hq.mem_iff.1 h1, h2⟩, (hq.pairwise_iff (fun {_ _} hab => Ne.symm hab)).1 a4.nd⟩, a5⟩, fun q hq => k.lns.all q (hp.mem_iff.2 hq), k.lns.inj⟩⟩
theorem line_sub {idx : Jo.Pc → Nat} {ps : List Jo.Pc} {L : Nat → Option Fg} {left : Nat → Bool} {i : Nat} {x : Fg} (h : lineF idx ps r L left i = some x) : L i = some x := by
  unfold lineF at h
  split at h
  · cases h
  · exact h
def dropK (inter : Bool) (g : Gk) (r : Jo.Pc → Bool) (pcs : List Jo.Pc) : List Jo.Pc := pcs.filter fun q => !(r q && decide (keyP inter q = g))
theorem dropK_at (g : Gk) : atK inter g (dropK inter g r pcs) = (atK inter g pcs).filter fun q => !r q := by
  unfold atK dropK
  rw [List.filter_filter, List.filter_filter]
  refine List.filter_congr fun q _ => ?_
  by_cases e : keyP inter q = g <;> simp [e]
theorem dropK_other {g g' : Gk} (hne : g' ≠ g) : atK inter g' (dropK inter g r pcs) = atK inter g' pcs := by
  unfold atK dropK
  rw [List.filter_filter]
  refine List.filter_congr fun q _ => ?_
  by_cases e : keyP inter q = g'
  · have : keyP inter q ≠ g := fun e' => hne (e.symm.trans e')
    simp [e, hne]
  · simp [e]
/-- One line is gone through. -/
theorem LnsR.drop1 (k : LnsR w T bl inter F pcs) {g : Gk} {b : Nat} {L : Nat → Option Fg} (hg : F g = some b) (hL : LnOf (idxP inter) L (atK inter g pcs)) (h5 : ∀ i x, L i = some x → BodT w T x.A x.cp x.m.body ∧ x.m.body ≠ []) (hl : LineAt w' b (lineF (idxP inter) (atK inter g pcs) r L fun _ => false)) (hf : Fr (fun i => i = b) w w') :
    LnsR w' T bl inter F (dropK inter g r pcs) := by
  obtain ⟨a1, a2, _⟩ := k.line g b hg
  have hn5 : ∀ i, i < w.heap.size → T i = 5 → ¬ i = b := fun i hi e e' => by rw [e', a1] at e; cases e
  refine ⟨fun g' b' hg' => ?_, fun q hq => k.all q (List.mem_filter.1 hq).1, k.inj⟩
  by_cases e : g' = g
  · subst e
    rw [hg] at hg'
    injection hg' with hg'
    subst hg'
    refine ⟨a1, a2, _, hl, ?_, fun i x hx => ?_⟩
    · rw [dropK_at]
      exact hL.dropped r
    · obtain ⟨c1, c2⟩ := h5 i x (line_sub hx)
      exact ⟨c1.fr hf hn5 (fun _ _ => rfl) c2, c2⟩
  · obtain ⟨c1, c2, L', c3, c4, c5⟩ := k.line g' b' hg'
    refine ⟨c1, c2, L', c3.fr hf (fun e' => e (k.inj g' g b (by rw [← e']; exact hg') hg)), by rw [dropK_other e]; exact c4, fun i x hx => ⟨(c5 i x hx).1.fr hf hn5 (fun _ _ => rfl) (c5 i x hx).2, (c5 i x hx).2⟩⟩
theorem LnsR.strike (k : LnsR w T bl inter F pcs) {g : Gk} (h0 : atK inter g pcs = []) : LnsR w T bl inter (fun z => if z = g then none else F z) pcs := by
  refine ⟨fun g' b' hg' => ?_, fun q hq => ?_, fun g1 g2 b h1 h2 => ?_⟩
  · by_cases e : g' = g
    · rw [if_pos e] at hg'; cases hg'
    · rw [if_neg e] at hg'; exact k.line g' b' hg'
  · have : keyP inter q ≠ g := fun e => by
      have : q ∈ atK inter g pcs := List.mem_filter.2 ⟨hq, by simp [e]⟩
      rw [h0] at this; simp at this
    obtain ⟨b, hb⟩ := k.all q hq
    exact ⟨b, by rw [if_neg this]; exact hb⟩
  · by_cases e1 : g1 = g
    · rw [if_pos e1] at h1; cases h1
    · by_cases e2 : g2 = g
      · rw [if_pos e2] at h2; cases h2
      · rw [if_neg e1] at h1; rw [if_neg e2] at h2; exact k.inj g1 g2 b h1 h2
theorem LnOf.empty {idx : Jo.Pc → Nat} {L : Nat → Option Fg} {ps : List Jo.Pc} (k : LnOf idx L ps) : (∀ i, L i = none) ↔ ps = [] := by
  constructor
  · intro hn
    cases ps with
    | nil => rfl
    | cons q t =>
      obtain ⟨x, hx, _⟩ := k.has q List.mem_cons_self
      rw [hn] at hx; cases hx
  · rintro rfl i
    cases hx : L i with
    | none => rfl
    | some x => obtain ⟨q, hq, _⟩ := k.of i x hx; simp at hq
theorem sizeP_or {a c : Jo.Pc → Bool} (hd : ∀ z, (a z && c z) = false) : ∀ l : List Jo.Pc, Jo.sizeP (l.filter fun z => a z || c z) = Jo.sizeP (l.filter a) + Jo.sizeP (l.filter c)
  | [] => rfl
  | z :: t => by
    have ih := sizeP_or hd t
    have h1 := hd z
    have ec : ∀ (z : Jo.Pc) (l : List Jo.Pc), Jo.sizeP (z :: l) = z.body.length + Jo.sizeP l := fun z l => by simp [Jo.sizeP]
    cases ha : a z <;> cases hc : c z <;> simp [ha, hc, ec, ih] at h1 ⊢ <;> omega
/-- What a rule answers, in whatever world a drop goes through. -/
def RuleJ (w : World) (T : Nat → Nat) (p N : Nat) (caps : Array Value) (inter : Bool) (pcs : List Jo.Pc) (r : Jo.Pc → Bool) : Prop :=
  ∀ (W : World) (q : Jo.Pc) (v : Value), Fr (fun i => i < w.heap.size ∧ (T i = 2 ∨ i = p)) w W → W.cell? ⟨p, 0, none⟩ = some (.bool inter) → q ∈ pcs → Calls Try.prog N (#[.int .u32 (idxP inter q : Int), .agg (mCells (pcM q) v)] ++ caps) W fun e W' => e = .returned (.bool (r q)) ∧ Below W.heap.size W W'
def DropJ (w : World) (T : Nat → Nat) (p : Nat) (inter : Bool) (bl bo : Nat) (rv : Value) (h : Nat) (pcs : List Jo.Pc) (r : Jo.Pc → Bool) (e : Ending) (w' : World) : Prop :=
  ∃ F', e = .returned (.tuple #[]) ∧ LinesR w' T bl inter F' (pcs.filter fun q => !r q) ∧ JB w' p inter bl bo rv (h - Jo.sizeP (pcs.filter r)) ∧ Fr (fun i => i < w.heap.size ∧ (T i = 2 ∨ i = p)) w w'
def leftP (inter : Bool) (r : Jo.Pc → Bool) (left : Gk → Bool) (pcs : List Jo.Pc) : List Jo.Pc := pcs.filter fun q => !(r q && !left (keyP inter q))
def goneP (inter : Bool) (r : Jo.Pc → Bool) (left : Gk → Bool) (pcs : List Jo.Pc) : List Jo.Pc := pcs.filter fun q => r q && !left (keyP inter q)
theorem leftP_at {left : Gk → Bool} {g : Gk} (hl : left g = true) : atK inter g (leftP inter r left pcs) = atK inter g pcs := by
  unfold atK leftP
  rw [List.filter_filter]
  refine List.filter_congr fun q _ => ?_
  by_cases e : keyP inter q = g <;> simp [e, hl]
theorem leftP_step {left : Gk → Bool} {g : Gk} : dropK inter g r (leftP inter r left pcs) = leftP inter r (fun y => left y && !decide (y = g)) pcs := by
  unfold dropK leftP
  rw [List.filter_filter]
  refine List.filter_congr fun q _ => ?_
  by_cases e : keyP inter q = g
  · cases r q <;> simp [e]
  · cases r q <;> cases hl2 : left (keyP inter q) <;> simp [e, hl2]
theorem goneP_step {left : Gk → Bool} {g : Gk} (hl : left g = true) : Jo.sizeP (goneP inter r (fun y => left y && !decide (y = g)) pcs) = Jo.sizeP (goneP inter r left pcs) + Jo.sizeP ((atK inter g pcs).filter r) := by
  unfold goneP atK
  rw [List.filter_filter, ← sizeP_or (fun z => by
    by_cases e : keyP inter z = g <;> simp [e, hl])]
  congr 1
  refine List.filter_congr fun q _ => ?_
  by_cases e : keyP inter q = g
  · cases r q <;> simp [e, hl]
  · cases r q <;> cases hl2 : left (keyP inter q) <;> simp [e, hl2]
end
end Go.Proofs.Ytioddokjogbmnaa.Chk

set_option linter.unusedVariables false
set_option linter.unusedSimpArgs false
set_option maxRecDepth 20000
namespace Go.Proofs.Ytioddokjogbmnaa.Chk
open Go.ChangeShapes Go.WideShapes Go.ChangeAt Go.RowKit Go.Deep Go.Maps Go.Proofs.Ytioddokjogbmnaa.Words Go.Proofs.Ytioddokjogbmnaa.Oct Go.Proofs.Ytioddokjogbmnaa.Par Go.Proofs.Ytioddokjogbmnaa.Mx
section
variable {w w' : World} {T T' : Nat → Nat} {p bl bo h : Nat} {inter : Bool} {rv : Value} {S : Nat → Prop} {F F' : Gk → Option Nat} {pcs pcs' : List Jo.Pc} {r : Jo.Pc → Bool}
def DrS (W : World) (b : Nat) (L' : Nat → Option Fg) (m : Nat) (V : World) : Prop := (m = 0 → Fr (fun _ => False) W V) ∧ (1 ≤ m → LineAt V b L') ∧ Fr (fun i => i = b) W V
set_option maxHeartbeats 8000000 in
theorem jdrop_any {N : Nat} {caps : Array Value} (kj : JB w p inter bl bo rv h) (tp : T p = 1) (k : LinesR w T bl inter F pcs) (out : ∀ i, w.heap.size ≤ i → T i = 0) (hh : Jo.sizeP pcs ≤ h) (hz : h ≤ 2000000000) (hN : ∀ args W, (callFunc N args).run Try.prog W = .ok (.enter N args) W) (hr : RuleJ w T p N caps inter pcs r) :
    Calls Try.prog 37 #[jptr p, .func (.func N) #[] caps] w (DropJ w T p inter bl bo rv h pcs r) := by
  have c1 := kj.c1
  obtain ⟨w1, cnt, hrun, hrg, hgr, hsz⟩ := MapX.range k.map (t := 72) Try.underlying72
  have hf1 : Fr (fun i => i < w.heap.size ∧ (T i = 2 ∨ i = p)) w w1 := (Fr.refl _ w).grown hgr (fun g hg => by cases hg)
  have hfn : Fr (fun _ => False) w w1 := (Fr.refl _ w).grown hgr (fun g hg => by cases hg)
  have HR := Lib.hid hr
  have HRG : Hid (RangeX grpX w1 bl w.heap.size (fun g => (F g).map lptr) (fun g => (F g).isSome) cnt) := hrg.as_ (fun g => by
    show ((F g).map lptr).isSome = _
    cases F g <;> rfl)
  have hp0 : leftP inter r (fun g => (F g).isSome) pcs = pcs := List.filter_eq_self.2 (fun q hq => by
    obtain ⟨b, hb⟩ := k.lns.all q hq
    simp [hb])
  have hg0 : Jo.sizeP (goneP inter r (fun g => (F g).isSome) pcs) = 0 := by
    unfold goneP
    rw [List.filter_eq_nil_iff.2 (fun q hq => by
      obtain ⟨b, hb⟩ := k.lns.all q hq
      simp [hb])]
    rfl
  have HL0 : Hid (LnsR w1 T bl inter F (leftP inter r (fun g => (F g).isSome) pcs)) := by
    rw [hp0]
    exact k.lns.fr hfn (fun _ _ _ _ h => h) (fun _ _ _ h => h) (fun _ _ => rfl)
  have HJ0 : Hid (JB w1 p inter bl bo rv (h - Jo.sizeP (goneP inter r (fun g => (F g).isSome) pcs))) := by rw [hg0]; exact kj.fr hfn (fun h => h)
  have HF0 := Lib.hid hf1
  have HTB : Hid (T bl = 2) := k.tbl
  have HPL : Hid (p < w.heap.size) := Blk.lt kj
  have HBLT : Hid (bl < w.heap.size) := k.map.lt
  have HOUT := Lib.hid out
  have HQ : Hid (∀ q, q ∈ pcs → q ∈ pcs) := fun _ h => h
  obtain ⟨q, hq⟩ : ∃ q, q = w.heap.size := ⟨_, rfl⟩
  rw [← hq] at HRG hrun
  have HQ2 : Hid (w.heap.size ≤ q) := by unfold Hid; omega
  have HTP := Lib.hid tp
  have HZP : Hid (Jo.sizeP pcs ≤ h) := hh
  clear k kj hrg hgr hsz hr hf1 hfn hp0 hg0 hq out tp hh
  go_enter Try.func37, Try.ntmps37
  go_wp2_with fail
  go_loopw [4, 5] (fun _ _ wr => ∃ (left : Gk → Bool) (cnt : Nat) (F1 : Gk → Option Nat), Hid (RangeX grpX wr bl q (fun g => (F1 g).map lptr) left cnt) ∧ Hid (LnsR wr T bl inter F1 (leftP inter r left pcs)) ∧ Hid (JB wr p inter bl bo rv (h - Jo.sizeP (goneP inter r left pcs))) ∧ Hid (Fr (fun i => i < w.heap.size ∧ (T i = 2 ∨ i = p)) w wr)) (fun _ _ wr => wr.rangeLeft bl q)
  case atStart => exact ⟨_, _, F, HRG, HL0, HJ0, HF0⟩
  case round =>
    clear HRG HL0 HJ0 HF0 hrun c1
    obtain ⟨left, cnt, F1, HG, HL, HJ, HF⟩ := hrel
    rcases HG.out.next 0 with ⟨hall, hrun2⟩ | ⟨g, v, w2, cnt2, hdom, hlg, hfg, hrun2, hrg2, hlt2, hgr2, hsz2, hen⟩
    · go_wp2_with fail
      go_end0
      have e1 : leftP inter r left pcs = pcs.filter fun q => !r q := List.filter_congr fun z _ => by rw [hall]; simp
      have e2 : goneP inter r left pcs = pcs.filter r := List.filter_congr fun z _ => by rw [hall]; simp
      have h1 := HL.out
      have h2 := HJ.out
      rw [e1] at h1
      rw [e2] at h2
      exact ⟨F1, rfl, ⟨HTB.out, HG.out.map, h1⟩, h2, HF.out⟩
    · obtain ⟨b, hFb, rfl⟩ : ∃ b, F1 g = some b ∧ v = lptr b := by
        have hfg' : (F1 g).map lptr = some v := hfg
        cases hl : F1 g with
        | none => rw [hl] at hfg'; cases hfg'
        | some b => rw [hl] at hfg'; injection hfg' with hfg'; exact ⟨b, rfl, hfg'.symm⟩
      obtain ⟨g1, g2, g3⟩ := g
      have hrun3 : (Instr.next (.pointer (some ⟨q, 0, none⟩)) false 0).run Try.prog wr = .ok (.tuple #[.bool true, .agg #[.int .u16 (g1 : Int), .bool g2, .int .u32 (g3 : Int)], .map (some b)]) w2 := hrun2
      have hen3 : (Instr.entry (.pointer (some ⟨q, 0, none⟩))).run Try.prog w2 = .ok (.tuple #[.agg #[.int .u16 (g1 : Int), .bool g2, .int .u32 (g3 : Int)], .map (some b)]) w2 := hen
      obtain ⟨G, hG⟩ : ∃ G : Gk, G = ⟨g1, g2, g3⟩ := ⟨_, rfl⟩
      rw [← hG] at hdom hlg hFb hrg2
      have HGE := Lib.hid hG
      obtain ⟨hb2, hbne, L, hL1, hL2, hL3⟩ := HL.out.line G b hFb
      rw [leftP_at hlg] at hL2
      have hfr2 : Fr (fun i => i = q) wr w2 := (Fr.of_grown hgr2).mono (fun i hi e => by injection e)
      have hqn : ∀ i, i < w.heap.size → ¬ i = q := fun i hi e => by have := HQ2.out; omega
      have hbw : b < w.heap.size := by
        rcases Nat.lt_or_ge b w.heap.size with h1 | h1
        · exact h1
        · have := HOUT.out b h1; rw [this] at hb2; cases hb2
      have HL2' : Hid (LnsR w2 T bl inter F1 (leftP inter r left pcs)) := HL.out.fr hfr2 (fun i hi e _ e' => by
        rcases Nat.lt_or_ge i w.heap.size with h1 | h1
        · exact hqn i h1 e'
        · have := HOUT.out i h1; rw [this] at e; cases e) (fun i hi e e' => by
        rcases Nat.lt_or_ge i w.heap.size with h1 | h1
        · exact hqn i h1 e'
        · have := HOUT.out i h1; rw [this] at e; cases e) (fun _ _ => rfl)
      have HJ2 : Hid (JB w2 p inter bl bo rv (h - Jo.sizeP (goneP inter r left pcs))) := HJ.out.fr hfr2 (hqn p HPL.out)
      have HF2 : Hid (Fr (fun i => i < w.heap.size ∧ (T i = 2 ∨ i = p)) w w2) := HF.out.trans hfr2 (fun i hi e => absurd e (hqn i hi))
      have HLA2 : Hid (LineAt w2 b L) := hL1.fr hfr2 (hqn b hbw)
      have HL2b := Lib.hid hL2
      have HL3 : Hid (∀ i x, L i = some x → BodT w2 T x.A x.cp x.m.body ∧ x.m.body ≠ []) := fun i x hx => ⟨(hL3 i x hx).1.fr hfr2 (fun i hi e e' => by
        rcases Nat.lt_or_ge i w.heap.size with h1 | h1
        · exact hqn i h1 e'
        · have := HOUT.out i h1; rw [this] at e; cases e) (fun _ _ => rfl) (hL3 i x hx).2, (hL3 i x hx).2⟩
      have HFB := Lib.hid hFb
      have HLG := Lib.hid hlg
      have HDM := Lib.hid hdom
      have HB2 := Lib.hid hb2
      have HBN := Lib.hid hbne
      have HRG2 := Lib.hid hrg2
      have HLT := Lib.hid hlt2
      have HCE := Lib.hid HG.out.left_eq
      have HBW := Lib.hid hbw
      clear hrun2 hen hsz2 hfg hdom hlg hFb hG hb2 hbne hL1 hL2 hL3 hfr2 hqn hbw hrg2 hlt2 hgr2 HG HL HJ HF
      go_upto_region 3 with (fail)
      obtain ⟨W3, hW3⟩ : ∃ W3, W3 = w2.alloc (.cells #[.int .u16 (g1 : Int), .bool g2, .int .u32 (g3 : Int)] 79) := ⟨_, rfl⟩
      obtain ⟨gg, hgg⟩ : ∃ gg, gg = w2.heap.size := ⟨_, rfl⟩
      rw [← hgg, ← hW3]
      have HBG3 : Hid (Blk W3 gg 79 #[.int .u16 (g1 : Int), .bool g2, .int .u32 (g3 : Int)]) := by rw [hW3, hgg]; exact Blk.new _ _ _
      have hfn : Fr (fun _ => False) w2 W3 := by rw [hW3]; exact (Fr.refl _ w2).alloc _
      have HL3' : Hid (LnsR W3 T bl inter F1 (leftP inter r left pcs)) := HL2'.out.fr hfn (fun _ _ _ _ h => h) (fun _ _ _ h => h) (fun _ _ => rfl)
      have HJ3 : Hid (JB W3 p inter bl bo rv (h - Jo.sizeP (goneP inter r left pcs))) := HJ2.out.fr hfn (fun h => h)
      have HF3 : Hid (Fr (fun i => i < w.heap.size ∧ (T i = 2 ∨ i = p)) w W3) := HF2.out.trans hfn (fun _ _ h => h.elim)
      have HLA3 : Hid (LineAt W3 b L) := HLA2.out.fr hfn (fun h => h)
      have HLB3 : Hid (∀ i x, L i = some x → BodT W3 T x.A x.cp x.m.body ∧ x.m.body ≠ []) := fun i x hx => ⟨(HL3.out i x hx).1.fr hfn (fun _ _ _ h => h) (fun _ _ => rfl) (HL3.out i x hx).2, (HL3.out i x hx).2⟩
      have HRG3 := Lib.hid (HRG2.out.fr hfn (fun h => h) (fun h => h))
      have HGG : Hid (w.heap.size ≤ gg) := by have := HF2.out.size; unfold Hid; omega
      have HGL : Hid (gg < W3.heap.size) := HBG3.out.lt
      clear hW3 hgg hfn HL2' HJ2 HF2 HLA2 HL3 HRG2 hrun3 hen3
      obtain ⟨n, hn⟩ : ∃ n, n = Jo.sizeP ((atK inter G pcs).filter r) := ⟨_, rfl⟩
      obtain ⟨h1, hh1⟩ : ∃ h1, h1 = h - Jo.sizeP (goneP inter r left pcs) := ⟨_, rfl⟩
      obtain ⟨h2, hh2⟩ : ∃ h2, h2 = h - Jo.sizeP (goneP inter r (fun y => left y && !decide (y = G)) pcs) := ⟨_, rfl⟩
      have hst := goneP_step (inter := inter) (r := r) (pcs := pcs) HLG.out
      have hle : Jo.sizeP (goneP inter r (fun y => left y && !decide (y = G)) pcs) ≤ Jo.sizeP pcs := sizeP_filter_le _ _
      have hps : Jo.sizeP (atK inter G pcs) ≤ 2000000000 := Nat.le_trans (sizeP_filter_le _ _) (Nat.le_trans HZP.out hz)
      have h12 : h2 + n = h1 := by have := HZP.out; omega
      have hh1b : h1 ≤ 2000000000 := by omega
      rw [← hh1] at HJ3
      have HN := Lib.hid hn
      have HH2 := Lib.hid hh2
      have HPS := Lib.hid hps
      have hsub : (h1 : Int) - (n : Int) = (h2 : Int) := by omega
      have hwr : IntKind.i64.wrap (h2 : Int) = (h2 : Int) := IntWalk.i64_in _ (by omega)
      have HC4 : Hid (∀ V m, DrS W3.drew b (lineF (idxP inter) (atK inter G pcs) r L fun _ => false) m V → JB V p inter bl bo rv h1) := fun V m hS => JB.fr (w := W3.drew) HJ3.out hS.2.2 (fun e => by have h3 := HTP.out; rw [e] at h3; rw [HB2.out] at h3; cases h3)
      have HRO : Hid (∀ V, Fr (fun _ => False) W3.drew V → RuleOk V b N caps (idxP inter) (atK inter G pcs) r) := fun V hV W z v hW hz' => by
        have hwV : Fr (fun i => i < w.heap.size ∧ (T i = 2 ∨ i = p)) w W := ((HF3.out.drew).trans hV (fun _ _ h => h.elim)).trans hW (fun i hi e => ⟨hi, .inl (by rw [show i = b from e]; exact HB2.out)⟩)
        have hjW : JB W p inter bl bo rv h1 := (JB.fr (w := W3.drew) HJ3.out hV (fun h => h)).fr hW (fun e => by have h3 := HTP.out; rw [e] at h3; rw [HB2.out] at h3; cases h3)
        exact HR.out W z v hwV hjW.c0 (List.mem_filter.1 hz').1
      clear hst hle hps hn hh1 hh2
      refine wp_region_stage_tail 8 (fun _ _ _ => True) (DrS W3.drew b (lineF (idxP inter) (atK inter G pcs) r L fun _ => false)) [(false, .exact (.pointer (some ⟨p, 0, none⟩))),
          (false, .exact (.pointer (some ⟨p, 0, none⟩))),
          (false, .exact (.pointer (some ⟨p, 4, none⟩))),
          (false, .exact (.int .i64 (h1 : Int))),
          (false, .exact (.map (some b))),
          (false, .exact (.func (.func N) #[] caps)),
          (true, .exact (.int .i64 (n : Int))),
          (false, .exact (.int .i64 (h2 : Int)))] (by kernel_rfl) (by kernel_rfl) (by kernel_rfl) rfl (of_decide_eq_true (by kernel_rfl)) (by kernel_rfl) (by kernel_rfl) ?lasts ?start ?walk
      case lasts => exact trivial
      case start => exact ⟨fun _ => Fr.refl _ _, fun e => absurd e (by omega), Fr.refl _ _⟩
      case walk =>
        simp only [List.take_succ_cons, List.take_zero, List.drop_succ_cons, List.drop_zero]
        refine stageT_pure rfl (fun _ _ => trivial) (fun V m hS hl => by go_simp) ?_
        simp only [Act.put, List.setIfInBounds_toArray, List.set_cons_zero, List.set_cons_succ, List.cons_append, List.nil_append]
        refine stageT_pure rfl (fun _ _ => trivial) (fun V m hS hl => by go_simp) ?_
        simp only [Act.put, List.setIfInBounds_toArray, List.set_cons_zero, List.set_cons_succ, List.cons_append, List.nil_append]
        refine stageT_pure rfl (fun _ _ => trivial) (fun V m hS hl => by go_simp) ?_
        simp only [Act.put, List.setIfInBounds_toArray, List.set_cons_zero, List.set_cons_succ, List.cons_append, List.nil_append]
        refine stageT_pure rfl (fun _ _ => trivial) (fun V m hS hl => by
            have hc := (HC4.out V m hS).c4
            go_simp) ?_
        simp only [Act.put, List.setIfInBounds_toArray, List.set_cons_zero, List.set_cons_succ, List.cons_append, List.nil_append]
        refine stageT_pure rfl (fun _ _ => trivial) (fun V m hS hl => by go_simp) ?_
        simp only [Act.put, List.setIfInBounds_toArray, List.set_cons_zero, List.set_cons_succ, List.cons_append, List.nil_append]
        refine stageT_pure rfl (fun _ _ => trivial) (fun V m hS hl => by go_simp) ?_
        simp only [Act.put, List.setIfInBounds_toArray, List.set_cons_zero, List.set_cons_succ, List.cons_append, List.nil_append]
        refine stageT_move rfl (fun V hS hl => by
            go_simp
            refine (ldrop_any (show LineAt V b L from (show LineAt W3.drew b L from HLA3.out.fr ((Fr.refl (fun _ => False) W3).drew) (fun h => h)).fr (hS.1 rfl) (fun h => h)) HL2b.out HPS.out hN (HRO.out V (hS.1 rfl))).mono ?_
            rintro e V' ⟨rfl, h5, h6⟩
            rw [← HN.out]
            exact ⟨_, rfl, rfl, ⟨fun e => absurd e (by omega), fun _ => h5.out, hS.2.2.same h6.out⟩⟩) ?_
        simp only [Act.put, List.setIfInBounds_toArray, List.set_cons_zero, List.set_cons_succ, List.cons_append, List.nil_append]
        refine stageT_pure rfl (fun _ _ => trivial) (fun V m hS hl => by go_simp) ?_
        simp only [Act.put, List.setIfInBounds_toArray, List.set_cons_zero, List.set_cons_succ, List.cons_append, List.nil_append]
        refine stageT_nil (fun V2 hS hF => ?_)
        have hjb := HC4.out V2 _ hS
        have c4 := hjb.c4
        have f4 := Blk.frozen hjb 4
        have hla := hS.2.1 (Nat.le_refl _)
        have hfb : Fr (fun i => i = b) W3 V2 := ((Fr.refl (fun i => i = b) W3).drew).same hS.2.2
        clear hF hS
        obtain ⟨W4, hW4⟩ : ∃ W4, W4 = V2.setCell ⟨p, 4, none⟩ (.int .i64 (h2 : Int)) := ⟨_, rfl⟩
        have hfp : Fr (fun i => i = p) V2 W4 := by rw [hW4]; exact (Fr.refl (fun i => i = p) V2).setCell (p := ⟨p, 4, none⟩) (.inl rfl) _
        have hT1 : ∀ i, T i = 2 ∨ T i = 5 → ¬ i = p := fun i e e' => by rw [e', HTP.out] at e; rcases e with e | e <;> cases e
        have HJ4 : Hid (JB W4 p inter bl bo rv h2) := by rw [hW4]; exact hjb.held h2
        have hln : LnsR V2 T bl inter F1 (dropK inter G r (leftP inter r left pcs)) := HL3'.out.drop1 HFB.out (by rw [leftP_at HLG.out]; exact HL2b.out) HLB3.out (by rw [leftP_at HLG.out]; exact hla) hfb
        have HL4 : Hid (LnsR W4 T bl inter F1 (leftP inter r (fun y => left y && !decide (y = G)) pcs)) := by
          rw [← leftP_step]
          exact hln.fr hfp (fun i hi e _ => hT1 i (.inl e)) (fun i hi e => hT1 i (.inr e)) (fun _ _ => rfl)
        have HLA4 : Hid (LineAt W4 b (lineF (idxP inter) (atK inter G pcs) r L fun _ => false)) := hla.fr hfp (hT1 b (.inl HB2.out))
        have hnb : ¬ bl = b := fun e => HBN.out e.symm
        have hqb : ¬ q = b := fun e => by have h3 := HQ2.out; have h4 := HBW.out; omega
        have hqp : ¬ q = p := fun e => by have h3 := HQ2.out; have h4 := HPL.out; omega
        have HRG4 := Lib.hid ((HRG3.out.fr hfb hnb hqb).fr hfp (hT1 bl (.inl HTB.out)) hqp)
        have HF4 : Hid (Fr (fun i => i < w.heap.size ∧ (T i = 2 ∨ i = p)) w W4) := (HF3.out.trans hfb (fun i hi e => ⟨hi, .inl (by rw [show i = b from e]; exact HB2.out)⟩)).trans hfp (fun i hi e => ⟨hi, .inr e⟩)
        have HBG4 : Hid (Blk W4 gg 79 #[.int .u16 (g1 : Int), .bool g2, .int .u32 (g3 : Int)]) := hfp.blk (hfb.blk HBG3.out (fun e => by have h3 := HGG.out; have h4 := HBW.out; omega)) (fun e => by have h3 := HGG.out; have h4 := HPL.out; omega)
        obtain ⟨n', hlen, hn'1, hn'2⟩ := MapX.len HLA4.out (t := 83) Try.underlying83 3
        have HEM : Hid (n' = 0 ↔ atK inter G (leftP inter r (fun y => left y && !decide (y = G)) pcs) = []) := by
          have h5 := (HL2b.out.dropped r).empty
          have h6 : (atK inter G (leftP inter r (fun y => left y && !decide (y = G)) pcs)) = (atK inter G pcs).filter fun q => !r q := by rw [← leftP_step, dropK_at, leftP_at HLG.out]
          unfold Hid
          rw [hn'2, h6, ← h5]
          constructor
          · intro h7 i
            have h8 := h7 i
            cases hx : lineF (idxP inter) (atK inter G pcs) r L (fun _ => false) i with
            | none => rfl
            | some x => rw [hx] at h8; cases h8
          · intro h7 i
            rw [h7 i]; rfl
        go_upto_region 4 with (fail)
        rw [← hW4]
        clear hW4 hjb c4 f4 hla hfb hfp hln hn'2 hT1 hnb hqb hqp hsub hwr
        by_cases hn0 : n' = 0
        · subst hn0
          have he0 := HEM.out.1 rfl
          have HST := Lib.hid (HL4.out.strike he0)
          obtain ⟨w5, cnt5, hdel, hrg5, hle5, hturn5⟩ := (HRG4.out.fr ((Fr.refl (fun _ => False) W4).drew) (fun h => h) (fun h => h)).del (t := 72) Try.underlying72 (x := G) HDM.out 0
          have hdel2 : (Builtin.delete_ #[72, 79] 0 #[.map (some bl), .agg #[.int .u16 (g1 : Int), .bool g2, .int .u32 (g3 : Int)]]).run Try.prog W4.drew = .ok (.tuple #[]) w5 := by
            have h5 := hdel
            rw [HGE.out] at h5
            exact h5
          have c1 := HJ4.out.c1
          have e0 := HBG4.out.cell 0
          have e1 := HBG4.out.cell 1
          have e2 := HBG4.out.cell 2
          simp only [List.getElem?_toArray, List.getElem?_cons_succ, List.getElem?_cons_zero] at e0 e1 e2
          have hfd : Fr (fun i => i = bl) W4 w5 := ((Fr.refl (fun i => i = bl) W4).drew).same ((Fr.of_grown hturn5.grown).mono (fun i hi e => by injection e))
          have HRG5 := Lib.hid hrg5
          have HLE5 := Lib.hid hle5
          have HFD := Lib.hid hfd
          clear hdel hrg5 hle5 hturn5 hfd he0
          go_upto_region 5 with (fail)
          go_region
          go_wp2_with fail
          go_roundw
          case rel =>
            exact ⟨fun y => left y && !decide (y = G), cnt5, fun z => if z = G then none else F1 z, (by
              have h5 := HRG5.out.as_ (left' := fun y => left y && !decide (y = G)) (fun y => by cases left y <;> cases decide (y = G) <;> rfl)
              have e5 : delF (fun g => (F1 g).map lptr) G = fun y => (if y = G then none else F1 y).map lptr := funext fun y => by unfold delF; by_cases e : y = G <;> simp [e]
              rw [e5] at h5
              exact h5), (HST.out.fr HFD.out (fun i _ _ hne e => hne e) (fun i _ h5 e => by rw [show i = bl from e, HTB.out] at h5; cases h5) (fun _ _ => rfl)), (by rw [← HH2.out]; exact HJ4.out.fr HFD.out (fun e => by have h3 := HTP.out; rw [show p = bl from e, HTB.out] at h3; cases h3)), HF4.out.trans HFD.out (fun i hi e => ⟨hi, .inl (by rw [show i = bl from e]; exact HTB.out)⟩)⟩
          case measure => rw [HRG5.out.left_eq, HCE.out]; exact Nat.lt_of_le_of_lt HLE5.out HLT.out
        · have hn1 : ¬ ((n' : Int) = 0) := by omega
          go_wp2_with fail
          go_roundw
          case rel => exact ⟨_, cnt2, F1, HRG4, HL4, (by rw [← HH2.out]; exact HJ4), HF4⟩
          case measure => rw [HRG4.out.left_eq, HCE.out]; exact HLT.out
end
end Go.Proofs.Ytioddokjogbmnaa.Chk
