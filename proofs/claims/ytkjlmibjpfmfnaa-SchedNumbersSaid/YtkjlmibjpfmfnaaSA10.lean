/-
  Of the texts ScR2, ScQM, ScGr, ScKp: what the laws reach.
-/
import Derived.Test.YtkjlmibjpfmfnaaSA9
import Derived.BigQuiet
import Derived.Test.YtkjlmibjpfmfnaaSA7
import Derived.Test.YtkjlmibjpfmfnaaSA8

set_option linter.unusedVariables false
set_option linter.unusedSimpArgs false
set_option maxRecDepth 20000
namespace Go.Proofs.Ytkjlmibjpfmfnaa.Sc
open Go.ChangeShapes Go.WideShapes Go.ChangeAt Go.RowKit Go.Deep Go.Maps Go.Proofs.Ytkjlmibjpfmfnaa.Words Go.Proofs.Ytkjlmibjpfmfnaa.Oct Go.Proofs.Ytkjlmibjpfmfnaa.Par Go.Proofs.Ytkjlmibjpfmfnaa.Chk Go.Proofs.Ytkjlmibjpfmfnaa.Mx Go.Proofs.Ytkjlmibjpfmfnaa.Fl
section
variable {e : Ev} {w w' : World} {h : Hp} {b th l own pl : Nat} {bf af : Option Nat} {o : Ob} {r : Rw}
theorem rmS (hv : Hv e w h) (hb : h b = some o) (hr : o.row = some r) (hx : h l = some (.lk true own th pl bf af)) (hbf : ∀ y, bf = some y → y ≠ l ∧ ∃ own th' pl p q, h y = some (.lk true own th' pl p q)) (haf : ∀ y, af = some y → y ≠ l ∧ bf ≠ some y ∧ ∃ own th' pl p q, h y = some (.lk true own th' pl p q)) :
    Calls Try.prog 58 #[.pointer (some ⟨b, o.off, none⟩), qptr l] w fun en w' => en = .returned (.tuple #[]) ∧ Hv e w' (rmH h b bf af) ∧ Fr (fun i => i = b ∨ bf = some i ∨ af = some i) w w' := by
  obtain ⟨k, hk⟩ : ∃ k, k = o.off := ⟨_, rfl⟩
  have HK := Lib.hid hk
  have HR := Lib.hid hr
  have HB := Lib.hid hb
  have HV := Lib.hid hv
  have HX := Lib.hid hx
  have hlb : l ≠ b := fun e2 => by rw [e2, hb] at hx; injection hx with hx; subst hx; cases hr
  have HLB := Lib.hid hlb
  have l2 : w.cell? ⟨l, 2, none⟩ = some (oV bf) := hv.cell hx 2
  have l3 : w.cell? ⟨l, 3, none⟩ = some (oV af) := hv.cell hx 3
  obtain ⟨d0, d1, -⟩ := row_cells e hr
  rw [← hv.cell hb, ← hk] at d0 d1
  have f0 := hv.frz hb k
  have hns : ∀ r'' x, o.setR r'' = .ms x → False := fun r'' x => setR_ms r'' (by rw [hr]; simp)
  have HNS := Lib.hid hns
  rw [← hk]
  clear hk hlb hns
  rcases bf with _ | y <;> rcases af with _ | z
  · simp only [oV] at l2 l3
    clear hbf haf hb hr hx hv
    go_enter Try.func58, Try.ntmps58
    go_upto_region 3 with (fail)
    obtain ⟨W1, hW1⟩ : ∃ W, W = w.setCell ⟨b, k, none⟩ (.pointer none) := ⟨_, rfl⟩
    have H1 : Hid (Hv e W1 (upd h b (o.setR { r with fs := none }))) := by
      rw [hW1]
      have hc := row_fs e HR.out none
      rw [← HK.out] at hc
      exact HV.out.set HB.out (setR_ty _) hc (fun x hx => (HNS.out _ _ hx).elim)
    have F1 : Hid (Fr (fun i => i = b) w W1) := by rw [hW1]; exact fr_set _
    have HX1 : Hid ((upd h b (o.setR { r with fs := none })) l = some (.lk true own th pl none none)) := (upd_ne _ _ HLB.out).trans HX.out
    have HB1 : Hid ((upd h b (o.setR { r with fs := none })) b = some (o.setR { r with fs := none })) := upd_same _ _ _
    have HR1 := Lib.hid (setR_row HR.out { r with fs := none })
    rw [← hW1]
    have l2' : W1.cell? ⟨l, 2, none⟩ = some (.pointer none) := H1.out.cell HX1.out 2
    have l3' : W1.cell? ⟨l, 3, none⟩ = some (.pointer none) := H1.out.cell HX1.out 3
    clear hW1 l2 l3 d0 d1 f0
    obtain ⟨e0, e1, -⟩ := row_cells e HR1.out
    rw [← H1.out.cell HB1.out, setR_off, ← HK.out] at e0 e1
    have g1 := H1.out.frz HB1.out (k + 1)
    go_upto_region 5 with (fail)
    have H2 : Hid (Hv e (W1.setCell ⟨b, k + 1, none⟩ (.pointer none)) (upd (upd h b (o.setR { r with fs := none })) b ((o.setR { r with fs := none }).setR { ({ r with fs := none } : Rw) with ls := none }))) := by
      have hc := row_ls e HR1.out none
      rw [setR_off, ← HK.out] at hc
      exact H1.out.set HB1.out (setR_ty _) hc (fun x hx => (HNS.out _ _ ((setR_setR _ _).symm.trans hx)).elim)
    have F2 : Hid (Fr (fun i => i = b) W1 (W1.setCell ⟨b, k + 1, none⟩ (.pointer none))) := fr_set _
    go_wp2_with fail
    go_end0
    refine ⟨rfl, H2.out.as_ fun x => ?_, ((F1.out.mono (T := fun i => i = b ∨ none = some i ∨ none = some i) fun i _ hx => ?_).same (F2.out.mono fun i _ hx => ?_)).mono fun i _ hx => (by simpa using hx)⟩
    · unfold rmH
      try dsimp only
      unfold Sc.updO
      try dsimp only
      by_cases hx : x = b
      · subst hx
        rw [upd_same, if_pos rfl, if_pos rfl, HB.out]
        simp [HR.out, setR_row HR.out, setR_setR]
      · rw [upd_ne _ _ hx, upd_ne _ _ hx, if_neg hx, if_neg hx]
    · subst hx; exact .inl rfl
    · subst hx; exact .inl rfl
  · simp only [oV] at l2 l3
    obtain ⟨hzl, hyz, own2, th2, pl2, p2, q2, hz⟩ := haf z rfl
    have HZ := Lib.hid hz
    have HZL := Lib.hid hzl
    have HYZ := Lib.hid hyz
    have HZB : Hid (z ≠ b) := fun e2 => by rw [e2, hb] at hz; injection hz with hz; subst hz; cases hr
    clear hz hzl hyz
    clear hbf haf hb hr hx hv
    go_enter Try.func58, Try.ntmps58
    go_upto_region 3 with (fail)
    obtain ⟨W1, hW1⟩ : ∃ W, W = w.setCell ⟨b, k, none⟩ (qptr z) := ⟨_, rfl⟩
    have H1 : Hid (Hv e W1 (upd h b (o.setR { r with fs := (some z) }))) := by
      rw [hW1]
      have hc := row_fs e HR.out (some z)
      rw [← HK.out] at hc
      exact HV.out.set HB.out (setR_ty _) hc (fun x hx => (HNS.out _ _ hx).elim)
    have F1 : Hid (Fr (fun i => i = b) w W1) := by rw [hW1]; exact fr_set _
    have HX1 : Hid ((upd h b (o.setR { r with fs := (some z) })) l = some (.lk true own th pl none (some z))) := (upd_ne _ _ HLB.out).trans HX.out
    have HB1 : Hid ((upd h b (o.setR { r with fs := (some z) })) b = some (o.setR { r with fs := (some z) })) := upd_same _ _ _
    have HR1 := Lib.hid (setR_row HR.out { r with fs := (some z) })
    rw [← hW1]
    have l2' : W1.cell? ⟨l, 2, none⟩ = some (.pointer none) := H1.out.cell HX1.out 2
    have l3' : W1.cell? ⟨l, 3, none⟩ = some (qptr z) := H1.out.cell HX1.out 3
    clear hW1 l2 l3 d0 d1 f0
    have HZ1 : Hid ((upd h b (o.setR { r with fs := (some z) })) z = some (.lk true own2 th2 pl2 p2 q2)) := (upd_ne _ _ HZB.out).trans HZ.out
    have cz : W1.cell? ⟨z, 2, none⟩ = some (oV p2) := H1.out.cell HZ1.out 2
    have fz := H1.out.frz HZ1.out 2
    go_upto_region 5 with (fail)
    go_region
    have H2 : Hid (Hv e ((W1.setCell ⟨z, 2, none⟩ (.pointer none)).drew) (upd (upd h b (o.setR { r with fs := (some z) })) z (.lk true own2 th2 pl2 none q2))) := by
      have hs : Hv e (W1.setCell ⟨z, 2, none⟩ (.pointer none)) (upd (upd h b (o.setR { r with fs := (some z) })) z (.lk true own2 th2 pl2 none q2)) := H1.out.set HZ1.out rfl rfl (fun x hx => by cases hx)
      exact hs.drew
    have F2 : Hid (Fr (fun i => i = z) W1 ((W1.setCell ⟨z, 2, none⟩ (.pointer none)).drew)) := (fr_set _).drew
    go_wp2_with fail
    go_end0
    refine ⟨rfl, H2.out.as_ fun x => ?_, ((F1.out.mono (T := fun i => i = b ∨ none = some i ∨ (some z) = some i) fun i _ hx => ?_).same (F2.out.mono fun i _ hx => ?_)).mono fun i _ hx => (by simpa using hx)⟩
    · unfold rmH
      try dsimp only
      unfold Sc.updO
      try dsimp only
      by_cases hz : x = z
      · subst hz
        rw [upd_same, if_pos rfl, if_neg HZB.out, HZ.out]
        rfl
      · rw [upd_ne _ _ hz, if_neg hz]
        by_cases hx : x = b
        · subst hx
          rw [upd_same, if_pos rfl, HB.out]
          simp [HR.out]
        · rw [upd_ne _ _ hx, if_neg hx]
    · subst hx; exact .inl rfl
    · subst hx; exact .inr (.inr rfl)
  · simp only [oV] at l2 l3
    obtain ⟨hyl, own1, th1, pl1, p1, q1, hy⟩ := hbf y rfl
    have cy : w.cell? ⟨y, 3, none⟩ = some (oV q1) := hv.cell hy 3
    have fy := hv.frz hy 3
    have HYY := Lib.hid hy
    have HYL := Lib.hid hyl
    have HYB : Hid (y ≠ b) := fun e2 => by rw [e2, hb] at hy; injection hy with hy; subst hy; cases hr
    clear hy hyl
    clear hbf haf hb hr hx hv
    go_enter Try.func58, Try.ntmps58
    go_upto_region 2 with (fail)
    go_region
    obtain ⟨W1, hW1⟩ : ∃ W, W = (w.setCell ⟨y, 3, none⟩ (.pointer none)).drew := ⟨_, rfl⟩
    have H1 : Hid (Hv e W1 (upd h y (.lk true own1 th1 pl1 p1 none))) := by
      have hs : Hv e (w.setCell ⟨y, 3, none⟩ (.pointer none)) (upd h y (.lk true own1 th1 pl1 p1 none)) := HV.out.set HYY.out rfl rfl (fun x hx => by cases hx)
      rw [hW1]; exact hs.drew
    have F1 : Hid (Fr (fun i => i = y) w W1) := by rw [hW1]; exact (fr_set _).drew
    have HX1 : Hid ((upd h y (.lk true own1 th1 pl1 p1 none)) l = some (.lk true own th pl (some y) none)) := (upd_ne _ _ HYL.out.symm).trans HX.out
    have HB1 : Hid ((upd h y (.lk true own1 th1 pl1 p1 none)) b = some o) := (upd_ne _ _ HYB.out.symm).trans HB.out
    have HR1 := Lib.hid HR.out
    rw [← hW1]
    have l2' : W1.cell? ⟨l, 2, none⟩ = some (qptr y) := H1.out.cell HX1.out 2
    have l3' : W1.cell? ⟨l, 3, none⟩ = some (.pointer none) := H1.out.cell HX1.out 3
    clear hW1 l2 l3 d0 d1 f0 cy fy
    obtain ⟨e0, e1, -⟩ := row_cells e HR1.out
    rw [← H1.out.cell HB1.out, ← HK.out] at e0 e1
    have g1 := H1.out.frz HB1.out (k + 1)
    go_upto_region 5 with (fail)
    have H2 : Hid (Hv e (W1.setCell ⟨b, k + 1, none⟩ (qptr y)) (upd (upd h y (.lk true own1 th1 pl1 p1 none)) b (o.setR { r with ls := (some y) }))) := by
      have hc := row_ls e HR1.out (some y)
      rw [← HK.out] at hc
      exact H1.out.set HB1.out (setR_ty _) hc (fun x hx => (HNS.out _ _ hx).elim)
    have F2 : Hid (Fr (fun i => i = b) W1 (W1.setCell ⟨b, k + 1, none⟩ (qptr y))) := fr_set _
    go_wp2_with fail
    go_end0
    refine ⟨rfl, H2.out.as_ fun x => ?_, ((F1.out.mono (T := fun i => i = b ∨ (some y) = some i ∨ none = some i) fun i _ hx => ?_).same (F2.out.mono fun i _ hx => ?_)).mono fun i _ hx => (by simpa using hx)⟩
    · unfold rmH
      try dsimp only
      unfold Sc.updO
      try dsimp only
      by_cases hx : x = b
      · subst hx
        rw [upd_same, if_pos rfl, if_neg HYB.out.symm, HB.out]
        simp [HR.out]
      · rw [upd_ne _ _ hx, if_neg hx]
        by_cases hy : x = y
        · subst hy
          rw [upd_same, if_pos rfl, HYY.out]
          rfl
        · rw [upd_ne _ _ hy, if_neg hy]
    · subst hx; exact .inr (.inl rfl)
    · subst hx; exact .inl rfl
  · simp only [oV] at l2 l3
    obtain ⟨hyl, own1, th1, pl1, p1, q1, hy⟩ := hbf y rfl
    have cy : w.cell? ⟨y, 3, none⟩ = some (oV q1) := hv.cell hy 3
    have fy := hv.frz hy 3
    have HYY := Lib.hid hy
    have HYL := Lib.hid hyl
    have HYB : Hid (y ≠ b) := fun e2 => by rw [e2, hb] at hy; injection hy with hy; subst hy; cases hr
    clear hy hyl
    obtain ⟨hzl, hyz, own2, th2, pl2, p2, q2, hz⟩ := haf z rfl
    have HZ := Lib.hid hz
    have HZL := Lib.hid hzl
    have HYZ := Lib.hid hyz
    have HZB : Hid (z ≠ b) := fun e2 => by rw [e2, hb] at hz; injection hz with hz; subst hz; cases hr
    clear hz hzl hyz
    clear hbf haf hb hr hx hv
    go_enter Try.func58, Try.ntmps58
    go_upto_region 2 with (fail)
    go_region
    obtain ⟨W1, hW1⟩ : ∃ W, W = (w.setCell ⟨y, 3, none⟩ (qptr z)).drew := ⟨_, rfl⟩
    have H1 : Hid (Hv e W1 (upd h y (.lk true own1 th1 pl1 p1 (some z)))) := by
      have hs : Hv e (w.setCell ⟨y, 3, none⟩ (qptr z)) (upd h y (.lk true own1 th1 pl1 p1 (some z))) := HV.out.set HYY.out rfl rfl (fun x hx => by cases hx)
      rw [hW1]; exact hs.drew
    have F1 : Hid (Fr (fun i => i = y) w W1) := by rw [hW1]; exact (fr_set _).drew
    have HX1 : Hid ((upd h y (.lk true own1 th1 pl1 p1 (some z))) l = some (.lk true own th pl (some y) (some z))) := (upd_ne _ _ HYL.out.symm).trans HX.out
    have HB1 : Hid ((upd h y (.lk true own1 th1 pl1 p1 (some z))) b = some o) := (upd_ne _ _ HYB.out.symm).trans HB.out
    have HR1 := Lib.hid HR.out
    rw [← hW1]
    have l2' : W1.cell? ⟨l, 2, none⟩ = some (qptr y) := H1.out.cell HX1.out 2
    have l3' : W1.cell? ⟨l, 3, none⟩ = some (qptr z) := H1.out.cell HX1.out 3
    clear hW1 l2 l3 d0 d1 f0 cy fy
    have HZ1 : Hid ((upd h y (.lk true own1 th1 pl1 p1 (some z))) z = some (.lk true own2 th2 pl2 p2 q2)) := (upd_ne _ _ (fun e2 => HYZ.out (by rw [e2]))).trans HZ.out
    have cz : W1.cell? ⟨z, 2, none⟩ = some (oV p2) := H1.out.cell HZ1.out 2
    have fz := H1.out.frz HZ1.out 2
    go_upto_region 5 with (fail)
    go_region
    have H2 : Hid (Hv e ((W1.setCell ⟨z, 2, none⟩ (qptr y)).drew) (upd (upd h y (.lk true own1 th1 pl1 p1 (some z))) z (.lk true own2 th2 pl2 (some y) q2))) := by
      have hs : Hv e (W1.setCell ⟨z, 2, none⟩ (qptr y)) (upd (upd h y (.lk true own1 th1 pl1 p1 (some z))) z (.lk true own2 th2 pl2 (some y) q2)) := H1.out.set HZ1.out rfl rfl (fun x hx => by cases hx)
      exact hs.drew
    have F2 : Hid (Fr (fun i => i = z) W1 ((W1.setCell ⟨z, 2, none⟩ (qptr y)).drew)) := (fr_set _).drew
    go_wp2_with fail
    go_end0
    refine ⟨rfl, H2.out.as_ fun x => ?_, ((F1.out.mono (T := fun i => i = b ∨ (some y) = some i ∨ (some z) = some i) fun i _ hx => ?_).same (F2.out.mono fun i _ hx => ?_)).mono fun i _ hx => (by simpa using hx)⟩
    · unfold rmH
      try dsimp only
      unfold Sc.updO
      try dsimp only
      by_cases hz : x = z
      · subst hz
        rw [upd_same, if_pos rfl, if_neg (fun e2 => HYZ.out (by rw [e2])), HZ.out]
        rfl
      · rw [upd_ne _ _ hz, if_neg hz]
        by_cases hy : x = y
        · subst hy
          rw [upd_same, if_pos rfl, HYY.out]
          rfl
        · rw [upd_ne _ _ hy, if_neg hy]
    · subst hx; exact .inr (.inl rfl)
    · subst hx; exact .inr (.inr rfl)
theorem rmM (hv : Hv e w h) (hb : h b = some o) (hr : o.row = some r) (hx : h l = some (.lk false own th pl bf af)) (hbf : ∀ y, bf = some y → y ≠ l ∧ ∃ own th' pl p q, h y = some (.lk false own th' pl p q)) (haf : ∀ y, af = some y → y ≠ l ∧ bf ≠ some y ∧ ∃ own th' pl p q, h y = some (.lk false own th' pl p q)) :
    Calls Try.prog 56 #[.pointer (some ⟨b, o.off, none⟩), qptr l] w fun en w' => en = .returned (.tuple #[]) ∧ Hv e w' (rmH h b bf af) ∧ Fr (fun i => i = b ∨ bf = some i ∨ af = some i) w w' := by
  obtain ⟨k, hk⟩ : ∃ k, k = o.off := ⟨_, rfl⟩
  have HK := Lib.hid hk
  have HR := Lib.hid hr
  have HB := Lib.hid hb
  have HV := Lib.hid hv
  have HX := Lib.hid hx
  have hlb : l ≠ b := fun e2 => by rw [e2, hb] at hx; injection hx with hx; subst hx; cases hr
  have HLB := Lib.hid hlb
  have l2 : w.cell? ⟨l, 2, none⟩ = some (oV bf) := hv.cell hx 2
  have l3 : w.cell? ⟨l, 3, none⟩ = some (oV af) := hv.cell hx 3
  obtain ⟨d0, d1, -⟩ := row_cells e hr
  rw [← hv.cell hb, ← hk] at d0 d1
  have f0 := hv.frz hb k
  have hns : ∀ r'' x, o.setR r'' = .ms x → False := fun r'' x => setR_ms r'' (by rw [hr]; simp)
  have HNS := Lib.hid hns
  rw [← hk]
  clear hk hlb hns
  rcases bf with _ | y <;> rcases af with _ | z
  · simp only [oV] at l2 l3
    clear hbf haf hb hr hx hv
    go_enter Try.func56, Try.ntmps56
    go_upto_region 3 with (fail)
    obtain ⟨W1, hW1⟩ : ∃ W, W = w.setCell ⟨b, k, none⟩ (.pointer none) := ⟨_, rfl⟩
    have H1 : Hid (Hv e W1 (upd h b (o.setR { r with fs := none }))) := by
      rw [hW1]
      have hc := row_fs e HR.out none
      rw [← HK.out] at hc
      exact HV.out.set HB.out (setR_ty _) hc (fun x hx => (HNS.out _ _ hx).elim)
    have F1 : Hid (Fr (fun i => i = b) w W1) := by rw [hW1]; exact fr_set _
    have HX1 : Hid ((upd h b (o.setR { r with fs := none })) l = some (.lk false own th pl none none)) := (upd_ne _ _ HLB.out).trans HX.out
    have HB1 : Hid ((upd h b (o.setR { r with fs := none })) b = some (o.setR { r with fs := none })) := upd_same _ _ _
    have HR1 := Lib.hid (setR_row HR.out { r with fs := none })
    rw [← hW1]
    have l2' : W1.cell? ⟨l, 2, none⟩ = some (.pointer none) := H1.out.cell HX1.out 2
    have l3' : W1.cell? ⟨l, 3, none⟩ = some (.pointer none) := H1.out.cell HX1.out 3
    clear hW1 l2 l3 d0 d1 f0
    obtain ⟨e0, e1, -⟩ := row_cells e HR1.out
    rw [← H1.out.cell HB1.out, setR_off, ← HK.out] at e0 e1
    have g1 := H1.out.frz HB1.out (k + 1)
    go_upto_region 5 with (fail)
    have H2 : Hid (Hv e (W1.setCell ⟨b, k + 1, none⟩ (.pointer none)) (upd (upd h b (o.setR { r with fs := none })) b ((o.setR { r with fs := none }).setR { ({ r with fs := none } : Rw) with ls := none }))) := by
      have hc := row_ls e HR1.out none
      rw [setR_off, ← HK.out] at hc
      exact H1.out.set HB1.out (setR_ty _) hc (fun x hx => (HNS.out _ _ ((setR_setR _ _).symm.trans hx)).elim)
    have F2 : Hid (Fr (fun i => i = b) W1 (W1.setCell ⟨b, k + 1, none⟩ (.pointer none))) := fr_set _
    go_wp2_with fail
    go_end0
    refine ⟨rfl, H2.out.as_ fun x => ?_, ((F1.out.mono (T := fun i => i = b ∨ none = some i ∨ none = some i) fun i _ hx => ?_).same (F2.out.mono fun i _ hx => ?_)).mono fun i _ hx => (by simpa using hx)⟩
    · unfold rmH
      try dsimp only
      unfold Sc.updO
      try dsimp only
      by_cases hx : x = b
      · subst hx
        rw [upd_same, if_pos rfl, if_pos rfl, HB.out]
        simp [HR.out, setR_row HR.out, setR_setR]
      · rw [upd_ne _ _ hx, upd_ne _ _ hx, if_neg hx, if_neg hx]
    · subst hx; exact .inl rfl
    · subst hx; exact .inl rfl
  · simp only [oV] at l2 l3
    obtain ⟨hzl, hyz, own2, th2, pl2, p2, q2, hz⟩ := haf z rfl
    have HZ := Lib.hid hz
    have HZL := Lib.hid hzl
    have HYZ := Lib.hid hyz
    have HZB : Hid (z ≠ b) := fun e2 => by rw [e2, hb] at hz; injection hz with hz; subst hz; cases hr
    clear hz hzl hyz
    clear hbf haf hb hr hx hv
    go_enter Try.func56, Try.ntmps56
    go_upto_region 3 with (fail)
    obtain ⟨W1, hW1⟩ : ∃ W, W = w.setCell ⟨b, k, none⟩ (qptr z) := ⟨_, rfl⟩
    have H1 : Hid (Hv e W1 (upd h b (o.setR { r with fs := (some z) }))) := by
      rw [hW1]
      have hc := row_fs e HR.out (some z)
      rw [← HK.out] at hc
      exact HV.out.set HB.out (setR_ty _) hc (fun x hx => (HNS.out _ _ hx).elim)
    have F1 : Hid (Fr (fun i => i = b) w W1) := by rw [hW1]; exact fr_set _
    have HX1 : Hid ((upd h b (o.setR { r with fs := (some z) })) l = some (.lk false own th pl none (some z))) := (upd_ne _ _ HLB.out).trans HX.out
    have HB1 : Hid ((upd h b (o.setR { r with fs := (some z) })) b = some (o.setR { r with fs := (some z) })) := upd_same _ _ _
    have HR1 := Lib.hid (setR_row HR.out { r with fs := (some z) })
    rw [← hW1]
    have l2' : W1.cell? ⟨l, 2, none⟩ = some (.pointer none) := H1.out.cell HX1.out 2
    have l3' : W1.cell? ⟨l, 3, none⟩ = some (qptr z) := H1.out.cell HX1.out 3
    clear hW1 l2 l3 d0 d1 f0
    have HZ1 : Hid ((upd h b (o.setR { r with fs := (some z) })) z = some (.lk false own2 th2 pl2 p2 q2)) := (upd_ne _ _ HZB.out).trans HZ.out
    have cz : W1.cell? ⟨z, 2, none⟩ = some (oV p2) := H1.out.cell HZ1.out 2
    have fz := H1.out.frz HZ1.out 2
    go_upto_region 5 with (fail)
    go_region
    have H2 : Hid (Hv e ((W1.setCell ⟨z, 2, none⟩ (.pointer none)).drew) (upd (upd h b (o.setR { r with fs := (some z) })) z (.lk false own2 th2 pl2 none q2))) := by
      have hs : Hv e (W1.setCell ⟨z, 2, none⟩ (.pointer none)) (upd (upd h b (o.setR { r with fs := (some z) })) z (.lk false own2 th2 pl2 none q2)) := H1.out.set HZ1.out rfl rfl (fun x hx => by cases hx)
      exact hs.drew
    have F2 : Hid (Fr (fun i => i = z) W1 ((W1.setCell ⟨z, 2, none⟩ (.pointer none)).drew)) := (fr_set _).drew
    go_wp2_with fail
    go_end0
    refine ⟨rfl, H2.out.as_ fun x => ?_, ((F1.out.mono (T := fun i => i = b ∨ none = some i ∨ (some z) = some i) fun i _ hx => ?_).same (F2.out.mono fun i _ hx => ?_)).mono fun i _ hx => (by simpa using hx)⟩
    · unfold rmH
      try dsimp only
      unfold Sc.updO
      try dsimp only
      by_cases hz : x = z
      · subst hz
        rw [upd_same, if_pos rfl, if_neg HZB.out, HZ.out]
        rfl
      · rw [upd_ne _ _ hz, if_neg hz]
        by_cases hx : x = b
        · subst hx
          rw [upd_same, if_pos rfl, HB.out]
          simp [HR.out]
        · rw [upd_ne _ _ hx, if_neg hx]
    · subst hx; exact .inl rfl
    · subst hx; exact .inr (.inr rfl)
  · simp only [oV] at l2 l3
    obtain ⟨hyl, own1, th1, pl1, p1, q1, hy⟩ := hbf y rfl
    have cy : w.cell? ⟨y, 3, none⟩ = some (oV q1) := hv.cell hy 3
    have fy := hv.frz hy 3
    have HYY := Lib.hid hy
    have HYL := Lib.hid hyl
    have HYB : Hid (y ≠ b) := fun e2 => by rw [e2, hb] at hy; injection hy with hy; subst hy; cases hr
    clear hy hyl
    clear hbf haf hb hr hx hv
    go_enter Try.func56, Try.ntmps56
    go_upto_region 2 with (fail)
    go_region
    obtain ⟨W1, hW1⟩ : ∃ W, W = (w.setCell ⟨y, 3, none⟩ (.pointer none)).drew := ⟨_, rfl⟩
    have H1 : Hid (Hv e W1 (upd h y (.lk false own1 th1 pl1 p1 none))) := by
      have hs : Hv e (w.setCell ⟨y, 3, none⟩ (.pointer none)) (upd h y (.lk false own1 th1 pl1 p1 none)) := HV.out.set HYY.out rfl rfl (fun x hx => by cases hx)
      rw [hW1]; exact hs.drew
    have F1 : Hid (Fr (fun i => i = y) w W1) := by rw [hW1]; exact (fr_set _).drew
    have HX1 : Hid ((upd h y (.lk false own1 th1 pl1 p1 none)) l = some (.lk false own th pl (some y) none)) := (upd_ne _ _ HYL.out.symm).trans HX.out
    have HB1 : Hid ((upd h y (.lk false own1 th1 pl1 p1 none)) b = some o) := (upd_ne _ _ HYB.out.symm).trans HB.out
    have HR1 := Lib.hid HR.out
    rw [← hW1]
    have l2' : W1.cell? ⟨l, 2, none⟩ = some (qptr y) := H1.out.cell HX1.out 2
    have l3' : W1.cell? ⟨l, 3, none⟩ = some (.pointer none) := H1.out.cell HX1.out 3
    clear hW1 l2 l3 d0 d1 f0 cy fy
    obtain ⟨e0, e1, -⟩ := row_cells e HR1.out
    rw [← H1.out.cell HB1.out, ← HK.out] at e0 e1
    have g1 := H1.out.frz HB1.out (k + 1)
    go_upto_region 5 with (fail)
    have H2 : Hid (Hv e (W1.setCell ⟨b, k + 1, none⟩ (qptr y)) (upd (upd h y (.lk false own1 th1 pl1 p1 none)) b (o.setR { r with ls := (some y) }))) := by
      have hc := row_ls e HR1.out (some y)
      rw [← HK.out] at hc
      exact H1.out.set HB1.out (setR_ty _) hc (fun x hx => (HNS.out _ _ hx).elim)
    have F2 : Hid (Fr (fun i => i = b) W1 (W1.setCell ⟨b, k + 1, none⟩ (qptr y))) := fr_set _
    go_wp2_with fail
    go_end0
    refine ⟨rfl, H2.out.as_ fun x => ?_, ((F1.out.mono (T := fun i => i = b ∨ (some y) = some i ∨ none = some i) fun i _ hx => ?_).same (F2.out.mono fun i _ hx => ?_)).mono fun i _ hx => (by simpa using hx)⟩
    · unfold rmH
      try dsimp only
      unfold Sc.updO
      try dsimp only
      by_cases hx : x = b
      · subst hx
        rw [upd_same, if_pos rfl, if_neg HYB.out.symm, HB.out]
        simp [HR.out]
      · rw [upd_ne _ _ hx, if_neg hx]
        by_cases hy : x = y
        · subst hy
          rw [upd_same, if_pos rfl, HYY.out]
          rfl
        · rw [upd_ne _ _ hy, if_neg hy]
    · subst hx; exact .inr (.inl rfl)
    · subst hx; exact .inl rfl
  · simp only [oV] at l2 l3
    obtain ⟨hyl, own1, th1, pl1, p1, q1, hy⟩ := hbf y rfl
    have cy : w.cell? ⟨y, 3, none⟩ = some (oV q1) := hv.cell hy 3
    have fy := hv.frz hy 3
    have HYY := Lib.hid hy
    have HYL := Lib.hid hyl
    have HYB : Hid (y ≠ b) := fun e2 => by rw [e2, hb] at hy; injection hy with hy; subst hy; cases hr
    clear hy hyl
    obtain ⟨hzl, hyz, own2, th2, pl2, p2, q2, hz⟩ := haf z rfl
    have HZ := Lib.hid hz
    have HZL := Lib.hid hzl
    have HYZ := Lib.hid hyz
    have HZB : Hid (z ≠ b) := fun e2 => by rw [e2, hb] at hz; injection hz with hz; subst hz; cases hr
    clear hz hzl hyz
    clear hbf haf hb hr hx hv
    go_enter Try.func56, Try.ntmps56
    go_upto_region 2 with (fail)
    go_region
    obtain ⟨W1, hW1⟩ : ∃ W, W = (w.setCell ⟨y, 3, none⟩ (qptr z)).drew := ⟨_, rfl⟩
    have H1 : Hid (Hv e W1 (upd h y (.lk false own1 th1 pl1 p1 (some z)))) := by
      have hs : Hv e (w.setCell ⟨y, 3, none⟩ (qptr z)) (upd h y (.lk false own1 th1 pl1 p1 (some z))) := HV.out.set HYY.out rfl rfl (fun x hx => by cases hx)
      rw [hW1]; exact hs.drew
    have F1 : Hid (Fr (fun i => i = y) w W1) := by rw [hW1]; exact (fr_set _).drew
    have HX1 : Hid ((upd h y (.lk false own1 th1 pl1 p1 (some z))) l = some (.lk false own th pl (some y) (some z))) := (upd_ne _ _ HYL.out.symm).trans HX.out
    have HB1 : Hid ((upd h y (.lk false own1 th1 pl1 p1 (some z))) b = some o) := (upd_ne _ _ HYB.out.symm).trans HB.out
    have HR1 := Lib.hid HR.out
    rw [← hW1]
    have l2' : W1.cell? ⟨l, 2, none⟩ = some (qptr y) := H1.out.cell HX1.out 2
    have l3' : W1.cell? ⟨l, 3, none⟩ = some (qptr z) := H1.out.cell HX1.out 3
    clear hW1 l2 l3 d0 d1 f0 cy fy
    have HZ1 : Hid ((upd h y (.lk false own1 th1 pl1 p1 (some z))) z = some (.lk false own2 th2 pl2 p2 q2)) := (upd_ne _ _ (fun e2 => HYZ.out (by rw [e2]))).trans HZ.out
    have cz : W1.cell? ⟨z, 2, none⟩ = some (oV p2) := H1.out.cell HZ1.out 2
    have fz := H1.out.frz HZ1.out 2
    go_upto_region 5 with (fail)
    go_region
    have H2 : Hid (Hv e ((W1.setCell ⟨z, 2, none⟩ (qptr y)).drew) (upd (upd h y (.lk false own1 th1 pl1 p1 (some z))) z (.lk false own2 th2 pl2 (some y) q2))) := by
      have hs : Hv e (W1.setCell ⟨z, 2, none⟩ (qptr y)) (upd (upd h y (.lk false own1 th1 pl1 p1 (some z))) z (.lk false own2 th2 pl2 (some y) q2)) := H1.out.set HZ1.out rfl rfl (fun x hx => by cases hx)
      exact hs.drew
    have F2 : Hid (Fr (fun i => i = z) W1 ((W1.setCell ⟨z, 2, none⟩ (qptr y)).drew)) := (fr_set _).drew
    go_wp2_with fail
    go_end0
    refine ⟨rfl, H2.out.as_ fun x => ?_, ((F1.out.mono (T := fun i => i = b ∨ (some y) = some i ∨ (some z) = some i) fun i _ hx => ?_).same (F2.out.mono fun i _ hx => ?_)).mono fun i _ hx => (by simpa using hx)⟩
    · unfold rmH
      try dsimp only
      unfold Sc.updO
      try dsimp only
      by_cases hz : x = z
      · subst hz
        rw [upd_same, if_pos rfl, if_neg (fun e2 => HYZ.out (by rw [e2])), HZ.out]
        rfl
      · rw [upd_ne _ _ hz, if_neg hz]
        by_cases hy : x = y
        · subst hy
          rw [upd_same, if_pos rfl, HYY.out]
          rfl
        · rw [upd_ne _ _ hy, if_neg hy]
    · subst hx; exact .inr (.inl rfl)
    · subst hx; exact .inr (.inr rfl)
end
end Go.Proofs.Ytkjlmibjpfmfnaa.Sc

set_option linter.unusedVariables false
set_option linter.unusedSimpArgs false
set_option maxRecDepth 20000
namespace Go.Proofs.Ytkjlmibjpfmfnaa.Sc
open Go.ChangeShapes Go.WideShapes Go.ChangeAt Go.RowKit Go.Deep Go.Maps Go.Proofs.Ytkjlmibjpfmfnaa.Words Go.Proofs.Ytkjlmibjpfmfnaa.Oct Go.Proofs.Ytkjlmibjpfmfnaa.Par Go.Proofs.Ytkjlmibjpfmfnaa.Chk Go.Proofs.Ytkjlmibjpfmfnaa.Mx Go.Proofs.Ytkjlmibjpfmfnaa.Fl
def smF (gh : Gh) : Nat → Option Value := fun st => (gh.sm st).map qptr
def nmF (gh : Gh) : Int → Option Value := fun id => (gh.N id).map fun n => qptr n.rb
def mmF (mm : Ln → Option Nat) : Ln → Option Value := fun k => (mm k).map fun x => .int .u32 (x : Int)
/-- The queue in memory. -/
structure QM (e : Ev) (w : World) (h : Hp) (p : Nat) (gh : Gh) (mm : Ln → Option Nat) : Prop where
  hv : Hv e w h
  rep : RepH h p gh
  g : RepG gh
  sm : MapX u16X w e.sm (smF gh)
  nm : MapZ Try.prog 3 w e.nm (nmF gh)
  mm : MapX lnX w e.mm (mmF mm)
  ne : e.sm ≠ e.nm ∧ e.sm ≠ e.mm ∧ e.nm ≠ e.mm
/-- Its blocks. -/
def QG (e : Ev) (h : Hp) (i : Nat) : Prop := HG h i ∨ i = e.sm ∨ i = e.nm ∨ i = e.mm
section
variable {e : Ev} {w w' : World} {h h' : Hp} {p b i : Nat} {gh : Gh} {mm : Ln → Option Nat} {S : Nat → Prop} {o : Ob} {r : Rw}
theorem QM.hg_kd (k : QM e w h p gh mm) (hi : HG h i) : kd w i ≠ some 0 := fun h0 => by
  rcases hi with hi | ⟨b, x, hb, ad, hA, rfl⟩
  · cases hh : h i with
    | none => exact hi hh
    | some o => rw [k.hv.kd hh] at h0; injection h0 with h0; cases h0
  · rw [(k.hv.bod b x hb).kd ad hA] at h0
    injection h0 with h0
    cases h0
theorem QM.map_no (k : QM e w h p gh mm) : ¬ HG h e.sm ∧ ¬ HG h e.nm ∧ ¬ HG h e.mm := ⟨fun h => k.hg_kd h (kd_mapx k.sm), fun h => k.hg_kd h (kd_mapz k.nm), fun h => k.hg_kd h (kd_mapx k.mm)⟩
theorem QM.lt (k : QM e w h p gh mm) (hi : QG e h i) : i < w.heap.size := by
  rcases hi with hi | rfl | rfl | rfl
  · exact k.hv.gLt hi
  · exact k.sm.lt
  · exact k.nm.lt
  · exact k.mm.lt
theorem QM.fr (k : QM e w h p gh mm) (hf : Fr S w w') (hS : ∀ i, S i → i < w.heap.size → ¬ QG e h i) : QM e w' h p gh mm :=
  ⟨k.hv.fr hf fun i h1 h2 h3 => hS i h1 h2 (.inl h3), k.rep, k.g, k.sm.fr hf fun h1 => hS _ h1 k.sm.lt (.inr (.inl rfl)), k.nm.fr hf fun h1 => hS _ h1 k.nm.lt (.inr (.inr (.inl rfl))), k.mm.fr hf fun h1 => hS _ h1 k.mm.lt (.inr (.inr (.inr rfl))), k.ne⟩
theorem QM.drewN (k : QM e w h p gh mm) (n : Nat) : QM e (w.drewN n) h p gh mm := k.fr ((Fr.refl (fun _ => False) w).drewN n) fun _ h _ => h.elim
theorem QM.drew (k : QM e w h p gh mm) : QM e w.drew h p gh mm := k.fr ((Fr.refl (fun _ => False) w).drew) fun _ h _ => h.elim
theorem QM.grows (k : QM e w h p gh mm) (hb : Below w.heap.size w w') : QM e w' h p gh mm := k.fr (Fr.of_below hb) fun i h1 h2 _ => by omega
/-- The heap's blocks have turned, its maps not. -/
theorem QM.maps (k : QM e w h p gh mm) (hf : Fr S w w') (hS : ∀ i, S i → i < w.heap.size → HG h i) : MapX u16X w' e.sm (smF gh) ∧ MapZ Try.prog 3 w' e.nm (nmF gh) ∧ MapX lnX w' e.mm (mmF mm) :=
  ⟨k.sm.fr hf fun h1 => k.map_no.1 (hS _ h1 k.sm.lt), k.nm.fr hf fun h1 => k.map_no.2.1 (hS _ h1 k.nm.lt), k.mm.fr hf fun h1 => k.map_no.2.2 (hS _ h1 k.mm.lt)⟩
/-- Bytes are counted. -/
theorem count_s {bs bq sb bs' bq' : Nat} {rq rs : Rw} {t : Option Nat} {by_ : Int} (hv : Hv e w h) (hq : h p = some (.q bq rq)) (hs : h sb = some (.st bs rs t)) (e1 : (bs : Int) + by_ = (bs' : Int)) (e2 : (bq : Int) + by_ = (bq' : Int)) (h1 : bs' ≤ 1000000) (h2 : bq' ≤ 1000000) (h3 : bs ≤ 1000000) :
    Calls Try.prog 32 #[qptr p, qptr sb, .int .i64 by_] w fun en w' => en = .returned (.tuple #[]) ∧ Hv e w' (cntH h p sb bs' bq') ∧ Fr (fun i => i = p ∨ i = sb) w w' := by
  have hne : sb ≠ p := fun e2 => by rw [e2, hq] at hs; cases hs
  have cs : w.cell? ⟨sb, 0, none⟩ = some (.int .i64 (bs : Int)) := hv.cell hs 0
  have fs := hv.frz hs 0
  have H1 : Hid (Hv e (w.setCell ⟨sb, 0, none⟩ (.int .i64 (bs' : Int))) (upd h sb (.st bs' rs t))) := hv.set hs rfl rfl (fun x hx => by cases hx)
  have hq1 : upd h sb (.st bs' rs t) p = some (.q bq rq) := (upd_ne _ _ hne.symm).trans hq
  obtain ⟨W1, hW1⟩ : ∃ W, W = w.setCell ⟨sb, 0, none⟩ (.int .i64 (bs' : Int)) := ⟨_, rfl⟩
  rw [← hW1] at H1
  have F1 : Hid (Fr (fun i => i = p ∨ i = sb) w W1) := by rw [hW1]; exact (Fr.refl _ w).setCell (.inl (.inr rfl)) _
  have cq : W1.cell? ⟨p, 1, none⟩ = some (.int .i64 (bq : Int)) := H1.out.cell hq1 1
  have fq := H1.out.frz hq1 1
  have HQ1 := Lib.hid hq1
  have HQ := Lib.hid hq
  have HS := Lib.hid hs
  have HNE := Lib.hid hne
  clear hv hq hs hne hq1
  have hby : -1000000 ≤ by_ ∧ by_ ≤ 1000000 := by omega
  go_enter Try.func32, Try.ntmps32
  go_upto_region 1 with (fail)
  try rw [e1]
  rw [← hW1]
  clear hW1
  go_wp2_with fail
  go_end0
  try rw [e2]
  refine ⟨rfl, ?_, F1.out.setCell (.inl (.inl rfl)) _⟩
  have h9 : Hv e (W1.setCell ⟨p, 1, none⟩ (.int .i64 (bq' : Int))) (upd (upd h sb (.st bs' rs t)) p (.q bq' rq)) := H1.out.set HQ1.out rfl rfl (fun x hx => by cases hx)
  refine h9.as_ fun x => ?_
  unfold upd cntH
  by_cases hx : x = p
  · subst hx; rw [if_pos rfl, if_pos rfl, HQ.out]; rfl
  · rw [if_neg hx, if_neg hx]
    by_cases hy : x = sb
    · subst hy; rw [if_pos rfl, if_pos rfl, HS.out]; rfl
    · rw [if_neg hy, if_neg hy]
end
end Go.Proofs.Ytkjlmibjpfmfnaa.Sc

set_option linter.unusedVariables false
set_option linter.unusedSimpArgs false
namespace Go.Proofs.Ytkjlmibjpfmfnaa.Sc
open Go.Proofs.Ytkjlmibjpfmfnaa.Words Go.Proofs.Ytkjlmibjpfmfnaa.Chk
section
variable {h h' h2 : Hp} {B B' b rb : Nat} {o : Ob} {e : Ev}
/-- Every block of the new heap is one of the old, or younger. -/
structure Grow (h h' : Hp) (B : Nat) : Prop where
  dom : ∀ b, h' b ≠ none → h b ≠ none ∨ B ≤ b
  bod : ∀ b x ad, h' b = some (.ms x) → x.A = some ad → HG h ad.block ∨ B ≤ ad.block
theorem Grow.of (h0 : ∀ b, h' b ≠ none → h b ≠ none ∨ B ≤ b) (h1 : ∀ b x, h' b = some (.ms x) → ∃ x0, h b = some (.ms x0) ∧ x.A = x0.A) : Grow h h' B :=
  ⟨h0, fun b x ad e1 e2 => by
    obtain ⟨x0, e3, e4⟩ := h1 b x e1
    exact .inl (.inr ⟨b, x0, e3, ad, by rw [← e4]; exact e2, rfl⟩)⟩
theorem Grow.refl (h : Hp) (B : Nat) : Grow h h B := .of (fun b h => .inl h) fun b x h => ⟨x, h, rfl⟩
theorem Grow.hg (k : Grow h h' B) {i : Nat} (hi : HG h' i) : HG h i ∨ B ≤ i := by
  rcases hi with hi | ⟨b, x, e1, ad, e2, rfl⟩
  · exact (k.dom i hi).imp .inl id
  · exact k.bod b x ad e1 e2
theorem Grow.trans (k : Grow h h' B) (k2 : Grow h' h2 B') (hB : B ≤ B') : Grow h h2 B :=
  ⟨fun b hb => by
    rcases k2.dom b hb with h1 | h1
    · exact k.dom b h1
    · exact .inr (Nat.le_trans hB h1), fun b x ad e1 e2 => by
    rcases k2.bod b x ad e1 e2 with h1 | h1
    · exact k.hg h1
    · exact .inr (Nat.le_trans hB h1)⟩
theorem Grow.qg (k : Grow h h' B) {i : Nat} (hi : QG e h' i) : QG e h i ∨ B ≤ i := by
  rcases hi with hi | hi
  · exact (k.hg hi).imp .inl id
  · exact .inl (.inr hi)
theorem Grow.map {f : Nat → Option Ob → Option Ob} (e : ∀ b, h' b = f b (h b)) (h0 : ∀ b, f b none = none) (h1 : ∀ b o x, f b (some o) = some (.ms x) → ∃ x0, o = .ms x0 ∧ x.A = x0.A) : Grow h h' B := by
  refine .of (fun b hb => .inl fun e0 => hb (by rw [e, e0, h0])) fun b x hx => ?_
  rw [e] at hx
  cases hh : h b with
  | none => rw [hh, h0] at hx; cases hx
  | some o =>
    rw [hh] at hx
    obtain ⟨x0, e1, e2⟩ := h1 b o x hx
    exact ⟨x0, by rw [e1], e2⟩
theorem Grow.cnt (h : Hp) (p sb bs bq B : Nat) : Grow h (cntH h p sb bs bq) B := by
  refine .map (f := fun y oo => if y = p then oo.map fun o => match o with | .q _ r => .q bq r | o => o else if y = sb then oo.map fun o => match o with | .st _ r t => .st bs r t | o => o else oo) (fun b => rfl) (fun b => by split <;> first | rfl | (split <;> rfl)) fun b o x hx => ?_
  try dsimp only at hx
  split at hx
  · cases o <;> simp at hx
    exact ⟨_, by rw [hx], rfl⟩
  · split at hx
    · cases o <;> simp at hx
      exact ⟨_, by rw [hx], rfl⟩
    · injection hx with hx
      exact ⟨x, hx, rfl⟩
theorem Grow.updO (b : Nat) (oo : Option Ob) (h1 : oo ≠ none → h b ≠ none) (h2 : ∀ x, oo = some (.ms x) → ∃ x0, h b = some (.ms x0) ∧ x.A = x0.A) : Grow h (updO h b oo) B := by
  refine .of (fun y hy => ?_) fun y x hx => ?_
  · by_cases e : y = b
    · subst e; rw [updO_same] at hy; exact .inl (h1 hy)
    · rw [updO_ne _ _ e] at hy; exact .inl hy
  · by_cases e : y = b
    · subst e; rw [updO_same] at hx; exact h2 x hx
    · rw [updO_ne _ _ e] at hx; exact ⟨x, hx, rfl⟩
theorem Grow.upd (b : Nat) (o : Ob) (h1 : h b ≠ none ∨ B ≤ b) (h2 : ∀ x, o = .ms x → ∃ x0, h b = some (.ms x0) ∧ x.A = x0.A) : Grow h (upd h b o) B := by
  refine ⟨fun y hy => ?_, fun y x ad hx ha => ?_⟩
  · by_cases e : y = b
    · subst e; exact h1
    · rw [upd_ne _ _ e] at hy; exact .inl hy
  · by_cases e : y = b
    · subst e
      rw [upd_same] at hx
      injection hx with hx
      obtain ⟨x0, e1, e2⟩ := h2 x hx
      exact .inl (.inr ⟨_, x0, e1, ad, by rw [← e2]; exact ha, rfl⟩)
    · rw [upd_ne _ _ e] at hx
      exact .inl (.inr ⟨_, x, hx, ad, ha, rfl⟩)
theorem map_row_ms {oo : Option Ob} {f : Rw → Rw} {x : Me} (hx : (oo.map fun o => match o.row with | some r => o.setR (f r) | none => o) = some (.ms x)) : oo = some (.ms x) := by
  cases oo with
  | none => cases hx
  | some o => cases o <;> simp [Ob.row, Ob.setR] at hx ⊢; exact hx
theorem setAf_ms {oo : Option Ob} {v : Option Nat} {x : Me} (hx : setAf oo v = some (.ms x)) : oo = some (.ms x) := by
  cases oo with
  | none => cases hx
  | some o => cases o <;> simp [setAf] at hx ⊢; exact hx
theorem setBf_ms {oo : Option Ob} {v : Option Nat} {x : Me} (hx : setBf oo v = some (.ms x)) : oo = some (.ms x) := by
  cases oo with
  | none => cases hx
  | some o => cases o <;> simp [setBf] at hx ⊢; exact hx
theorem map_ne {α β : Type} {oo : Option α} {f : α → β} (h : oo.map f ≠ none) : oo ≠ none := fun e => h (by rw [e]; rfl)
theorem Grow.rm (h : Hp) (rb : Nat) (bf af : Option Nat) (B : Nat) : Grow h (rmH h rb bf af) B := by
  have h1 : ∀ h : Hp, Grow h (match bf with
    | none => Sc.updO h rb ((h rb).map fun o => match o.row with | some r => o.setR { r with fs := af } | none => o)
    | some b => Sc.updO h b (setAf (h b) af)) B := fun h => by
    cases bf with
    | none => exact .updO _ _ map_ne fun x hx => ⟨x, map_row_ms (f := fun r => { r with fs := af }) hx, rfl⟩
    | some b => exact .updO _ _ map_ne fun x hx => ⟨x, setAf_ms hx, rfl⟩
  have h2 : ∀ h : Hp, Grow h (match af with
    | none => Sc.updO h rb ((h rb).map fun o => match o.row with | some r => o.setR { r with ls := bf } | none => o)
    | some b => Sc.updO h b (setBf (h b) bf)) B := fun h => by
    cases af with
    | none => exact .updO _ _ map_ne fun x hx => ⟨x, map_row_ms (f := fun r => { r with ls := bf }) hx, rfl⟩
    | some b => exact .updO _ _ map_ne fun x hx => ⟨x, setBf_ms hx, rfl⟩
  unfold rmH
  cases bf <;> cases af <;> exact (h1 h).trans (h2 _) (Nat.le_refl _)
theorem Grow.add {s : Bool} {th nb : Nat} {r r0 : Rw} (e0 : h rb = some o) (hr : o.row = some r0) (hn : B ≤ nb) (hnn : h nb = none) : Grow h (addH h s rb o r th nb) B := by
  have hrn : rb ≠ nb := fun e => by rw [e, hnn] at e0; cases e0
  have h1 : Grow h (Sc.upd h nb (.lk s rb th r.ad r.ls none)) B := .upd _ _ (.inr hn) fun x hx => by cases hx
  have h2 : ∀ (h2 : Hp) r', h2 rb = some o → Grow h2 (Sc.upd h2 rb (o.setR r')) B := fun h2 r' e9 => .upd _ _ (.inl (by rw [e9]; simp)) fun x hx => (setR_ms r' (by rw [hr]; simp) hx).elim
  have e1 : Sc.upd h nb (.lk s rb th r.ad r.ls none) rb = some o := (upd_ne _ _ hrn).trans e0
  obtain ⟨fs, ls, ad⟩ := r
  unfold addH
  cases ls with
  | none => exact h1.trans (h2 _ _ e1) (Nat.le_refl _)
  | some y =>
    dsimp only at h1 e1 ⊢
    refine (h1.trans (Grow.updO (B := B) y (setAf _ (some nb)) map_ne fun x hx => ⟨x, setAf_ms hx, rfl⟩) (Nat.le_refl _)).trans ?_ (Nat.le_refl _)
    by_cases hy : y = rb
    · refine .upd _ _ (.inl ?_) fun x hx => (setR_ms _ (by rw [hr]; simp) hx).elim
      subst hy
      rw [updO_same, e1]
      simp [setAf]
    · exact h2 _ _ ((updO_ne _ _ (Ne.symm hy)).trans e1)
end
end Go.Proofs.Ytkjlmibjpfmfnaa.Sc

set_option linter.unusedVariables false
set_option linter.unusedSimpArgs false
namespace Go.Proofs.Ytkjlmibjpfmfnaa.Sc
open Go.Proofs.Ytkjlmibjpfmfnaa.Words Go.Proofs.Ytkjlmibjpfmfnaa.Chk
/-- Two things that stand in a block one after the other: what of them never turns. -/
def Like : Ob → Ob → Prop
  | .ms x, o => o = .ms x
  | .st _ _ t, o => ∃ b r, o = .st b r t
  | .lk s own th pl _ _, o => ∃ p q, o = .lk s own th pl p q
  | .q _ _, o => ∃ b r, o = .q b r
  | .rw _, o => ∃ r, o = .rw r
def Keep (h h' : Hp) : Prop := ∀ b o, h b = some o → ∃ o', h' b = some o' ∧ Like o o'
/-- The messages have kept. -/
def Msk (h h' : Hp) : Prop := ∀ b x, h b = some (.ms x) → h' b = some (.ms x)
section
variable {h h' h2 : Hp} {b rb : Nat} {o o' : Ob}
theorem Like.refl (o : Ob) : Like o o := by cases o <;> simp [Like]
theorem Like.trans {o2 : Ob} (k : Like o o') (k2 : Like o' o2) : Like o o2 := by
  cases o
  · obtain ⟨_, _, rfl⟩ := k; exact k2
  · obtain ⟨_, _, rfl⟩ := k; exact k2
  · obtain ⟨_, rfl⟩ := k; exact k2
  · obtain ⟨_, _, rfl⟩ := k; exact k2
  · have k' : o' = _ := k; subst k'; exact k2
theorem Keep.refl (h : Hp) : Keep h h := fun b o e => ⟨o, e, Like.refl o⟩
theorem Keep.trans (k : Keep h h') (k2 : Keep h' h2) : Keep h h2 := fun b o e => by
  obtain ⟨o1, e1, l1⟩ := k b o e
  obtain ⟨o2, e2, l2⟩ := k2 b o1 e1
  exact ⟨o2, e2, l1.trans l2⟩
theorem Keep.msk (k : Keep h h') : Msk h h' := fun b x e => by
  obtain ⟨o, e1, l⟩ := k b _ e
  have l' : o = .ms x := l
  rw [e1, l']
theorem Msk.trans (k : Msk h h') (k2 : Msk h' h2) : Msk h h2 := fun b x e => k2 b x (k b x e)
theorem Keep.updO (b : Nat) {f : Ob → Ob} (hf : ∀ o, Like o (f o)) : Keep h (updO h b ((h b).map f)) := fun y o e => by
  by_cases hy : y = b
  · subst hy
    exact ⟨f o, by rw [updO_same, e]; rfl, hf o⟩
  · exact ⟨o, (updO_ne _ _ hy).trans e, Like.refl o⟩
theorem like_setR (o : Ob) (f : Rw → Rw) : Like o (match o.row with | some r => o.setR (f r) | none => o) := by
  cases o <;> simp [Ob.row, Ob.setR, Like]
theorem keep_af (h : Hp) (b : Nat) (v : Option Nat) : Keep h (updO h b (setAf (h b) v)) := Keep.updO b fun o => by cases o <;> simp [Like]
theorem keep_bf (h : Hp) (b : Nat) (v : Option Nat) : Keep h (updO h b (setBf (h b) v)) := Keep.updO b fun o => by cases o <;> simp [Like]
theorem Keep.rm (h : Hp) (rb : Nat) (bf af : Option Nat) : Keep h (rmH h rb bf af) := by
  unfold rmH
  cases bf <;> cases af <;> dsimp only
  · exact (Keep.updO rb fun o => like_setR o fun r => { r with fs := none }).trans (Keep.updO rb fun o => like_setR o fun r => { r with ls := none })
  · exact (Keep.updO rb fun o => like_setR o fun r => { r with fs := some _ }).trans (keep_bf _ _ _)
  · exact (keep_af _ _ _).trans (Keep.updO rb fun o => like_setR o fun r => { r with ls := some _ })
  · exact (keep_af _ _ _).trans (keep_bf _ _ _)
theorem Keep.cnt (h : Hp) (p sb bs bq : Nat) : Keep h (cntH h p sb bs bq) := fun y o e => by
  unfold cntH
  by_cases hy : y = p
  · rw [if_pos hy, e]
    refine ⟨_, rfl, ?_⟩
    cases o <;> simp [Like]
  · rw [if_neg hy]
    by_cases hz : y = sb
    · rw [if_pos hz, e]
      refine ⟨_, rfl, ?_⟩
      cases o <;> simp [Like]
    · rw [if_neg hz]
      exact ⟨o, e, Like.refl o⟩
theorem Keep.upd (b : Nat) (o : Ob) (hb : ∀ o0, h b = some o0 → Like o0 o) : Keep h (Sc.upd h b o) := fun y o0 e => by
  by_cases hy : y = b
  · subst hy; exact ⟨o, upd_same _ _ _, hb o0 e⟩
  · exact ⟨o0, (upd_ne _ _ hy).trans e, Like.refl o0⟩
theorem Keep.add {s : Bool} {th nb : Nat} {r r0 : Rw} (e0 : h rb = some o) (hr : o.row = some r0) (hnn : h nb = none) (hl : r.ls ≠ some rb) : Keep h (addH h s rb o r th nb) := by
  have hrn : rb ≠ nb := fun e => by rw [e, hnn] at e0; cases e0
  have h1 : Keep h (Sc.upd h nb (.lk s rb th r.ad r.ls none)) := .upd _ _ fun o0 e => by rw [hnn] at e; cases e
  have e1 : Sc.upd h nb (.lk s rb th r.ad r.ls none) rb = some o := (upd_ne _ _ hrn).trans e0
  have hlk : ∀ r', Like o (o.setR r') := fun r' => by cases o <;> simp [Ob.row, Ob.setR, Like] at hr ⊢
  obtain ⟨fs, ls, ad⟩ := r
  unfold addH
  cases ls with
  | none => exact h1.trans (.upd _ _ fun o0 e => by rw [e1] at e; injection e with e; rw [← e]; exact hlk _)
  | some y =>
    dsimp only at h1 e1 hl ⊢
    have hy : rb ≠ y := fun e => hl (by rw [e])
    refine (h1.trans (keep_af _ y _)).trans (.upd _ _ fun o0 e => ?_)
    rw [updO_ne _ _ hy, e1] at e
    injection e with e
    rw [← e]
    exact hlk _
theorem Row.ls_ne {s : Bool} {ad : Nat} {l : List Lk} (k : Row h s rb ad l) : lst l ≠ some rb := fun e => by
  rcases List.eq_nil_or_concat l with rfl | ⟨a', y, rfl⟩
  · cases e
  · rw [List.concat_eq_append] at k e
    rw [lst_snoc] at e
    injection e with e
    exact k.ne (x := y) (by simp) e
theorem Msk.upd {b : Nat} {o o0 : Ob} (e : h b = some o0) (hm : ∀ x, o0 ≠ .ms x) : Msk h (Sc.upd h b o) := fun y x e9 => by
  have hy : y ≠ b := fun e8 => by rw [e8, e] at e9; injection e9 with e9; exact hm _ e9
  exact (upd_ne _ _ hy).trans e9
end
end Go.Proofs.Ytkjlmibjpfmfnaa.Sc
