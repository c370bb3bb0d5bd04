/-
  Of the texts Tm1, Tm2, Tm3: what the laws reach.
-/
import Derived.Test.YtfgfiiknbkakaaaTB1
import Derived.Test.YtfgfiiknbkakaaaTB4
import Derived.BigQuiet
import Derived.Deep.MidRow
import Derived.WalkSmall

set_option linter.unusedVariables false
set_option linter.unusedSimpArgs false
set_option maxRecDepth 20000
namespace Go.Proofs.Ytfgfiiknbkakaaa.Tm
open Go.ChangeShapes Go.WideShapes Go.ChangeAt Go.RowKit Go.Deep Go.Proofs.Ytfgfiiknbkakaaa.Words
def rowL (f : Hp) (n : Nat) : List Value := (List.range n).map fun j => tptr (f j).b
/-- An entry's cells. -/
def enA (e : En) (j : Nat) : Array Value := #[.int .i64 e.k, .int .u64 (e.a : Int), .int .i64 (j : Int)]
/-- The queue in memory: its row, its entries, each with its place; mv: the table's other cell. -/
structure QM (w : World) (p : Nat) (mv : Value) (A : Option Addr) (n cap : Nat) (f : Hp) : Prop where
  blk : Blk w p 58 #[.slice A n cap, mv]
  row : w.ownsRow 0 109 1 (.slice A n cap) n (rowL f n)
  ent : ∀ j, j < n → Blk w (f j).b 112 (enA (f j) j)
  inj : ∀ i j, i < n → j < n → (f i).b = (f j).b → i = j
  few : n ≤ 1000000
  bnd : ∀ j, j < n → (f j).a ≤ 18446744073709551615 ∧ -9223372036854775808 ≤ (f j).k ∧ (f j).k ≤ 9223372036854775807
/-- Its blocks. -/
def QG (p : Nat) (A : Option Addr) (n : Nat) (f : Hp) (i : Nat) : Prop := i = p ∨ (∃ a : Addr, A = some a ∧ a.block = i) ∨ (∃ j, j < n ∧ (f j).b = i)
section
variable {w w' : World} {p n cap i j : Nat} {mv : Value} {A : Option Addr} {f g : Hp} {S : Nat → Prop}
theorem rowL_len (f : Hp) (n : Nat) : (rowL f n).length = n := by simp [rowL]
theorem rowL_at (h : j < n) : (rowL f n)[j]? = some (tptr (f j).b) := by simp [rowL, h]
theorem rowL_succ (f : Hp) (n : Nat) : rowL f (n + 1) = rowL f n ++ [tptr (f n).b] := by simp [rowL, List.range_succ]
theorem QM.lt (h : QM w p mv A n cap f) (hi : QG p A n f i) : i < w.heap.size := by
  rcases hi with rfl | ⟨a, rfl, rfl⟩ | ⟨j, hj, rfl⟩
  · exact h.blk.lt
  · exact (h.row.lt a.block rfl).2
  · exact (h.ent j hj).lt
theorem QM.fr (h : QM w p mv A n cap f) (hf : Fr S w w') (hS : ∀ i, S i → ¬ QG p A n f i) : QM w' p mv A n cap f :=
  ⟨hf.blk h.blk (fun e => hS _ e (.inl rfl)), hf.own h.row (fun g hg e => by
    cases A with
    | none => cases hg
    | some a => exact hS _ e (.inr (.inl ⟨a, rfl, by injection hg⟩))), fun j hj => hf.blk (h.ent j hj) (fun e => hS _ e (.inr (.inr ⟨j, hj, rfl⟩))), h.inj, h.few, h.bnd⟩
theorem QM.drewN (h : QM w p mv A n cap f) (k : Nat) : QM (w.drewN k) p mv A n cap f := h.fr ((Fr.refl (fun _ => False) w).drewN k) (fun _ h => h.elim)
theorem QM.drew (h : QM w p mv A n cap f) : QM w.drew p mv A n cap f := h.fr ((Fr.refl (fun _ => False) w).drew) (fun _ h => h.elim)
/-- What stands at a place. -/
theorem QM.at_ (h : QM w p mv A n cap f) (hj : j < n) : ∃ q, A = some ⟨q, 0, none⟩ ∧ w.cell? ⟨q, j, none⟩ = some (tptr (f j).b) ∧ w.frozen? ⟨q, j, none⟩ = false := by
  have ho := h.row
  rcases ho.2 with ⟨_, h0⟩ | ⟨q, c, cur, e, _⟩
  · omega
  · injection e with e _ _
    subst e
    exact ⟨q, rfl, by rw [ho.cellAt j (by omega), rowL_at hj], ho.frozenAt j⟩
theorem QM.cap_ (h : QM w p mv A n cap f) : n ≤ cap ∧ cap ≤ 9223372036854775807 := by
  obtain ⟨A', c, e, h1, h2⟩ := own_slice h.row
  injection e with _ _ e
  subst e
  exact ⟨h1, h2⟩
theorem QM.row_ne (h : QM w p mv A n cap f) {q : Nat} (hq : A = some ⟨q, 0, none⟩) : q ≠ p ∧ ∀ j, j < n → (f j).b ≠ q := by
  subst hq
  exact ⟨fun e => own_blk_ne h.row h.blk (by decide) (by rw [← e]; rfl), fun j hj e => own_blk_ne h.row (h.ent j hj) (by decide) (by rw [e]; rfl)⟩
theorem QM.ent_ne (h : QM w p mv A n cap f) (hj : j < n) : (f j).b ≠ p := (h.ent j hj).ne_ h.blk (by decide)
theorem len_q (h : QM w p mv A n cap f) : Calls Try.prog 123 #[.slice A n cap] w fun e w' => e = .returned (.int .i64 (n : Int)) ∧ w = w' := by
  have := h.few
  go_enter Try.func123, Try.ntmps123
  go_wp2_with fail
  go_ret
  exact ⟨rfl, rfl⟩
theorem less_q (h : QM w p mv A n cap f) (hi : i < n) (hj : j < n) : Calls Try.prog 124 #[.slice A n cap, .int .i64 (i : Int), .int .i64 (j : Int)] w fun e w' => e = .returned (.bool (decide (Tm.lt (f i).key (f j).key))) ∧ ∃ m, w' = w.drewN m := by
  obtain ⟨q, rfl, ci, _⟩ := h.at_ hi
  obtain ⟨q', e, cj, _⟩ := h.at_ hj
  injection e with e
  injection e with e _ _
  subst e
  have ei := h.ent i hi
  have ej := h.ent j hj
  obtain ⟨bi, hbi⟩ : ∃ b, b = (f i).b := ⟨_, rfl⟩
  obtain ⟨bj, hbj⟩ : ∃ b, b = (f j).b := ⟨_, rfl⟩
  obtain ⟨ai, hai⟩ : ∃ b, b = (f i).a := ⟨_, rfl⟩
  obtain ⟨aj, haj⟩ : ∃ b, b = (f j).a := ⟨_, rfl⟩
  obtain ⟨ki, hki⟩ : ∃ b, b = (f i).k := ⟨_, rfl⟩
  obtain ⟨kj, hkj⟩ : ∃ b, b = (f j).k := ⟨_, rfl⟩
  unfold enA at ei ej
  have HL : Hid (decide (Tm.lt (f i).key (f j).key) = if ai = aj then decide (ki < kj) else decide (ai < aj)) := by
    show decide (Tm.lt (f i).key (f j).key) = _
    rw [hai, haj, hki, hkj]
    unfold Tm.lt En.key
    dsimp only
    split
    · rename_i e
      rw [e]
      exact decide_eq_decide.2 (by omega)
    · rename_i e
      exact decide_eq_decide.2 (by omega)
  rw [← hbi] at ci ei
  rw [← hbj] at cj ej
  rw [← hai, ← hki] at ei
  rw [← haj, ← hkj] at ej
  have ki0 : w.cell? ⟨bi, 0, none⟩ = some (.int .i64 ki) := ei.cell 0
  have ki1 : w.cell? ⟨bi, 1, none⟩ = some (.int .u64 (ai : Int)) := ei.cell 1
  have kj0 : w.cell? ⟨bj, 0, none⟩ = some (.int .i64 kj) := ej.cell 0
  have kj1 : w.cell? ⟨bj, 1, none⟩ = some (.int .u64 (aj : Int)) := ej.cell 1
  have hnc := h.cap_
  have hi' : (i : Int) < (n : Int) := by omega
  have hj' : (j : Int) < (n : Int) := by omega
  clear hbi hbj hai haj hki hkj ei ej h
  go_enter Try.func124, Try.ntmps124
  go_wp2_with fail
  by_cases hne : ai = aj
  · subst hne
    have HL2 : Hid (decide (Tm.lt (f i).key (f j).key) = decide (ki < kj)) := by
      have := HL.out
      rw [if_pos rfl] at this
      exact this
    clear HL
    go_quiet (fail)
    go_wp2_with fail
    go_quiet (fail)
    go_wp2_with fail
    go_ret
    rw [HL2.out]
    exact ⟨rfl, _, World.drewN_drewN _ _ _⟩
  · have hne' : ¬ (ai : Int) = (aj : Int) := by omega
    have HL2 : Hid (decide (Tm.lt (f i).key (f j).key) = decide (ai < aj)) := by
      have := HL.out
      rw [if_neg hne] at this
      exact this
    clear HL
    go_quiet (fail)
    go_wp2_with fail
    go_quiet (fail)
    go_wp2_with fail
    go_ret
    rw [HL2.out]
    exact ⟨rfl, _, World.drewN_drewN _ _ _⟩
/-- The blocks that an exchange turns. -/
def QS (A : Option Addr) (n : Nat) (f : Hp) (i : Nat) : Prop := (∃ a : Addr, A = some a ∧ a.block = i) ∨ (∃ j, j < n ∧ (f j).b = i)
theorem swp_b (hi : i < n) (hj : j < n) {x : Nat} (hx : x < n) : ∃ y, y < n ∧ swp f i j x = f y := by
  unfold swp
  split
  · exact ⟨j, hj, rfl⟩
  · split
    · exact ⟨i, hi, rfl⟩
    · exact ⟨x, hx, rfl⟩
theorem QS.swp {x : Nat} (hi : i < n) (hj : j < n) (h : QS A n (Tm.swp f i j) x) : QS A n f x := by
  rcases h with h | ⟨y, hy, rfl⟩
  · exact .inl h
  · obtain ⟨z, hz, e⟩ := swp_b (f := f) hi hj hy
    exact .inr ⟨z, hz, by rw [e]⟩
theorem swp_set (f : Hp) (hi : i < n) (hj : j < n) (hij : i ≠ j) : ((rowL f n).set i (tptr (f j).b)).set j (tptr (f i).b) = rowL (swp f i j) n := by
  refine List.ext_getElem? (fun x => ?_)
  rw [List.getElem?_set, List.getElem?_set, List.length_set, rowL_len]
  rcases Nat.lt_or_ge x n with hx | hx
  · rw [rowL_at hx, rowL_at hx]
    by_cases e1 : j = x
    · subst e1
      rw [if_pos rfl, if_pos hj, swp_r]
    · rw [if_neg e1]
      by_cases e2 : i = x
      · subst e2
        rw [if_pos rfl, if_pos hi, swp_l]
      · rw [if_neg e2, swp_o (fun e => e2 e.symm) (fun e => e1 e.symm)]
  · rw [List.getElem?_eq_none (by rw [rowL_len]; exact hx), List.getElem?_eq_none (by rw [rowL_len]; exact hx), if_neg (by omega), if_neg (by omega)]
/-- The row's two cells have turned. -/
structure Half (w W : World) (p : Nat) (mv : Value) (q n cap : Nat) (f : Hp) (i j : Nat) : Prop where
  blk : Blk W p 58 #[.slice (some ⟨q, 0, none⟩) n cap, mv]
  row : W.ownsRow 0 109 1 (.slice (some ⟨q, 0, none⟩) n cap) n (rowL (swp f i j) n)
  ent : ∀ j, j < n → Blk W (f j).b 112 (enA (f j) j)
  fr : Fr (fun x => x = q) w W
theorem QM.half {q : Nat} (h : QM w p mv (some ⟨q, 0, none⟩) n cap f) (hi : i < n) (hj : j < n) (hij : i ≠ j) : Half w ((w.setCell ⟨q, i, none⟩ (tptr (f j).b)).setCell ⟨q, j, none⟩ (tptr (f i).b)).drew p mv q n cap f i j := by
  obtain ⟨n1, n2⟩ := h.row_ne rfl
  have hf : Fr (fun x => x = q) w ((w.setCell ⟨q, i, none⟩ (tptr (f j).b)).setCell ⟨q, j, none⟩ (tptr (f i).b)).drew := (((Fr.refl (fun x => x = q) w).setCell (p := ⟨q, i, none⟩) (.inl rfl) _).setCell (p := ⟨q, j, none⟩) (.inl rfl) _).drew
  refine ⟨hf.blk h.blk (fun e => n1 e.symm), ?_, fun y hy => hf.blk (h.ent y hy) (n2 y hy), hf⟩
  have h1 := (h.row.stored i (tptr (f j).b)).1
  have h2 := (h1.stored j (tptr (f i).b)).1
  rw [swp_set f hi hj hij] at h2
  exact h2.drew
theorem Half.cells {q : Nat} {W : World} (h : Half w W p mv q n cap f i j) (hi : i < n) (hj : j < n) : W.cell? ⟨q, i, none⟩ = some (tptr (f j).b) ∧ W.cell? ⟨q, j, none⟩ = some (tptr (f i).b) := by
  refine ⟨?_, ?_⟩
  · rw [h.row.cellAt i (by omega), rowL_at hi, swp_l]
  · rw [h.row.cellAt j (by omega), rowL_at hj, swp_r]
theorem Half.fin {q : Nat} {W : World} (h0 : QM w p mv (some ⟨q, 0, none⟩) n cap f) (h : Half w W p mv q n cap f i j) (hi : i < n) (hj : j < n) (hij : i ≠ j) :
    QM ((W.setCell ⟨(f j).b, 2, none⟩ (.int .i64 (i : Int))).setCell ⟨(f i).b, 2, none⟩ (.int .i64 (j : Int))).drew p mv (some ⟨q, 0, none⟩) n cap (swp f i j) ∧ Fr (QS (some ⟨q, 0, none⟩) n f) w ((W.setCell ⟨(f j).b, 2, none⟩ (.int .i64 (i : Int))).setCell ⟨(f i).b, 2, none⟩ (.int .i64 (j : Int))).drew := by
  obtain ⟨n1, n2⟩ := h0.row_ne rfl
  have hf : Fr (fun x => x = (f j).b ∨ x = (f i).b) W ((W.setCell ⟨(f j).b, 2, none⟩ (.int .i64 (i : Int))).setCell ⟨(f i).b, 2, none⟩ (.int .i64 (j : Int))).drew := (((Fr.refl (fun x => x = (f j).b ∨ x = (f i).b) W).setCell (p := ⟨(f j).b, 2, none⟩) (.inl (.inl rfl)) _).setCell (p := ⟨(f i).b, 2, none⟩) (.inl (.inr rfl)) _).drew
  have nij : (f i).b ≠ (f j).b := fun e => hij (h0.inj i j hi hj e)
  have b1 : Blk (W.setCell ⟨(f j).b, 2, none⟩ (.int .i64 (i : Int))) (f j).b 112 (enA (f j) i) := (h.ent j hj).set_ 2 _
  have b2 : Blk ((W.setCell ⟨(f j).b, 2, none⟩ (.int .i64 (i : Int))).setCell ⟨(f i).b, 2, none⟩ (.int .i64 (j : Int))).drew (f j).b 112 (enA (f j) i) := Blk.far b1 (Ne.symm nij) _
  have b3 : Blk (W.setCell ⟨(f j).b, 2, none⟩ (.int .i64 (i : Int))) (f i).b 112 (enA (f i) i) := Blk.far (h.ent i hi) nij _
  have b4 : Blk ((W.setCell ⟨(f j).b, 2, none⟩ (.int .i64 (i : Int))).setCell ⟨(f i).b, 2, none⟩ (.int .i64 (j : Int))).drew (f i).b 112 (enA (f i) j) := b3.set_ 2 _
  refine ⟨⟨hf.blk h.blk ?_, hf.own h.row ?_, fun y hy => ?_, fun x y hx hy e => ?_, h0.few, fun y hy => ?_⟩, ?_⟩
  · rintro (e | e)
    · exact h0.ent_ne hj e.symm
    · exact h0.ent_ne hi e.symm
  · intro g hg
    have hg' : q = g := by injection hg
    rintro (e | e)
    · exact n2 j hj (by rw [hg', e])
    · exact n2 i hi (by rw [hg', e])
  · by_cases e1 : y = i
    · subst e1; rw [swp_l]; exact b2
    · by_cases e2 : y = j
      · subst e2; rw [swp_r]; exact b4
      · rw [swp_o e1 e2]
        refine hf.blk (h.ent y hy) ?_
        rintro (e | e)
        · exact e2 (h0.inj y j hy hj e)
        · exact e1 (h0.inj y i hy hi e)
  · have hx' : swp f i j x = f (if x = i then j else if x = j then i else x) := by unfold Tm.swp; split <;> (try split) <;> rfl
    have hy' : swp f i j y = f (if y = i then j else if y = j then i else y) := by unfold Tm.swp; split <;> (try split) <;> rfl
    rw [hx', hy'] at e
    have := h0.inj _ _ (by split <;> (try split) <;> omega) (by split <;> (try split) <;> omega) e
    split at this <;> split at this <;> (try split at this) <;> (try split at this) <;> omega
  · obtain ⟨z, hz, e⟩ := swp_b (f := f) hi hj hy
    rw [e]
    exact h0.bnd z hz
  · refine (h.fr.mono (T := QS (some ⟨q, 0, none⟩) n f) (fun x _ hx => ?_)).trans hf (fun x _ hx => ?_)
    · exact .inl ⟨_, rfl, (show x = q from hx).symm⟩
    · rcases hx with rfl | rfl
      · exact .inr ⟨j, hj, rfl⟩
      · exact .inr ⟨i, hi, rfl⟩
set_option maxHeartbeats 3200000 in
theorem swap_q (h : QM w p mv A n cap f) (hi : i < n) (hj : j < n) (hij : i ≠ j) : Calls Try.prog 125 #[.slice A n cap, .int .i64 (i : Int), .int .i64 (j : Int)] w fun e w' => e = .returned (.tuple #[]) ∧ QM w' p mv A n cap (swp f i j) ∧ Fr (QS A n f) w w' := by
  obtain ⟨q, rfl, ci, fi⟩ := h.at_ hi
  obtain ⟨q', e, cj, fj⟩ := h.at_ hj
  injection e with e
  injection e with e _ _
  subst e
  have H0 := Lib.hid h
  obtain ⟨bi, hbi⟩ : ∃ b, b = (f i).b := ⟨_, rfl⟩
  obtain ⟨bj, hbj⟩ : ∃ b, b = (f j).b := ⟨_, rfl⟩
  rw [← hbi] at ci
  rw [← hbj] at cj
  have HBI := Lib.hid hbi
  have HBJ := Lib.hid hbj
  have hnc := h.cap_
  have hi' : (i : Int) < (n : Int) := by omega
  have hj' : (j : Int) < (n : Int) := by omega
  have hijI : ¬ (i : Int) = (j : Int) := by omega
  have hji : ¬ j = i := fun e => hij e.symm
  clear hbi hbj h
  go_enter Try.func125, Try.ntmps125
  go_upto_region 0 with (fail)
  go_region
  obtain ⟨W1, hW1⟩ : ∃ W1, W1 = ((w.setCell ⟨q, i, none⟩ (.pointer (some ⟨bj, 0, none⟩))).setCell ⟨q, j, none⟩ (.pointer (some ⟨bi, 0, none⟩))).drew := ⟨_, rfl⟩
  have HH : Hid (Half w W1 p mv q n cap f i j) := by
    rw [hW1, HBI.out, HBJ.out]
    exact H0.out.half hi hj hij
  rw [← hW1]
  clear hW1 ci cj fi fj
  obtain ⟨ci, cj⟩ := HH.out.cells hi hj
  have ei := HH.out.ent i hi
  have ej := HH.out.ent j hj
  have HF := Lib.hid (HH.out.fin H0.out hi hj hij)
  have hne : bi ≠ bj := fun e => hij (H0.out.inj i j hi hj (by rw [← HBI.out, ← HBJ.out]; exact e))
  rw [← HBI.out, ← HBJ.out] at HF
  rw [← HBI.out] at cj ei
  rw [← HBJ.out] at ci ej
  have zi : W1.cell? ⟨bi, 2, none⟩ = some (.int .i64 (i : Int)) := ei.cell 2
  have zj : W1.cell? ⟨bj, 2, none⟩ = some (.int .i64 (j : Int)) := ej.cell 2
  have fi := ei.frozen 2
  have fj := ej.frozen 2
  have hne2 : ¬ bj = bi := fun e => hne e.symm
  clear ei ej HH H0
  go_wp2_with fail
  go_region
  go_wp2_with fail
  go_end0
  exact ⟨rfl, HF.out.1, HF.out.2⟩
end
end Go.Proofs.Ytfgfiiknbkakaaa.Tm

set_option linter.unusedVariables false
set_option linter.unusedSimpArgs false
set_option maxRecDepth 20000
namespace Go.Proofs.Ytfgfiiknbkakaaa.Tm
open Go.ChangeShapes Go.WideShapes Go.ChangeAt Go.RowKit Go.Deep Go.Proofs.Ytfgfiiknbkakaaa.Words
/-- The same entries in another order, below m; what stands behind is as it was. -/
structure Prm (f g : Hp) (m : Nat) : Prop where
  lr : ∀ i, i < m → ∃ j, j < m ∧ g i = f j
  rl : ∀ i, i < m → ∃ j, j < m ∧ f i = g j
  out : ∀ x, m ≤ x → g x = f x
section
variable {w w' W : World} {p n cap i j m : Nat} {mv : Value} {A : Option Addr} {f g k : Hp} {S : Nat → Prop} {L : List K}
theorem Prm.refl (f : Hp) (m : Nat) : Prm f f m := ⟨fun i h => ⟨i, h, rfl⟩, fun i h => ⟨i, h, rfl⟩, fun _ _ => rfl⟩
theorem Prm.trans (h : Prm f g m) (h' : Prm g k m) : Prm f k m := by
  refine ⟨fun i hi => ?_, fun i hi => ?_, fun x hx => (h'.out x hx).trans (h.out x hx)⟩
  · obtain ⟨j, hj, e⟩ := h'.lr i hi
    obtain ⟨l, hl, e'⟩ := h.lr j hj
    exact ⟨l, hl, by rw [e, e']⟩
  · obtain ⟨j, hj, e⟩ := h.rl i hi
    obtain ⟨l, hl, e'⟩ := h'.rl j hj
    exact ⟨l, hl, by rw [e, e']⟩
theorem Prm.swp (f : Hp) (hi : i < m) (hj : j < m) : Prm f (swp f i j) m := by
  refine ⟨fun x hx => ?_, fun x hx => ?_, fun x hx => swp_o (by omega) (by omega)⟩
  · exact swp_b hi hj hx
  · by_cases e1 : x = i
    · exact ⟨j, hj, by rw [swp_r, e1]⟩
    · by_cases e2 : x = j
      · exact ⟨i, hi, by rw [swp_l, e2]⟩
      · exact ⟨x, hx, by rw [swp_o e1 e2]⟩
theorem Prm.more (h : Prm f g m) (hm : m ≤ n) : Prm f g n := by
  refine ⟨fun i hi => ?_, fun i hi => ?_, fun x hx => h.out x (by omega)⟩
  · rcases Nat.lt_or_ge i m with h1 | h1
    · obtain ⟨j, hj, e⟩ := h.lr i h1
      exact ⟨j, by omega, e⟩
    · exact ⟨i, hi, h.out i h1⟩
  · rcases Nat.lt_or_ge i m with h1 | h1
    · obtain ⟨j, hj, e⟩ := h.rl i h1
      exact ⟨j, by omega, e⟩
    · exact ⟨i, hi, (h.out i h1).symm⟩
theorem Prm.qs (h : Prm f g n) {x : Nat} (hx : QS A n g x) : QS A n f x := by
  rcases hx with hx | ⟨y, hy, rfl⟩
  · exact .inl hx
  · obtain ⟨z, hz, e⟩ := h.lr y hy
    exact .inr ⟨z, hz, by rw [e]⟩
theorem Holds.prm (h : Holds f n L) (hp : Prm f g n) (hi : ∀ i j, i < n → j < n → (g i).b = (g j).b → i = j) : Holds g n L := by
  refine ⟨h.len, fun z => ?_, fun x y hx hy e => ?_⟩
  · rw [h.mem]
    constructor
    · rintro ⟨j, hj, rfl⟩
      obtain ⟨l, hl, e⟩ := hp.rl j hj
      exact ⟨l, hl, by rw [e]⟩
    · rintro ⟨j, hj, rfl⟩
      obtain ⟨l, hl, e⟩ := hp.lr j hj
      exact ⟨l, hl, by rw [e]⟩
  · obtain ⟨x', hx', e1⟩ := hp.lr x hx
    obtain ⟨y', hy', e2⟩ := hp.lr y hy
    rw [e1, e2] at e
    have := h.inj _ _ hx' hy' e
    exact hi x y hx hy (by rw [e1, e2, this])
abbrev ifc (p : Nat) : Value := .iface 114 (tptr p)
theorem meth_pop (W : World) (p m : Nat) : (method (m + 1) 114 (tptr p) "Pop").run Try.prog W = .ok (126, tptr p) W := by kernel_rfl
theorem meth_push (W : World) (p m : Nat) : (method (m + 1) 114 (tptr p) "Push").run Try.prog W = .ok (127, tptr p) W := by kernel_rfl
theorem load_q {a : Addr} {v : Value} (hc : W.cell? a = some v) : (loadVar 55 a).run Try.prog W = .ok v W := by
  have hu := Try.underlying55
  simp [loadVar, run_underlying hu, hc]
theorem run_ssaWrap {P : Program} (ts : Array TypeId) (t : TypeId) (a : Addr) (x y : String) : (Builtin.ssaWrapNilChk_ ts t #[.pointer (some a), strVal x, strVal y]).run P W = .ok (.pointer (some a)) W := rfl
theorem meth_gen {P : Program} {t elem : TypeId} {name : String} {f : FuncId} {a : Addr} {v : Value} (hi : (P.info? t).bind (fun i => (i.methods.find? (fun x => x.name == name)).map fun m => (m.func, m.path)) = some (some (f, false), #[]))
    (hu : P.underlying t = some (.pointer elem)) (hl : (loadVar elem a).run P W = .ok v W) (k : Nat) : (method (k + 1) t (.pointer (some a)) name).run P W = .ok (f, v) W := by
  cases h1 : P.info? t with
  | none => rw [h1] at hi; cases hi
  | some i =>
    rw [h1, Option.bind_some] at hi
    cases h2 : i.methods.find? (fun x => x.name == name) with
    | none => rw [h2] at hi; cases hi
    | some mm =>
      rw [h2, Option.map_some] at hi
      injection hi with hi
      injection hi with hf hp
      unfold method
      simp [typeInfo, h1, h2, hf, hp, follow, receiverAt, run_underlying hu, Place.get, run_ssaWrap, asAddr, hl]
theorem meth_less (hc : W.cell? ⟨p, 0, none⟩ = some (.slice A n cap)) (m : Nat) : (method (m + 1) 114 (tptr p) "Less").run Try.prog W = .ok (124, .slice A n cap) W :=
  meth_gen (by kernel_rfl) Try.underlying114 (load_q hc) m
theorem meth_len (hc : W.cell? ⟨p, 0, none⟩ = some (.slice A n cap)) (m : Nat) : (method (m + 1) 114 (tptr p) "Len").run Try.prog W = .ok (123, .slice A n cap) W :=
  meth_gen (by kernel_rfl) Try.underlying114 (load_q hc) m
theorem meth_swap (hc : W.cell? ⟨p, 0, none⟩ = some (.slice A n cap)) (m : Nat) : (method (m + 1) 114 (tptr p) "Swap").run Try.prog W = .ok (125, .slice A n cap) W :=
  meth_gen (by kernel_rfl) Try.underlying114 (load_q hc) m
theorem pow64 (i : Nat) (h : i ≤ 1000000) : wrap64 (i : Int) = (i : Int) := by unfold wrap64; omega
theorem up_h (h : QM w p mv A n cap f) (hm0 : m ≤ n) (hl : Low f m j) (hj : j < m) : Calls Try.prog 70 #[ifc p, .int .i64 (j : Int)] w fun e w' => e = .returned (.tuple #[]) ∧ ∃ g, QM w' p mv A n cap g ∧ Heap g m ∧ Prm f g m ∧ Fr (QS A n f) w w' := by
  have hfew := h.few
  go_enter Try.func70, Try.ntmps70
  go_wp2_with fail
  obtain ⟨wo, hwo⟩ : ∃ wo : World, wo = w := ⟨_, rfl⟩
  go_loopw [1, 4] (fun v1 _ wr => ∃ (j : Nat) (g : Hp), v1 = .int .i64 (j : Int) ∧ j < m ∧ Hid (QM wr p mv A n cap g ∧ Low g m j ∧ Prm f g m ∧ Fr (QS A n f) w wr)) (fun v1 _ _ => (intOf v1).toNat)
  case atStart => exact ⟨j, f, rfl, hj, h, hl, Prm.refl f m, Fr.refl _ _⟩
  case round =>
    obtain ⟨j, g, rfl, hj, HR⟩ := hrel
    obtain ⟨i, hi⟩ : ∃ i, i = par j := ⟨_, rfl⟩
    have hdiv : ((j : Int) - 1).tdiv 2 = (i : Int) := by
      rw [hi]
      unfold par
      rcases Nat.eq_zero_or_pos j with h0 | h0
      · subst h0; rfl
      · rw [show ((j : Int) - 1) = ((j - 1 : Nat) : Int) by omega]; exact (Int.ofNat_tdiv _ _).symm
    have HI := Lib.hid hi
    clear hi
    go_upto_region 1 with (fail)
    by_cases hj0 : j = 0
    · have hi0 : j = i := by rw [HI.out, hj0]; rfl
      have HJ0 := Lib.hid hj0
      clear HI hj0
      subst hi0
      have hwi := pow64 j (by omega)
      go_wp2_with fail
      go_end0
      exact ⟨rfl, g, HR.out.1, HR.out.2.1.heap (.inl HJ0.out), HR.out.2.2.1, HR.out.2.2.2⟩
    · have hij : i < j := by rw [HI.out]; unfold par; omega
      have hm := meth_less (W := wr) (p := p) (HR.out.1.blk.cell 0)
      have hms := fun q => meth_swap (W := wr.drewN q) (p := p) (HR.out.1.blk.cell 0)
      have hwi := pow64 i (by omega)
      have hl := less_q HR.out.1 (show j < n by omega) (show i < n by omega)
      have hsw := fun q => swap_q (HR.out.1.drewN q) (show i < n by omega) (show j < n by omega) (by omega)
      have hne : ¬ (i : Int) = (j : Int) := by omega
      by_cases hlt : lt (g j).key (g i).key
      · rw [decide_eq_true hlt] at hl
        have HLT : Hid (lt (g j).key (g (par j)).key) := by rw [← HI.out]; exact hlt
        clear hlt
        go_wp2_with (first
          | (go_at_call 124; refine hl.mono ?_; rintro e w5 ⟨rfl, m5, rfl⟩)
          | (go_at_call 125; refine (hsw _).mono ?_; rintro e w6 ⟨rfl, hq6, hf6⟩))
        go_roundw
        case rel =>
          refine ⟨i, _, by go_num, by omega, hq6, ?_, HR.out.2.2.1.trans (Prm.swp g (show i < m by omega) hj), ?_⟩
          · have := HR.out.2.1.up hj (by omega) HLT.out
            rw [← HI.out] at this
            exact this
          · exact (HR.out.2.2.2.drewN _).trans hf6 (fun x _ hx => (HR.out.2.2.1.more hm0).qs hx)
        case measure => simp [intOf]; omega
      · rw [decide_eq_false hlt] at hl
        have HLT : Hid (le (g (par j)).key (g j).key) := by rw [← HI.out]; exact hlt
        clear hlt
        go_wp2_with (first
          | (go_at_call 124; refine hl.mono ?_; rintro e w5 ⟨rfl, m5, rfl⟩))
        go_end0
        exact ⟨rfl, g, HR.out.1.drewN _, HR.out.2.1.heap (.inr HLT.out), HR.out.2.2.1, HR.out.2.2.2.drewN _⟩
/-- The lesser child. -/
structure Child (g : Hp) (m i j : Nat) : Prop where
  lt : j < m
  par : par j = i
  pos : 0 < j
  min : ∀ d, 0 < d → d < m → Tm.par d = i → le (g j).key (g d).key
theorem child_one {i c : Nat} (hc : c = 2 * i + 1) (hm : c < m) (h : c + 1 < m → le (g c).key (g (c + 1)).key) : Child g m i c :=
  ⟨hm, by unfold Tm.par; omega, by omega, fun d h1 h2 h3 => by
    have hd : d = c ∨ d = c + 1 := by unfold Tm.par at h3; omega
    rcases hd with rfl | rfl
    · exact le_refl _
    · exact h h2⟩
theorem child_two {i c : Nat} (hc : c = 2 * i + 1) (hm : c + 1 < m) (h : Tm.lt (g (c + 1)).key (g c).key) : Child g m i (c + 1) :=
  ⟨hm, by unfold Tm.par; omega, by omega, fun d h1 h2 h3 => by
    have hd : d = c ∨ d = c + 1 := by unfold Tm.par at h3; omega
    rcases hd with rfl | rfl
    · exact lt_le h
    · exact le_refl _⟩
structure Pick (g : Hp) (m c : Nat) (b : Bool) : Prop where
  yes : b = true → c + 1 < m ∧ Tm.lt (g (c + 1)).key (g c).key
  no : b = false → c + 1 < m → le (g c).key (g (c + 1)).key
/-- What down leaves: the heap whole, or but for the place and its parent. -/
def DownDone (w : World) (p : Nat) (mv : Value) (A : Option Addr) (n cap m i0 : Nat) (f : Hp) (e : Ending) (w' : World) : Prop := ∃ (g : Hp) (b : Bool), e = .returned (.bool b) ∧ QM w' p mv A n cap g ∧ Prm f g m ∧ Fr (QS A n f) w w' ∧ (b = true → Heap g m) ∧ (b = false → Low g m i0)
set_option maxHeartbeats 3200000 in
theorem down_h {i0 : Nat} (h : QM w p mv A n cap f) (hm0 : m ≤ n) (hl : Near f m i0) (hi0 : i0 < n) : Calls Try.prog 69 #[ifc p, .int .i64 (i0 : Int), .int .i64 (m : Int)] w (DownDone w p mv A n cap m i0 f) := by
  have hfew := h.few
  go_enter Try.func69, Try.ntmps69
  go_wp2_with fail
  obtain ⟨wo, hwo⟩ : ∃ wo : World, wo = w := ⟨_, rfl⟩
  go_loopw [7, 8, 9, 10] (fun v7 _ _ _ wr => ∃ (i : Nat) (g : Hp), v7 = .int .i64 (i : Int) ∧ i < n ∧ i0 ≤ i ∧ Hid (QM wr p mv A n cap g ∧ Near g m i ∧ Prm f g m ∧ Fr (QS A n f) w wr ∧ (i = i0 ∨ (i < m ∧ 0 < i ∧ le (g (par i)).key (g i).key)))) (fun v7 _ _ _ _ => m - (intOf v7).toNat)
  case atStart => exact ⟨i0, f, rfl, hi0, Nat.le_refl _, h, hl, Prm.refl f m, Fr.refl _ _, .inl rfl⟩
  case round =>
    obtain ⟨i, g, rfl, hi, hii, HR⟩ := hrel
    obtain ⟨c, hc⟩ : ∃ c, c = 2 * i + 1 := ⟨_, rfl⟩
    have hcI : 2 * (i : Int) + 1 = (c : Int) := by omega
    have HC := Lib.hid hc
    have hcb : c ≤ 2000001 := by omega
    clear hc
    by_cases hcm : c < m
    · obtain ⟨c1, hc1⟩ : ∃ c1, c1 = c + 1 := ⟨_, rfl⟩
      have hc1I : (c : Int) + 1 = (c1 : Int) := by omega
      have HC1 := Lib.hid hc1
      have hc1b : c1 ≤ 2000002 := by omega
      have hcm' : ¬ (m : Int) ≤ (c : Int) := by omega
      have hc0 : ¬ (c : Int) < 0 := by omega
      clear hc1
      go_upto_region 6 with (fail)
      go_cut [33] from 25 to 33 (fun v33 wx => ∃ b : Bool, v33 = .bool b ∧ Hid (Pick g m c b) ∧ Hid (∃ q, wx = wr.drewN q))
      case first =>
        by_cases hc1m : c1 < m
        · have hm1 := meth_less (W := wr) (p := p) (HR.out.1.blk.cell 0)
          have hl1 := less_q HR.out.1 (show c1 < n by omega) (show c < n by omega)
          obtain ⟨b, hb⟩ : ∃ b, b = decide (lt (g c1).key (g c).key) := ⟨_, rfl⟩
          rw [← hb] at hl1
          have HP : Hid (Pick g m c b) := by
            have e := HC1.out
            refine ⟨fun e1 => ?_, fun e1 _ => ?_⟩
            · rw [hb] at e1
              rw [← e]
              exact ⟨hc1m, of_decide_eq_true e1⟩
            · rw [hb] at e1
              rw [← e]
              exact of_decide_eq_false e1
          clear hb
          go_wp2_with (first
            | (go_at_call 124; refine hl1.mono ?_; rintro e w5 ⟨rfl, m5, rfl⟩))
          have HQ5 : Hid (∃ q, wr.drewN m5 = wr.drewN q) := ⟨_, rfl⟩
          go_meet
          exact ⟨b, rfl, HP, HQ5⟩
        · have hc1m' : ¬ (c1 : Int) < (m : Int) := by omega
          have HP : Hid (Pick g m c false) := ⟨fun e => by (cases e), fun _ h1 => by have := HC1.out; omega⟩
          have HQ5 : Hid (∃ q, wr = wr.drewN q) := ⟨0, rfl⟩
          go_wp2_with fail
          go_meet
          exact ⟨false, rfl, HP, HQ5⟩
      case rest =>
        obtain ⟨b, rfl, HP, HW⟩ := hcut
        have HRC : Hid (QM wc p mv A n cap g ∧ Near g m i ∧ Prm f g m ∧ Fr (QS A n f) w wc ∧ (i = i0 ∨ (i < m ∧ 0 < i ∧ le (g (par i)).key (g i).key))) := by
          obtain ⟨q, hq⟩ := HW.out
          rw [hq]
          exact ⟨HR.out.1.drewN _, HR.out.2.1, HR.out.2.2.1, HR.out.2.2.2.1.drewN _, HR.out.2.2.2.2⟩
        clear HR HW
        obtain ⟨wb, rfl⟩ : ∃ wb : World, wb = wc := ⟨_, rfl⟩
        go_step
        go_cut [9] from 34 to 34 (fun v9 wx => wb = wx ∧ ∃ j : Nat, v9 = .int .i64 (j : Int) ∧ Hid (Child g m i j))
        case first =>
          cases b with
          | true =>
            have HCH : Hid (Child g m i c1) := by
              obtain ⟨e1, e2⟩ := HP.out.yes rfl
              rw [HC1.out]
              exact child_two HC.out e1 e2
            go_wp2_with fail
            go_meet
            exact ⟨rfl, c1, rfl, HCH⟩
          | false =>
            have HCH : Hid (Child g m i c) := child_one HC.out hcm (HP.out.no rfl)
            go_wp2_with fail
            go_meet
            exact ⟨rfl, c, rfl, HCH⟩
        case rest =>
          obtain ⟨rfl, j, rfl, HCH⟩ := hcut
          have hjm := HCH.out.lt
          have hij : i < j := by have h1 := HCH.out.par; have h2 := HCH.out.pos; unfold par at h1; omega
          have hm := meth_less (W := wb) (p := p) (HRC.out.1.blk.cell 0)
          have hms := fun q => meth_swap (W := wb.drewN q) (p := p) (HRC.out.1.blk.cell 0)
          have hl := less_q HRC.out.1 (show j < n by omega) hi
          have hsw := fun q => swap_q (HRC.out.1.drewN q) hi (show j < n by omega) (by omega)
          by_cases hlt : lt (g j).key (g i).key
          · rw [decide_eq_true hlt] at hl
            have HLT := Lib.hid (HRC.out.2.1.down hjm HCH.out.par HCH.out.pos HCH.out.min hlt)
            clear hlt
            go_wp2_with (first
              | (go_at_call 124; refine hl.mono ?_; rintro e w5 ⟨rfl, m5, rfl⟩)
              | (go_at_call 125; refine (hsw _).mono ?_; rintro e w6 ⟨rfl, hq6, hf6⟩))
            go_roundw
            case rel =>
              refine ⟨j, _, by go_num, by omega, by omega, hq6, HLT.out.1, HRC.out.2.2.1.trans (Prm.swp g (show i < m by omega) hjm), ?_, .inr ⟨hjm, HCH.out.pos, HLT.out.2⟩⟩
              exact (HRC.out.2.2.2.1.drewN _).trans hf6 (fun x _ hx => (HRC.out.2.2.1.more hm0).qs hx)
            case measure => simp [intOf]; omega
          · rw [decide_eq_false hlt] at hl
            have HD : Hid (∀ q, DownDone w p mv A n cap m i0 f (.returned (.bool (decide (i0 < i)))) (wb.drewN q)) := fun q => by
              obtain ⟨q1, q2, q3, q4, q5⟩ := HRC.out
              have hlow : Low g m i := q2.low (fun d h1 h2 h3 => le_trans hlt (HCH.out.min d h1 h2 h3))
              refine ⟨g, _, rfl, q1.drewN q, q3, q4.drewN q, fun hb => ?_, fun hb => ?_⟩
              · have hb' := of_decide_eq_true hb
                rcases q5 with q5 | q5
                · omega
                · exact hlow.heap (.inr q5.2.2)
              · have hb' := of_decide_eq_false hb
                rw [show i0 = i by omega]
                exact hlow
            clear hlt
            go_wp2_with (first
              | (go_at_call 124; refine hl.mono ?_; rintro e w5 ⟨rfl, m5, rfl⟩))
            go_ret
            exact HD.out m5
    · -- no child
      have HD : Hid (DownDone w p mv A n cap m i0 f (.returned (.bool (decide (i0 < i)))) wr) := by
        obtain ⟨q1, q2, q3, q4, q5⟩ := HR.out
        have hlow : Low g m i := q2.low (fun d h1 h2 h3 => by have := HC.out; unfold par at h3; omega)
        refine ⟨g, _, rfl, q1, q3, q4, fun hb => ?_, fun hb => ?_⟩
        · have hb' := of_decide_eq_true hb
          rcases q5 with q5 | q5
          · omega
          · exact hlow.heap (.inr q5.2.2)
        · have hb' := of_decide_eq_false hb
          rw [show i0 = i by omega]
          exact hlow
      have hcm' : (m : Int) ≤ (c : Int) := by omega
      go_wp2_with fail
      go_ret
      exact HD.out
end
end Go.Proofs.Ytfgfiiknbkakaaa.Tm

set_option linter.unusedVariables false
set_option linter.unusedSimpArgs false
set_option maxRecDepth 20000
namespace Go.Proofs.Ytfgfiiknbkakaaa.Tm
open Go.ChangeShapes Go.WideShapes Go.ChangeAt Go.RowKit Go.Deep Go.Proofs.Ytfgfiiknbkakaaa.Words
section
variable {w w' W : World} {p n cap i j m : Nat} {mv : Value} {A : Option Addr} {f g k : Hp} {S : Nat → Prop} {L : List K}
theorem fix_h (h : QM w p mv A n cap f) (hl : Near f n i) (hi : i < n) : Calls Try.prog 48 #[ifc p, .int .i64 (i : Int)] w fun e w' => e = .returned (.tuple #[]) ∧ ∃ g, QM w' p mv A n cap g ∧ Heap g n ∧ Prm f g n ∧ Fr (QS A n f) w w' := by
  have hfew := h.few
  have hm := meth_len (W := w) (p := p) (h.blk.cell 0)
  have hd := down_h h (Nat.le_refl _) hl hi
  have hlen := len_q h
  go_enter Try.func48, Try.ntmps48
  go_upto_region 0 with (fail)
  go_cut [9] from 4 to 9 (fun v9 wx => ∃ (g : Hp) (b : Bool), v9 = .bool (!b) ∧ Hid (QM wx p mv A n cap g ∧ Prm f g n ∧ Fr (QS A n f) w wx ∧ (b = true → Heap g n) ∧ (b = false → Low g n i)))
  case first =>
    go_wp2_with (first
      | (go_at_call 123; refine hlen.mono ?_; rintro e w5 ⟨rfl, rfl⟩)
      | (go_at_call 69; refine hd.mono ?_; rintro e w6 ⟨g, b, rfl, hq, hp, hf, h1, h2⟩))
    go_meet
    exact ⟨g, b, rfl, hq, hp, hf, h1, h2⟩
  case rest =>
    obtain ⟨g, b, rfl, HD⟩ := hcut
    obtain ⟨wb, rfl⟩ : ∃ wb : World, wb = wc := ⟨_, rfl⟩
    cases b with
    | true =>
      have H1 := Lib.hid (HD.out.2.2.2.1 rfl)
      go_wp2_with fail
      go_end0
      exact ⟨rfl, g, HD.out.1, H1.out, HD.out.2.1, HD.out.2.2.1⟩
    | false =>
      have hu := up_h HD.out.1 (Nat.le_refl _) (HD.out.2.2.2.2 rfl) hi
      go_wp2_with (go_at_call 70; refine hu.mono ?_; rintro e w7 ⟨rfl, g7, hq7, h7, hp7, hf7⟩)
      go_end0
      exact ⟨rfl, g7, hq7, h7, HD.out.2.1.trans hp7, HD.out.2.2.1.trans hf7 (fun x _ hx => HD.out.2.1.qs hx)⟩
/-- The last is taken off the queue. -/
def PopDone (w : World) (p : Nat) (mv : Value) (A : Option Addr) (n cap : Nat) (f : Hp) (e : Ending) (w' : World) : Prop :=
  e = .returned (.iface 109 (tptr (f n).b)) ∧ QM w' p mv A n cap f ∧ Blk w' (f n).b 112 (enA (f n) n) ∧ Fr (fun i => i = p ∨ ∃ a : Addr, A = some a ∧ a.block = i) w w'
theorem QM.popped {q : Nat} (h : QM w p mv (some ⟨q, 0, none⟩) (n + 1) cap f) : PopDone w p mv (some ⟨q, 0, none⟩) n cap f (.returned (.iface 109 (tptr (f n).b))) ((w.setCell ⟨q, n, none⟩ (.pointer none)).setCell ⟨p, 0, none⟩ (.slice (some ⟨q, 0, none⟩) n cap)) := by
  obtain ⟨n1, n2⟩ := h.row_ne rfl
  have hf : Fr (fun i => i = p ∨ ∃ a : Addr, some (⟨q, 0, none⟩ : Addr) = some a ∧ a.block = i) w ((w.setCell ⟨q, n, none⟩ (.pointer none)).setCell ⟨p, 0, none⟩ (.slice (some ⟨q, 0, none⟩) n cap)) :=
    ((Fr.refl _ w).setCell (p := ⟨q, n, none⟩) (.inl (.inr ⟨_, rfl, rfl⟩)) _).setCell (p := ⟨p, 0, none⟩) (.inl (.inl rfl)) _
  have hn : ∀ j, j < n + 1 → ¬ ((f j).b = p ∨ ∃ a : Addr, some (⟨q, 0, none⟩ : Addr) = some a ∧ a.block = (f j).b) := by
    rintro j hj (e | ⟨a, e, e'⟩)
    · exact h.ent_ne hj e
    · injection e with e
      subst e
      exact n2 j hj e'.symm
  refine ⟨rfl, ⟨?_, ?_, fun j hj => hf.blk (h.ent j (by omega)) (hn j (by omega)), fun i j hi hj e => h.inj i j (by omega) (by omega) e, by have := h.few; omega, fun j hj => h.bnd j (by omega)⟩, hf.blk (h.ent n (by omega)) (hn n (by omega)), hf⟩
  · have hb : Blk (w.setCell ⟨q, n, none⟩ (.pointer none)) p 58 #[.slice (some ⟨q, 0, none⟩) (n + 1) cap, mv] := Blk.far h.blk (Ne.symm n1) _
    exact hb.set_ 0 _
  · have h1 := (h.row.stored n (.pointer none)).1
    have e : (rowL f (n + 1)).set n (.pointer none) = rowL f n ++ [.pointer none] := by
      rw [rowL_succ, List.set_append_right _ _ (by rw [rowL_len]; exact Nat.le_refl _), rowL_len, Nat.sub_self]
      rfl
    rw [e] at h1
    have h2 := ownsRow_pop (by rw [rowL_len, Nat.mul_one]) h1
    exact ((Fr.refl (fun i => i = p) _).setCell (p := ⟨p, 0, none⟩) (.inl rfl) _).own h2 (fun g hg e => n1 (by
      have hg' : q = g := by injection hg
      rw [hg']
      exact e))
theorem pop_q (h : QM w p mv A (n + 1) cap f) : Calls Try.prog 126 #[tptr p] w (PopDone w p mv A n cap f) := by
  have hfew := h.few
  obtain ⟨q, rfl, cn, fn⟩ := h.at_ (show n < n + 1 by omega)
  have hnc := h.cap_
  obtain ⟨N, hN⟩ : ∃ N, N = n + 1 := ⟨_, rfl⟩
  have hN1 : (N : Int) - 1 = (n : Int) := by omega
  have hNn : (n : Int) < (N : Int) := by omega
  have hNc : n ≤ cap := by omega
  have c0 : w.cell? ⟨p, 0, none⟩ = some (.slice (some ⟨q, 0, none⟩) N cap) := by rw [hN]; exact h.blk.cell 0
  have f0 := h.blk.frozen 0
  have hne : q ≠ p := (h.row_ne rfl).1
  obtain ⟨b, hb⟩ : ∃ b, b = (f n).b := ⟨_, rfl⟩
  have HB := Lib.hid hb
  have HN := Lib.hid hN
  have H0 := Lib.hid h
  rw [← hb] at cn
  clear hb hN h
  go_enter Try.func126, Try.ntmps126
  go_wp2_with fail
  go_ret
  have := H0.out.popped
  rw [HB.out, HN.out] at *
  exact this
/-- One stands behind the others. -/
def pushF (f : Hp) (n : Nat) (e : En) : Hp := fun x => if x = n then e else f x
theorem ta_e (W : World) (b : Nat) : (Instr.typeAssert (.iface 109 (tptr b)) 20 109 false).run Try.prog W = .ok (tptr b) W := by kernel_rfl
theorem blk1 (W : World) (v : Value) : Reads (W.alloc (.cells #[v] 109)) (W.heap.size + 1) 1 (some ⟨W.heap.size, 0, none⟩) 1 [v] := by
  have h := Blk.new W 109 #[v]
  refine ⟨rfl, fun _ => ⟨_, rfl, Nat.lt_succ_self _, fun j u hu => ?_⟩⟩
  rw [h.cellAdd j, ← Array.getElem?_toList]
  exact hu
/-- The new entry knows its place; the row does not have it yet. -/
structure Pushed (w : World) (p : Nat) (mv : Value) (A : Option Addr) (n cap : Nat) (f : Hp) (b : Nat) (e0 : En) : Prop where
  q : QM w p mv A n cap f
  new : Blk w b 112 (enA e0 n)
  far : ∀ j, j < n → (f j).b ≠ b
theorem Pushed.blk {b : Nat} {e0 : En} (h : Pushed w p mv A n cap f b e0) : Blk w p 58 #[.slice A n cap, mv] := h.q.blk
theorem Pushed.row {b : Nat} {e0 : En} (h : Pushed w p mv A n cap f b e0) : w.ownsRow 0 109 1 (.slice A n cap) n (rowL f n) := h.q.row
theorem QM.push1 {b : Nat} {e0 : En} {z : Int} (h : QM w p mv A n cap f) (hb : Blk w b 112 #[.int .i64 e0.k, .int .u64 (e0.a : Int), .int .i64 z]) (hnew : ∀ j, j < n → (f j).b ≠ b) : Pushed (w.setCell ⟨b, 2, none⟩ (.int .i64 (n : Int))) p mv A n cap f b e0 := by
  refine ⟨h.fr ((Fr.refl (fun i => i = b) w).setCell (p := ⟨b, 2, none⟩) (.inl rfl) _) (fun i e hi => ?_), hb.set_ 2 _, hnew⟩
  rw [show i = b from e] at hi
  rcases hi with hi | ⟨a, ha, hi⟩ | ⟨j, hj, hi⟩
  · exact hb.ne_ h.blk (by decide) hi
  · exact own_blk_ne h.row hb (by decide) (by rw [ha]; exact congrArg some hi)
  · exact hnew j hj hi
theorem Pushed.push2 {b N1 : Nat} {e0 : En} {A' : Option Addr} {c' : Nat} {o : Obj} (h : Pushed w p mv A n cap f b e0) (he : e0.b = b) (hbd : e0.a ≤ 18446744073709551615 ∧ -9223372036854775808 ≤ e0.k ∧ e0.k ≤ 9223372036854775807) (hN : N1 = n + 1) (hn : n < 1000000)
    (ho : W.ownsRow 0 109 1 (.slice A' N1 c') N1 (rowL f n ++ [tptr b])) (hg : (w.alloc o).grownBy W (Value.slice A n cap).ownBlock) (hob : (Value.slice A' N1 c').ownBlock = (Value.slice A n cap).ownBlock ∨ (Value.slice A' N1 c').ownBlock = some (w.alloc o).heap.size) :
    W.cell? ⟨p, 0, none⟩ = some (.slice A n cap) ∧ W.frozen? ⟨p, 0, none⟩ = false ∧ (QM (W.setCell ⟨p, 0, none⟩ (.slice A' N1 c')) p mv A' N1 c' (pushF f n e0) ∧ Fr (fun i => QG p A n f i ∨ i = b) w (W.setCell ⟨p, 0, none⟩ (.slice A' N1 c')) ∧ (∀ a : Addr, A' = some a → (∃ a0 : Addr, A = some a0 ∧ a0.block = a.block) ∨ w.heap.size ≤ a.block)) := by
  subst hN
  have hf : Fr (fun i => (Value.slice A n cap).ownBlock = some i) w W := ((Fr.refl _ w).alloc o).grown hg (fun g e => .inl e)
  have hob' : ∀ i, (Value.slice A n cap).ownBlock = some i → ∃ a : Addr, A = some a ∧ a.block = i := fun i e => by
    cases A with
    | none => cases e
    | some a => exact ⟨a, rfl, by injection e⟩
  have hbp : Blk W p 58 #[.slice A n cap, mv] := hf.blk h.blk (fun e => own_blk_ne h.row h.blk (by decide) e)
  have hbb : Blk W b 112 (enA e0 n) := hf.blk h.new (fun e => own_blk_ne h.row h.new (by decide) e)
  have hbe : ∀ j, j < n → Blk W (f j).b 112 (enA (f j) j) := fun j hj => hf.blk (h.q.ent j hj) (fun e => own_blk_ne h.row (h.q.ent j hj) (by decide) e)
  have hf2 : Fr (fun i => i = p) W (W.setCell ⟨p, 0, none⟩ (.slice A' (n + 1) c')) := (Fr.refl (fun i => i = p) W).setCell (p := ⟨p, 0, none⟩) (.inl rfl) _
  have hpn : pushF f n e0 n = e0 := if_pos rfl
  have hpo : ∀ j, j < n → pushF f n e0 j = f j := fun j hj => if_neg (by omega)
  refine ⟨hbp.cell 0, hbp.frozen 0, ⟨hbp.set_ 0 _, hf2.own ?_ (fun g e e' => own_blk_ne ho hbp (by decide) (by rw [e, show g = p from e'])), fun j hj => ?_, fun i j hi hj e => ?_, by omega, fun j hj => ?_⟩, (hf.mono (fun x _ hx => ?_)).trans hf2 (fun x _ hx => .inl (.inl hx)), fun a ha => ?_⟩
  · rw [rowL_succ, hpn, he]
    have e : rowL (pushF f n e0) n = rowL f n := by
      unfold rowL
      exact List.map_congr_left (fun j hj => by rw [hpo j (List.mem_range.1 hj)])
    rw [e]
    exact ho
  · rcases Nat.lt_or_ge j n with h1 | h1
    · rw [hpo j h1]
      exact hf2.blk (hbe j h1) ((hbe j h1).ne_ hbp (by decide))
    · rw [show j = n by omega, hpn, he]
      exact hf2.blk hbb (hbb.ne_ hbp (by decide))
  · rcases Nat.lt_or_ge i n with h1 | h1
    · rw [hpo i h1] at e
      rcases Nat.lt_or_ge j n with h2 | h2
      · rw [hpo j h2] at e
        exact h.q.inj i j h1 h2 e
      · rw [show j = n by omega, hpn, he] at e
        exact absurd e (h.far i h1)
    · rw [show i = n by omega, hpn, he] at e
      rcases Nat.lt_or_ge j n with h2 | h2
      · rw [hpo j h2] at e
        exact absurd e.symm (h.far j h2)
      · omega
  · rcases Nat.lt_or_ge j n with h1 | h1
    · rw [hpo j h1]; exact h.q.bnd j h1
    · rw [show j = n by omega, hpn]; exact hbd
  · exact .inl (.inr (.inl (hob' x hx)))
  · rcases hob with e | e
    · left
      have e1 : (Value.slice A' (n + 1) c').ownBlock = some a.block := by rw [ha]; rfl
      rw [e1] at e
      exact hob' _ e.symm
    · right
      have e1 : (Value.slice A' (n + 1) c').ownBlock = some a.block := by rw [ha]; rfl
      rw [e1] at e
      injection e with e
      rw [e, World.size_alloc]
      exact Nat.le_succ _
def PushDone (w : World) (p : Nat) (mv : Value) (A : Option Addr) (n : Nat) (f : Hp) (b : Nat) (e0 : En) (e : Ending) (w' : World) : Prop :=
  e = .returned (.tuple #[]) ∧ ∃ A' cap', QM w' p mv A' (n + 1) cap' (pushF f n e0) ∧ Fr (fun i => QG p A n f i ∨ i = b) w w' ∧ (∀ a : Addr, A' = some a → (∃ a0 : Addr, A = some a0 ∧ a0.block = a.block) ∨ w.heap.size ≤ a.block)
theorem push_q {b : Nat} {e0 : En} {z : Int} (h : QM w p mv A n cap f) (hn : n < 1000000) (hb : Blk w b 112 #[.int .i64 e0.k, .int .u64 (e0.a : Int), .int .i64 z]) (he : e0.b = b) (hnew : ∀ j, j < n → (f j).b ≠ b) (hbd : e0.a ≤ 18446744073709551615 ∧ -9223372036854775808 ≤ e0.k ∧ e0.k ≤ 9223372036854775807) :
    Calls Try.prog 127 #[tptr p, .iface 109 (tptr b)] w (PushDone w p mv A n f b e0) := by
  have hfew := h.few
  obtain ⟨i0, hi0, hz0, hz1, hz2⟩ := info_parts3 (show (Try.prog.info? 109).map (fun i => (i.zero, i.size, i.bytes)) = some (some (.pointer none), 1, 8) by kernel_rfl)
  have c0 : w.cell? ⟨p, 0, none⟩ = some (.slice A n cap) := h.blk.cell 0
  have cb : w.cell? ⟨b, 2, none⟩ = some (.int .i64 z) := hb.cell 2
  have fb := hb.frozen 2
  have hbp : b ≠ p := hb.ne_ h.blk (by decide)
  have H0 := Lib.hid h
  have HB := Lib.hid hb
  have HNEW := Lib.hid hnew
  have HE := Lib.hid he
  have HBD := Lib.hid hbd
  clear h hnew he hbd
  go_enter Try.func127, Try.ntmps127
  have hta : ∀ W : World, (Instr.typeAssert (.iface 109 (tptr b)) 20 109 false).run Try.prog W = .ok (tptr b) W := fun W => ta_e W b
  obtain ⟨N1, hN1⟩ : ∃ N1, N1 = n + 1 := ⟨_, rfl⟩
  have HN1 := Lib.hid hN1
  clear hN1 hb
  go_upto_region 2 with (fail)
  obtain ⟨W1, hW1⟩ : ∃ W1, W1 = w.setCell ⟨b, 2, none⟩ (.int .i64 (n : Int)) := ⟨_, rfl⟩
  have hf1 : Fr (fun i => i = b) w W1 := by rw [hW1]; exact (Fr.refl (fun i => i = b) w).setCell (p := ⟨b, 2, none⟩) (.inl rfl) _
  have HK : Hid (Pushed W1 p mv A n cap f b e0) := by
    rw [hW1]
    exact H0.out.push1 HB.out HNEW.out
  rw [← hW1]
  have HF1 := Lib.hid hf1
  clear hW1 hf1 c0
  have c0 : W1.cell? ⟨p, 0, none⟩ = some (.slice A n cap) := HK.out.blk.cell 0
  have f0 := HK.out.blk.frozen 0
  have HO9 := Lib.hid (HK.out.row.alloc (.cells #[tptr b] 109))
  have HR9 := Lib.hid (blk1 W1 (tptr b))
  go_wp2_with (first
    | (at_builtin; refine wpList_append_any _ rfl (.tmp 17) (.tmp 19) _ rfl 0 109 i0 _ 1 8 Try.underlying55 hi0 hz0 hz1 hz2 rfl (by omega) (.slice A n cap) n (rowL f n) rfl HO9.out _ (some ⟨W1.heap.size, 0, none⟩) 1 1 [tptr b] rfl HR9.out (by simp [Value.oneCell']) (by simp only [maxLen]; omega) (by omega) (Nat.zero_le _) ?_; rw [← HN1.out]; intro v10 W10 ho10 hg10 hob10; obtain ⟨A10, c10, rfl, _, _⟩ := own_slice ho10; obtain ⟨k0, f0, hdone⟩ := HK.out.push2 HE.out HBD.out HN1.out (by omega) ho10 hg10 hob10; have HDN := Lib.hid hdone; clear hdone ho10 hg10 hob10))
  go_end0
  have h1 := HDN.out
  rw [HN1.out] at *
  exact ⟨rfl, A10, c10, h1.1, (HF1.out.mono (fun x _ e => .inr e)).trans h1.2.1 (fun x _ hx => hx), fun a ha => by
    rcases h1.2.2 a ha with h2 | h2
    · exact .inl h2
    · exact .inr (Nat.le_trans HF1.out.size h2)⟩
theorem low_push {e0 : En} (h : Heap f n) : Low (pushF f n e0) (n + 1) n := by
  have hpo : ∀ j, j < n → pushF f n e0 j = f j := fun j hj => if_neg (by omega)
  refine ⟨fun j h1 h2 h3 => ?_, fun j h1 h2 h3 h4 => by unfold par at h3; omega⟩
  rw [hpo j (by omega), hpo (par j) (by unfold par; omega)]
  exact h j h1 (by omega)
/-- One more is put into the heap. -/
def HPushDone (w : World) (p : Nat) (mv : Value) (A : Option Addr) (n : Nat) (f : Hp) (b : Nat) (e0 : En) (e : Ending) (w' : World) : Prop :=
  e = .returned (.tuple #[]) ∧ ∃ (g : Hp) (A' : Option Addr) (cap' : Nat), QM w' p mv A' (n + 1) cap' g ∧ Heap g (n + 1) ∧ Prm (pushF f n e0) g (n + 1) ∧ Fr (fun i => QG p A n f i ∨ i = b) w w' ∧ (∀ a : Addr, A' = some a → (∃ a0 : Addr, A = some a0 ∧ a0.block = a.block) ∨ w.heap.size ≤ a.block)
theorem push_h {b : Nat} {e0 : En} {z : Int} (h : QM w p mv A n cap f) (hh : Heap f n) (hn : n < 1000000) (hb : Blk w b 112 #[.int .i64 e0.k, .int .u64 (e0.a : Int), .int .i64 z]) (he : e0.b = b) (hnew : ∀ j, j < n → (f j).b ≠ b) (hbd : e0.a ≤ 18446744073709551615 ∧ -9223372036854775808 ≤ e0.k ∧ e0.k ≤ 9223372036854775807) :
    Calls Try.prog 49 #[ifc p, .iface 109 (tptr b)] w (HPushDone w p mv A n f b e0) := by
  have hp := push_q h hn hb he hnew hbd
  have hmp := meth_push w p
  obtain ⟨N1, hN1⟩ : ∃ N1, N1 = n + 1 := ⟨_, rfl⟩
  have hN1I : (N1 : Int) - 1 = (n : Int) := by omega
  have HN1 := Lib.hid hN1
  have HH := Lib.hid hh
  have HE := Lib.hid he
  have hN1b : N1 ≤ 1000000 := by omega
  clear h hh hb hnew hbd he hN1
  go_enter Try.func49, Try.ntmps49
  go_upto_region 1 with (go_at_call 127; refine hp.mono ?_; rintro e w5 ⟨rfl, A5, c5, hq5, hf5, ha5⟩)
  have HQ5 := Lib.hid hq5
  have HF5 := Lib.hid hf5
  have HA5 := Lib.hid ha5
  have hm := meth_len (W := w5) (p := p) (hq5.blk.cell 0)
  have hlen := len_q hq5
  have hu := up_h hq5 (Nat.le_refl _) (low_push HH.out) (Nat.lt_succ_self n)
  rw [← HN1.out] at hm hlen
  clear hq5 hf5 ha5
  go_wp2_with (first
    | (go_at_call 123; refine hlen.mono ?_; rintro e w6 ⟨rfl, rfl⟩)
    | (go_at_call 70; refine hu.mono ?_; rintro e w7 ⟨rfl, g7, hq7, h7, hp7, hf7⟩))
  go_end0
  refine ⟨rfl, g7, A5, c5, hq7, h7, hp7, HF5.out.trans hf7 (fun x hx hs => ?_), HA5.out⟩
  have hpo : ∀ j, j < n → pushF f n e0 j = f j := fun j hj => if_neg (by omega)
  rcases hs with ⟨a, ha, rfl⟩ | ⟨j, hj, rfl⟩
  · rcases HA5.out a ha with ⟨a0, h1, h2⟩ | h1
    · exact .inl (.inr (.inl ⟨a0, h1, h2⟩))
    · omega
  · rcases Nat.lt_or_ge j n with h1 | h1
    · rw [hpo j h1]; exact .inl (.inr (.inr ⟨j, h1, rfl⟩))
    · rw [show j = n by omega, show pushF f n e0 n = e0 from if_pos rfl, HE.out]
      exact .inr rfl
/-- One is taken out of the heap. -/
def HRemDone (w : World) (p : Nat) (mv : Value) (A : Option Addr) (n cap : Nat) (f : Hp) (i : Nat) (e : Ending) (w' : World) : Prop :=
  e = .returned (.iface 109 (tptr (f i).b)) ∧ ∃ g : Hp, QM w' p mv A n cap g ∧ Heap g n ∧ Prm f g (n + 1) ∧ g n = f i ∧ Blk w' (f i).b 112 (enA (f i) n) ∧ Fr (QG p A (n + 1) f) w w'
theorem near_swap (h : Heap f (n + 1)) (hi : i < n) : Near (swp f i n) n i := by
  have e : ∀ x, x ≠ i → x < n → swp f i n x = f x := fun x h1 h2 => swp_o h1 (by omega)
  refine ⟨fun j h1 h2 h3 h4 => ?_, fun j h1 h2 h3 h4 => ?_⟩
  · rw [e j h3 h2, e (par j) h4 (by unfold par; omega)]
    exact h j h1 (by omega)
  · have h5 : j ≠ i := by rintro rfl; unfold par at h3; omega
    have h6 : par i ≠ i := by unfold par; omega
    rw [e j h5 h2, e (par i) h6 (by unfold par; omega)]
    have a := h i h4 (by omega)
    have b := h j h1 (by omega)
    rw [h3] at b
    exact le_trans a b
/-- What stands behind the exchange and the way down or up. -/
def RemMid (w V : World) (p : Nat) (mv : Value) (A : Option Addr) (n cap : Nat) (f : Hp) (i : Nat) (g : Hp) : Prop := QM V p mv A (n + 1) cap g ∧ Heap g n ∧ Prm f g (n + 1) ∧ g n = f i ∧ Fr (QS A (n + 1) f) w V
theorem RemMid.done {V W : World} (h : RemMid w V p mv A n cap f i g) {e : Ending} (hp : PopDone V p mv A n cap g e W) : HRemDone w p mv A n cap f i e W := by
  obtain ⟨h1, h2, h3, h4, h5⟩ := h
  obtain ⟨p1, p2, p3, p4⟩ := hp
  rw [h4] at p1 p3
  exact ⟨p1, g, p2, h2, h3, h4, p3, (h5.mono (fun x _ hx => .inr hx)).trans p4 (fun x _ hx => by
    rcases hx with rfl | ⟨a, ha, rfl⟩
    · exact .inl rfl
    · exact .inr (.inl ⟨a, ha, rfl⟩))⟩
theorem remove_h (h : QM w p mv A (n + 1) cap f) (hh : Heap f (n + 1)) (hi : i < n + 1) : Calls Try.prog 71 #[ifc p, .int .i64 (i : Int)] w (HRemDone w p mv A n cap f i) := by
  have hfew := h.few
  obtain ⟨N, hN⟩ : ∃ N, N = n + 1 := ⟨_, rfl⟩
  have hN1 : (N : Int) - 1 = (n : Int) := by omega
  have HN := Lib.hid hN
  have hNb : N ≤ 1000000 := by omega
  have hm := meth_len (W := w) (p := p) (h.blk.cell 0)
  have hlen := len_q h
  rw [← hN] at hm hlen
  have H0 := Lib.hid h
  have HH := Lib.hid hh
  clear h hh hN
  go_enter Try.func71, Try.ntmps71
  go_upto_region 2 with (go_at_call 123; refine hlen.mono ?_; rintro e w6 ⟨rfl, rfl⟩)
  have pop : ∀ (V : World) (g : Hp), QM V p mv A (n + 1) cap g → Calls Try.prog 126 #[tptr p] V (PopDone V p mv A n cap g) := fun V g hq => pop_q hq
  by_cases hni : n = i
  · subst hni
    have hp := pop _ _ H0.out
    have hmp := meth_pop w p
    go_wp2_with (go_at_call 126; refine hp.mono ?_; rintro e w7 ⟨rfl, hq7, hb7, hf7⟩)
    go_ret
    exact ⟨rfl, f, hq7, HH.out.cut (Nat.le_succ n), Prm.refl _ _, rfl, hb7, hf7.mono (fun x _ hx => by
      rcases hx with rfl | ⟨a, ha, rfl⟩
      · exact .inl rfl
      · exact .inr (.inl ⟨a, ha, rfl⟩))⟩
  · have hin : i < n := by omega
    have hni' : ¬ (n : Int) = (i : Int) := by omega
    have hms := meth_swap (W := w) (p := p) (H0.out.blk.cell 0)
    have hsw := swap_q H0.out hi (Nat.lt_succ_self n) (show i ≠ n by omega)
    rw [← HN.out] at hms hsw
    go_upto_region 4 with (go_at_call 125; refine hsw.mono ?_; rintro e w7 ⟨rfl, hq7, hf7⟩)
    have HQ7 := Lib.hid hq7
    have HF7 := Lib.hid hf7
    rw [HN.out] at HQ7
    clear hq7 hf7
    have hd := down_h HQ7.out (Nat.le_succ n) (near_swap HH.out hin) (show i < n + 1 by omega)
    have hp1 : Prm f (swp f i n) (n + 1) := Prm.swp f hi (Nat.lt_succ_self n)
    go_cut [20] from 16 to 20 (fun v20 wx => ∃ (g : Hp) (b : Bool), v20 = .bool (!b) ∧ Hid (QM wx p mv A (n + 1) cap g ∧ Prm (swp f i n) g n ∧ Fr (QS A (n + 1) f) w wx ∧ (b = true → Heap g n) ∧ (b = false → Low g n i)))
    case first =>
      go_wp2_with (go_at_call 69; refine hd.mono ?_; rintro e w8 ⟨g, b, rfl, hq8, hp8, hf8, h1, h2⟩)
      have HZ : Hid (QM w8 p mv A (n + 1) cap g ∧ Prm (swp f i n) g n ∧ Fr (QS A (n + 1) f) w w8 ∧ (b = true → Heap g n) ∧ (b = false → Low g n i)) := by
        have hf7 := HF7.out
        rw [HN.out] at hf7
        exact ⟨hq8, hp8, hf7.trans hf8 (fun x _ hx => hp1.qs hx), h1, h2⟩
      clear hq8 hp8 hf8 h1 h2
      go_meet
      exact ⟨g, b, rfl, HZ⟩
    case rest =>
      obtain ⟨g, b, rfl, HZ⟩ := hcut
      obtain ⟨wb, rfl⟩ : ∃ wb : World, wb = wc := ⟨_, rfl⟩
      have hg : g n = f i := by rw [HZ.out.2.1.out n (Nat.le_refl _), swp_r]
      have hmp := fun V => meth_pop V p
      cases b with
      | true =>
        have HM : Hid (RemMid w wb p mv A n cap f i g) := ⟨HZ.out.1, HZ.out.2.2.2.1 rfl, hp1.trans (HZ.out.2.1.more (Nat.le_succ n)), hg, HZ.out.2.2.1⟩
        have hpp := pop _ _ HM.out.1
        clear HZ hg hd
        go_wp2_with (go_at_call 126; refine hpp.mono ?_; rintro e w9 h9; obtain ⟨e9, rfl⟩ : ∃ x, e = .returned x := ⟨_, h9.1⟩; have H9 := Lib.hid (HM.out.done h9); clear h9)
        go_ret
        exact H9.out
      | false =>
        have hu := up_h HZ.out.1 (Nat.le_succ n) (HZ.out.2.2.2.2 rfl) hin
        have HMU : Hid (∀ (V : World) (k : Hp), QM V p mv A (n + 1) cap k → Heap k n → Prm g k n → Fr (QS A (n + 1) g) wb V → RemMid w V p mv A n cap f i k) := fun V k k1 k2 k3 k4 =>
          ⟨k1, k2, hp1.trans ((HZ.out.2.1.trans k3).more (Nat.le_succ n)), by rw [k3.out n (Nat.le_refl _), hg], HZ.out.2.2.1.trans k4 (fun x _ hx => (hp1.trans (HZ.out.2.1.more (Nat.le_succ n))).qs hx)⟩
        clear hg hd
        go_wp2_with (first
          | (go_at_call 70; refine hu.mono ?_; rintro e w9 ⟨rfl, k9, q9, h9, p9, f9⟩; have HM := Lib.hid (HMU.out w9 k9 q9 h9 p9 f9); have hpp := pop _ _ HM.out.1; clear q9 h9 p9 f9)
          | (go_at_call 126; refine hpp.mono ?_; rintro e w10 h10; obtain ⟨e9, rfl⟩ : ∃ x, e = .returned x := ⟨_, h10.1⟩; have H9 := Lib.hid (HM.out.done h10); clear h10))
        go_ret
        exact H9.out
end
end Go.Proofs.Ytfgfiiknbkakaaa.Tm
