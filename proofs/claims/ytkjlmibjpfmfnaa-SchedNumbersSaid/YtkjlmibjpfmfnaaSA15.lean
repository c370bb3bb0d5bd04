/-
  Of the texts Fr2, ScFr: what the laws reach.
-/
import Derived.Test.YtkjlmibjpfmfnaaSA14
import Derived.BigQuiet
import Derived.Test.YtkjlmibjpfmfnaaSA13
import Derived.Test.YtkjlmibjpfmfnaaSA4

set_option linter.unusedVariables false
set_option linter.unusedSimpArgs false
namespace Go.Proofs.Ytkjlmibjpfmfnaa.Chk
attribute [local go_sem] Oper.semAt_some
open Go.ChangeShapes Go.WideShapes Go.ChangeAt Go.RowKit Go.Deep Go.Proofs.Ytkjlmibjpfmfnaa.Words Go.Proofs.Ytkjlmibjpfmfnaa.Oct Go.Proofs.Ytkjlmibjpfmfnaa.Par
/-- The pieces without marks. -/
def fragN (m : Msg) (M : Nat) (inter : Bool) (q : Nat) : List Ck := (List.range q).map fun i => fragC m i (pcB m.body M i) inter
theorem fragN_succ (m : Msg) (M : Nat) (inter : Bool) (q : Nat) : fragN m M inter (q + 1) = fragN m M inter q ++ [fragC m q (pcB m.body M q) inter] := by
  unfold fragN
  rw [List.range_succ, List.map_append]
  rfl
theorem fragN_length (m : Msg) (M : Nat) (inter : Bool) (q : Nat) : (fragN m M inter q).length = q := by unfold fragN; simp
theorem fragN_at (m : Msg) (M : Nat) (inter : Bool) {q i : Nat} (h : i < q) : (fragN m M inter q)[i]? = some (fragC m i (pcB m.body M i) inter) := by
  unfold fragN
  rw [List.getElem?_map, List.getElem?_range h]
  rfl
def bgC (c : Ck) : Ck := { c with bg := true }
def enC (c : Ck) : Ck := { c with en := true }
theorem fragN_marked {m : Msg} {M : Nat} {inter : Bool} (hM : 1 ≤ M) (h0 : 0 < m.body.length) : ((fragN m M inter (np m.body.length M)).modify 0 bgC).modify (np m.body.length M - 1) enC = cutF m M inter := by
  obtain ⟨N, hN⟩ : ∃ N, N = np m.body.length M := ⟨_, rfl⟩
  have hN0 : 0 < N := by rw [hN]; exact (np_lt hM).2 (by omega)
  unfold cutF
  rw [← hN]
  apply List.ext_getElem?
  intro i
  rw [List.getElem?_modify, List.getElem?_modify]
  by_cases hi : i < N
  · rw [fragN_at _ _ _ hi, cutN_at _ _ _ hi]
    have h1 : m.body.length ≤ (i + 1) * M ↔ N - 1 = i := by
      have h := not_congr (np_lt (n := m.body.length) (i := i + 1) hM)
      rw [← hN] at h
      omega
    have e : pieceF m M inter i = { fragC m i (pcB m.body M i) inter with bg := decide (0 = i), en := decide (N - 1 = i) } := by
      rw [← decide_eq_decide.2 h1, decide_eq_decide.2 (eq_comm (a := 0) (b := i))]
      rfl
    rw [e]
    simp only [Option.map_eq_map, Option.map_some]
    by_cases h2 : 0 = i <;> by_cases h3 : N - 1 = i
    · rw [if_pos h2, if_pos h3, decide_eq_true h2, decide_eq_true h3]; rfl
    · rw [if_pos h2, if_neg h3, decide_eq_true h2, decide_eq_false h3]; rfl
    · rw [if_neg h2, if_pos h3, decide_eq_false h2, decide_eq_true h3]; rfl
    · rw [if_neg h2, if_neg h3, decide_eq_false h2, decide_eq_false h3]; rfl
  · rw [List.getElem?_eq_none (by rw [fragN_length]; omega), List.getElem?_eq_none (by rw [cutN_length]; omega)]
    rfl
theorem fragC_ok {m : Msg} (ok : m.ok) (inter : Bool) {i : Nat} (l : List UInt8) (hi : i < 4294967296) : (fragC m i l inter).ok := by
  have h := pieceF_ok ok 1 inter (i := i) hi
  exact ⟨h.kind, h.tsn, h.st, h.mid, h.pp, h.fr, h.tag, h.win, h.out, h.inn, h.gaps, h.dups, h.skips, h.ps⟩
/-- A flag of a chunk in a row of the call's own is set. -/
theorem OwnCks.mark {w : World} {B g c k j : Nat} {ls : List Ck} {f : Ck → Ck} {u : Value} (hj : j < 14) (hf : ∀ c gv dv sv pv bv, (ckArr c gv dv sv pv bv).setIfInBounds j u = ckArr (f c) gv dv sv pv bv) (hok : ∀ c, c.ok → (f c).ok)
    (hl : ∀ c, (f c).gaps = c.gaps ∧ (f c).dups = c.dups ∧ (f c).skips = c.skips ∧ (f c).ps = c.ps ∧ (f c).body = c.body) (h : OwnCks w B (.slice (some ⟨g, 0, none⟩) ls.length c) ls) :
    OwnCks (w.setCell ⟨g, k * 19 + j, none⟩ u) B (.slice (some ⟨g, 0, none⟩) ls.length c) (ls.modify k f) := by
  obtain ⟨xs, h1, h2⟩ := h
  obtain ⟨h3, h4⟩ := h1.stored (k * 19 + j) u
  refine ⟨xs.set (k * 19 + j) u, by rw [List.length_modify]; exact h3, fun i c' hc' => ?_⟩
  rw [List.getElem?_modify] at hc'
  cases hi : ls[i]? with
  | none => rw [hi] at hc'; cases hc'
  | some c0 =>
    rw [hi] at hc'
    simp only [Option.map_eq_map, Option.map_some, Option.some.injEq] at hc'
    obtain ⟨ok, cs, hcs, hown⟩ := h2 i c0 hi
    have hown' := hown.beside h1 h4
    by_cases hki : k = i
    · rw [if_pos hki] at hc'
      subst hki hc'
      obtain ⟨gv, dv, sv, pv, bv, rfl, r1, r2, r3, r4, r5⟩ := hown'
      obtain ⟨l1, l2, l3, l4, l5⟩ := hl c0
      refine ⟨hok _ ok, ckArr (f c0) gv dv sv pv bv, fun j' u' hu' => ?_, gv, dv, sv, pv, bv, rfl, by rw [l1]; exact r1, by rw [l2]; exact r2, by rw [l3]; exact r3, by rw [l4]; exact r4, by rw [l5]; exact r5⟩
      rw [← hf, Array.getElem?_setIfInBounds] at hu'
      split at hu'
      · rename_i e
        subst e
        have hlt : k * 19 + j < xs.length := by
          have h5 := h1.1
          have h6 := (List.getElem?_eq_some_iff.1 hi).1
          rw [h5]
          have : (k + 1) * 19 ≤ ls.length * 19 := Nat.mul_le_mul_right _ h6
          omega
        split at hu'
        · rw [List.getElem?_set_self hlt]
          exact hu'
        · cases hu'
      · rename_i e
        rw [List.getElem?_set_ne (by omega)]
        exact hcs j' u' hu'
    · rw [if_neg hki] at hc'
      subst hc'
      refine ⟨ok, cs, fun j' u' hu' => ?_, hown'⟩
      have hj' : j' < 19 := by have := (Array.getElem?_eq_some_iff.1 hu').1; rw [hown.size] at this; exact this
      rw [List.getElem?_set_ne (by omega)]
      exact hcs j' u' hu'
theorem OwnCks.bg {w : World} {B g c k : Nat} {ls : List Ck} (h : OwnCks w B (.slice (some ⟨g, 0, none⟩) ls.length c) ls) : OwnCks (w.setCell ⟨g, k * 19 + 1, none⟩ (.bool true)) B (.slice (some ⟨g, 0, none⟩) ls.length c) (ls.modify k bgC) :=
  OwnCks.mark (by omega) (fun _ _ _ _ _ _ => rfl) (fun c h => ⟨h.kind, h.tsn, h.st, h.mid, h.pp, h.fr, h.tag, h.win, h.out, h.inn, h.gaps, h.dups, h.skips, h.ps⟩) (fun _ => ⟨rfl, rfl, rfl, rfl, rfl⟩) h
theorem OwnCks.en {w : World} {B g c k : Nat} {ls : List Ck} (h : OwnCks w B (.slice (some ⟨g, 0, none⟩) ls.length c) ls) : OwnCks (w.setCell ⟨g, k * 19 + 2, none⟩ (.bool true)) B (.slice (some ⟨g, 0, none⟩) ls.length c) (ls.modify k enC) :=
  OwnCks.mark (by omega) (fun _ _ _ _ _ _ => rfl) (fun c h => ⟨h.kind, h.tsn, h.st, h.mid, h.pp, h.fr, h.tag, h.win, h.out, h.inn, h.gaps, h.dups, h.skips, h.ps⟩) (fun _ => ⟨rfl, rfl, rfl, rfl, rfl⟩) h
theorem OwnCks.frz {w : World} {B g c : Nat} {ls : List Ck} (h : OwnCks w B (.slice (some ⟨g, 0, none⟩) ls.length c) ls) (j : Nat) : w.frozen? ⟨g, j, none⟩ = false := by
  obtain ⟨xs, h1, _⟩ := h
  exact h1.frozenAt j
theorem OwnCks.flag {w : World} {B g c k j : Nat} {ls : List Ck} (h : OwnCks w B (.slice (some ⟨g, 0, none⟩) ls.length c) ls) (hk : k < ls.length) (hj : j < 19) : ∃ u, w.cell? ⟨g, k * 19 + j, none⟩ = some u := by
  obtain ⟨xs, h1, _⟩ := h
  have h2 : (k + 1) * 19 ≤ ls.length * 19 := Nat.mul_le_mul_right _ hk
  have h3 : k * 19 + j < xs.length := by rw [h1.1]; omega
  rw [h1.cellAt (k * 19 + j) (by omega), List.getElem?_eq_getElem h3]
  exact ⟨_, rfl⟩
/-- A slice of one chunk, just built. -/
def LdV (B : Nat) (C : Ck) (v : Value) (W : World) : Prop := ∃ g cs, v = .slice (some ⟨g, 0, none⟩) 1 1 ∧ B ≤ g ∧ CkBlk W g cs ∧ CkOwn W B cs C
theorem LdV.grows {B : Nat} {C : Ck} {v : Value} {W W' : World} (h : LdV B C v W) (k : Below W.heap.size W W') : LdV B C v W' := by
  obtain ⟨g, cs, rfl, h1, h2, h3⟩ := h
  exact ⟨g, cs, rfl, h1, h2.below k h2.lt, h3.grows k⟩
/-- The cells of a chunk of the call's own, as a value. -/
def CkV (B : Nat) (C : Ck) (v : Value) (W : World) : Prop := ∃ cs, v = .agg cs ∧ CkOwn W B cs C
theorem CkV.grows {B : Nat} {C : Ck} {v : Value} {W W' : World} (h : CkV B C v W) (k : Below W.heap.size W W') : CkV B C v W' := by
  obtain ⟨cs, rfl, h1⟩ := h
  exact ⟨cs, rfl, h1.grows k⟩
/-- Cut in its loop: q pieces are cut. -/
structure CSt (w : World) (m : Msg) (v : Value) (M : Nat) (inter : Bool) (gm q : Nat) (W : World) : Prop where
  var : ∃ As cp, Blk W (gm + 2) 55 #[.slice As q cp] ∧ q ≤ cp ∧ cp ≤ 9223372036854775807 ∧ OwnCks W (gm + 7) (.slice As q cp) (fragN m M inter q)
  msg : Blk W gm TM (mCells m v)
  int : Blk W (gm + 1) 4 #[.bool inter]
  below : Below w.heap.size w W
theorem CSt.fr {w W W' : World} {m : Msg} {v : Value} {M : Nat} {inter : Bool} {gm q : Nat} (h : CSt w m v M inter gm q W) (hg : gm = w.heap.size) (k : Fr (fun k => k = gm + 3 ∨ k = gm + 5 ∨ k = gm + 6) W W') : CSt w m v M inter gm q W' := by
  obtain ⟨⟨As, cp, h1, h2, h3, h4⟩, h5, h6, h7⟩ := h
  exact ⟨⟨As, cp, k.blk h1 (by omega), h2, h3, h4.fr k (fun i hi _ => by omega)⟩, k.blk h5 (by omega), k.blk h6 (by omega), below_fr h7 k (Nat.le_refl _) (fun x hx => by omega)⟩
set_option maxHeartbeats 8000000 in
set_option maxRecDepth 100000 in
theorem cut_c : CutC := by
  intro w A n c m most inter ok hn hnc hc hy hmost
  obtain ⟨j0, hj0, hjz0, hjz1, hjz2⟩ := info_parts3 chunk_info3
  have HB1 : Hid (Below w.heap.size w ((w.alloc (.cells (mCells m (.slice A n c)) TM)).alloc (.cells #[.bool inter] 4))) := ((Below.refl _ w).alloc (Nat.le_refl _) _).alloc (by simp) _
  have HM1 : Hid (Blk ((w.alloc (.cells (mCells m (.slice A n c)) TM)).alloc (.cells #[.bool inter] 4)) w.heap.size TM (mCells m (.slice A n c))) := (Blk.new w _ _).below (below_one _ _) (by simp)
  have HI1 : Hid (Blk ((w.alloc (.cells (mCells m (.slice A n c)) TM)).alloc (.cells #[.bool inter] 4)) (w.heap.size + 1) 4 #[.bool inter]) := by
    have := Blk.new (w.alloc (.cells (mCells m (.slice A n c)) TM)) 4 #[.bool inter]
    rw [World.size_alloc] at this
    exact this
  have HY := Lib.hid hy
  have HN := Lib.hid hn
  have HOK := Lib.hid ok
  have st1 := ok.st
  have mid1 := ok.mid
  have pp1 := ok.pp
  obtain ⟨mst, hst⟩ : ∃ x, x = m.st := ⟨_, rfl⟩
  obtain ⟨mlo, hlo⟩ : ∃ x, x = m.lo := ⟨_, rfl⟩
  obtain ⟨mmid, hmid⟩ : ∃ x, x = m.mid := ⟨_, rfl⟩
  obtain ⟨mpp, hpp⟩ : ∃ x, x = m.pp := ⟨_, rfl⟩
  have HMC : Hid (∀ v, mCells m v = #[.int .u16 (mst : Int), .bool mlo, .int .u32 (mmid : Int), .int .u32 (mpp : Int), v]) := fun v => by rw [hst, hlo, hmid, hpp]
  simp only [mCells, ← hst, ← hlo, ← hmid, ← hpp] at HB1 HM1 HI1 ⊢
  rw [← hst] at st1
  rw [← hmid] at mid1
  rw [← hpp] at pp1
  have HE : Hid (∀ k, (if most < 1 ∨ (roomF inter : Int) < most then 2 else if n = 0 then 42 else if 65536 < n then 43 else 0) = k → cutE m most inter = k) := by
    intro k hk
    unfold cutE
    rw [← HN.out]
    exact hk
  clear hst hlo hmid hpp ok hy hn
  obtain ⟨W1, hW1⟩ : ∃ W1, W1 = (w.alloc (.cells #[.int .u16 (mst : Int), .bool mlo, .int .u32 (mmid : Int), .int .u32 (mpp : Int), .slice A n c] TM)).alloc (.cells #[.bool inter] 4) := ⟨_, rfl⟩
  rw [← hW1] at HB1 HM1 HI1
  have hsz1 : W1.heap.size = w.heap.size + 2 := by rw [hW1]; simp
  have HSZ1 := Lib.hid hsz1
  have HW1 := Lib.hid hW1
  obtain ⟨gm, hgm⟩ : ∃ gm, gm = w.heap.size := ⟨_, rfl⟩
  rw [← hgm] at HM1 HI1
  have HGM := Lib.hid hgm
  have HRL := roomF_le inter
  have HRM := Lib.hid (fun V => room_c V inter)
  obtain ⟨rm, hrm⟩ : ∃ rm, rm = roomF inter := ⟨_, rfl⟩
  rw [← hrm] at HRL HE
  simp only [← hrm] at HRM
  clear hrm hW1 hsz1 hgm
  by_cases h1 : most < 1
  · go_enter Try.func55, Try.ntmps55
    go_upto_region 1 with (fail)
    rw [← HW1.out, ← HGM.out]
    have b4 : W1.cell? ⟨gm, 4, none⟩ = some (.slice A n c) := HM1.out.cell 4
    go_wp2_with fail
    go_ret2
    exact cut_fails (HE.out 2 (by rw [if_pos (.inl h1)])) (by decide) HB1.out
  by_cases h2 : (rm : Int) < most
  · go_enter Try.func55, Try.ntmps55
    go_upto_region 1 with (fail)
    rw [← HW1.out, ← HGM.out]
    have b4 : W1.cell? ⟨gm, 4, none⟩ = some (.slice A n c) := HM1.out.cell 4
    have bi : W1.cell? ⟨gm + 1, 0, none⟩ = some (.bool inter) := HI1.out.cell 0
    go_wp2_with fail
    refine (HRM.out W1).mono ?_
    rintro e V ⟨rfl, rfl⟩
    go_wp2_with fail
    go_ret2
    exact cut_fails (HE.out 2 (by rw [if_pos (.inr h2)])) (by decide) HB1.out
  have h12 : ¬ (most < 1 ∨ (rm : Int) < most) := by omega
  by_cases h3 : n = 0
  · have H3 := Lib.hid h3
    clear h3
    go_enter Try.func55, Try.ntmps55
    go_upto_region 1 with (fail)
    rw [← HW1.out, ← HGM.out]
    have b4 : W1.cell? ⟨gm, 4, none⟩ = some (.slice A n c) := HM1.out.cell 4
    have bi : W1.cell? ⟨gm + 1, 0, none⟩ = some (.bool inter) := HI1.out.cell 0
    have h3' : ((n : Int) == 0) = true := by have := H3.out; simp; omega
    go_wp2_with fail
    refine (HRM.out W1).mono ?_
    rintro e V ⟨rfl, rfl⟩
    go_wp2_with fail
    go_ret2
    exact cut_fails (HE.out 42 (by rw [if_neg h12, if_pos H3.out])) (by decide) HB1.out
  by_cases h4 : 65536 < n
  · have h4' : (65536 : Int) < (n : Int) := by omega
    have h3' : ¬ (n : Int) = 0 := by omega
    go_enter Try.func55, Try.ntmps55
    go_upto_region 1 with (fail)
    rw [← HW1.out, ← HGM.out]
    have b4 : W1.cell? ⟨gm, 4, none⟩ = some (.slice A n c) := HM1.out.cell 4
    have bi : W1.cell? ⟨gm + 1, 0, none⟩ = some (.bool inter) := HI1.out.cell 0
    go_wp2_with fail
    refine (HRM.out W1).mono ?_
    rintro e V ⟨rfl, rfl⟩
    go_wp2_with fail
    go_ret2
    exact cut_fails (HE.out 43 (by rw [if_neg h12, if_neg h3, if_pos h4])) (by decide) HB1.out
  have HE0 : Hid (cutE m most inter = 0) := HE.out 0 (by rw [if_neg h12, if_neg h3, if_neg h4])
  clear HE
  obtain ⟨M, rfl⟩ : ∃ M : Nat, most = (M : Int) := ⟨most.toNat, by omega⟩
  have hM1 : 1 ≤ M := by omega
  have hM2 : M ≤ 1172 := by omega
  have hn1 : n ≤ 65536 := by omega
  have h3' : ¬ (n : Int) = 0 := by omega
  clear h1 h12 hmost
  refine (callsIn_wide (n := 4)).1 ?_
  refine callsIn_of_wp_marks Try.func55 rfl trivial ?_ rfl
  simp only [Try.ntmps55, List.size_toArray, List.length_cons, List.length_nil, Nat.reduceAdd, Nat.reduceSub, Array.replicate_succ, Array.replicate_zero, List.push_toArray, List.append_toArray, List.nil_append, List.cons_append]
  refine wpIn_wide.2 ?_
  go_upto_region 1 with (fail)
  rw [← HW1.out, ← HGM.out]
  have b4 : W1.cell? ⟨gm, 4, none⟩ = some (.slice A n c) := HM1.out.cell 4
  have bi : W1.cell? ⟨gm + 1, 0, none⟩ = some (.bool inter) := HI1.out.cell 0
  go_wp2_with fail
  refine (HRM.out W1).mono ?_
  rintro e V ⟨rfl, rfl⟩
  go_upto_region 7 with (fail)
  have hn0 : 0 < n := by omega
  have hgs : W1.heap.size = gm + 2 := by rw [HSZ1.out, HGM.out]
  clear h2 h3 h3' h4 HRL HRM
  generalize ((n : Int) == 0) = d1
  generalize decide ((65536 : Int) < (n : Int)) = d2
  generalize decide (rm < M) = d3
  generalize decide ((M : Int) < 1) = d4
  obtain ⟨W2, hW2⟩ : ∃ W2, W2 = W1.alloc (.cells #[.slice none 0 0] 55) := ⟨_, rfl⟩
  have hs2 : W2.heap.size = gm + 3 := by rw [hW2, World.size_alloc, hgs]
  have hb2 : Below W1.heap.size W1 W2 := by rw [hW2]; exact below_one _ _
  have HV2 : Hid (Blk W2 (gm + 2) 55 #[.slice none 0 0]) := by
    show Blk _ _ _ _
    rw [hW2, ← hgs]
    exact Blk.new _ _ _
  have HM2 := Lib.hid (blk_below HM1.out hb2 HM1.out.lt)
  have HI2 := Lib.hid (blk_below HI1.out hb2 HI1.out.lt)
  have HB2 := Lib.hid (HB1.out.trans (hb2.mono HB1.out.size))
  go_upto_region 8 with (fail)
  rw [← hW2]
  clear hW2 hb2 b4 bi hgs
  have b4 : W2.cell? ⟨gm, 4, none⟩ = some (.slice A n c) := HM2.out.cell 4
  have HPC := Lib.hid (pieces_any A n c M W2)
  go_wp2_with fail
  refine HPC.out.mono ?_
  rintro e W5 ⟨rfl, hW5⟩
  (try rw [hs2])
  have hs5 : W5.heap.size = gm + 5 := by rw [hW5, World.size_alloc, World.size_alloc, hs2]
  have hb5 : Below W2.heap.size W2 W5 := by rw [hW5]; exact ((Below.refl _ W2).alloc (Nat.le_refl _) _).alloc (by simp) _
  have HX5 : Hid (Blk W5 (gm + 3) 36 #[.slice A n c]) := by
    show Blk _ _ _ _
    rw [hW5, ← hs2]
    exact (Blk.new W2 _ _).below (below_one _ _) (by simp)
  have HZ5 : Hid (Blk W5 (gm + 4) 3 #[.int .i64 (M : Int)]) := by
    show Blk _ _ _ _
    rw [hW5]
    have := Blk.new (W2.alloc (.cells #[.slice A n c] 36)) 3 #[.int .i64 (M : Int)]
    rw [World.size_alloc, hs2] at this
    exact this
  have HV5 := Lib.hid (blk_below HV2.out hb5 HV2.out.lt)
  have HM5 := Lib.hid (blk_below HM2.out hb5 HM2.out.lt)
  have HI5 := Lib.hid (blk_below HI2.out hb5 HI2.out.lt)
  have HB5 := Lib.hid (HB2.out.trans (hb5.mono HB2.out.size))
  have HY5 : Hid (Byt W5 gm A m.body) := by
    have := HY.out.below HB5.out
    rwa [← HGM.out] at this
  clear hW5 hb5 b4 HPC HB2 HI2 HM2 HV2 HB1 HI1 HM1
  have HHH := Lib.hid (pieces_hands (T := fun k => k = gm + 2 ∨ gm + 7 ≤ k) hM1 hM2 HN.out hn1 hnc hc HX5.out HZ5.out (by omega) (B := gm) (by omega) (by omega) (fun k hk => by omega) HY5.out)
  go_wp2_with fail
  refine wp_range_handsT rfl (enters_of Try.func86 (by kernel_rfl) rfl) (T := fun k => k = gm + 2 ∨ gm + 7 ≤ k) (bx := gm + 3) (fun k hk => by omega) (by omega) (by rintro q xs ⟨a, k, c', rfl, _⟩; rfl) HHH.out (fun q W => Hid (CSt w m (.slice A n c) M inter gm q W))
    (fun q A A' h _ hf => h.out.fr HGM.out (hf.mono fun x _ hx => by omega)) (fun V hv hsz => ?_)
    (fun T0 q a' A => ∃ a k c, Hid (k = (pcB m.body M q).length ∧ k ≤ c ∧ c ≤ 9223372036854775807 ∧ Byt W5 gm a (pcB m.body M q)) ∧ a' = { tmps := (((T0.setIfInBounds 34 (.int .i64 (q : Int))).setIfInBounds 35 (.slice a k c)).setIfInBounds 9 (.int .i64 (q : Int))).setIfInBounds 10 (.slice a k c), defers := [] }) ?ax ?assign ?body ?done
  · exact ⟨⟨none, 0, blk_below HV5.out hv HV5.out.lt, Nat.le_refl _, by omega, OwnCks.nil _ _⟩, by rw [HMC.out]; exact blk_below HM5.out hv HM5.out.lt, blk_below HI5.out hv HI5.out.lt, HB5.out.trans (hv.mono HB5.out.size)⟩
  case ax =>
    rintro q a' A l r o ⟨a, k, c, hh, rfl⟩ hl
    exact ⟨a, k, c, hh, rfl⟩
  case assign =>
    rintro l q W xs K hq ⟨a, k, c', rfl, h1, h2, h3, h4⟩ hK
    have HH := Lib.hid (And.intro h1 (And.intro h2 (And.intro h3 h4)))
    clear h1 h2 h3 h4
    simp only [List.zip_toArray, List.zip_cons_cons, List.zip_nil_right, List.foldl_toArray', List.foldl_cons, List.foldl_nil, List.setIfInBounds_toArray, List.set_cons_succ, List.set_cons_zero]
    gi_wp2_with fail
    exact hK _ _ (Fr.refl _ _) ⟨a, k, c', HH, by simp only [List.setIfInBounds_toArray, List.set_cons_succ, List.set_cons_zero]⟩
  case body =>
    intro l q a' W hs hq hax hsz
    obtain ⟨a, k, c', hh, rfl⟩ := hax
    simp only [List.setIfInBounds_toArray, List.set_cons_succ, List.set_cons_zero]
    refine wpIn_block ?_
    obtain ⟨As, cp, hv1, hv2, hv3, hv4⟩ := hs.out.var
    obtain ⟨C, hC⟩ : ∃ C, C = fragC m q (pcB m.body M q) inter := ⟨_, rfl⟩
    have hq6 : q < 65536 := by have := np_le (n := n) hM1; omega
    have HCOK : Hid C.ok := by rw [hC]; exact fragC_ok HOK.out inter _ (by omega)
    have HC := Lib.hid hC
    have HV := Lib.hid hv1
    have HOW := Lib.hid hv4
    have HMS : Hid (Blk W gm TM #[.int .u16 (mst : Int), .bool mlo, .int .u32 (mmid : Int), .int .u32 (mpp : Int), .slice A n c]) := by have := hs.out.msg; rwa [HMC.out] at this
    have HIN := Lib.hid hs.out.int
    have HBL := Lib.hid hs.out.below
    have HBW5 : Hid (Byt W W.heap.size a (pcB m.body M q)) := by
      have h := hh.out.2.2.2
      have h2 : Byt W gm a (pcB m.body M q) := h.keep fun p hp => (hs.out.below.cell (p := p) (by rw [← HGM.out]; exact hp)).trans (HB5.out.cell (p := p) (by rw [← HGM.out]; exact hp)).symm
      exact h2.more (by omega)
    have HST : Hid (Below W.heap.size W W.drew) := Below.drew (Below.refl _ _)
    have HFA : Hid (∀ V, Below W.heap.size W V → Calls Try.prog 71 #[.agg #[.int .u16 (mst : Int), .bool mlo, .int .u32 (mmid : Int), .int .u32 (mpp : Int), .slice A n c], .int .i64 (q : Int), .slice a k c', .bool inter] V fun e w' => (∃ cs, e = .returned (.agg cs) ∧ CkOwn w' V.heap.size cs C) ∧ Below V.heap.size V w') := fun V h => by
      have := fragment_any (w := V) (A := a) (A0 := A) (n := k) (c := c') (n0 := n) (c0 := c) (i := q) (l := pcB m.body M q) (inter := inter) HOK.out (by omega) hh.out.1 (by have := hh.out.1; rw [this]; unfold pcB; rw [List.length_take]; omega) ((HBW5.out.below h).more h.size)
      rw [HMC.out, ← HC.out] at this
      exact this
    clear hv1 hv4 hs hh hC
    refine wpIn_region_stage_tail 7 (fun _ V V' => Below V.heap.size V V') (fun m V => Hid (Below W.heap.size W V)) [(false, .exact (.slice As q cp)),
        (false, .exact (.agg #[.int .u16 (mst : Int), .bool mlo, .int .u32 (mmid : Int), .int .u32 (mpp : Int), .slice A n c])),
        (false, .exact (.int .i64 (q : Int))),
        (false, .exact (.slice a k c')),
        (false, .exact (.bool inter)),
        (false, .grows (CkV W.heap.size C)),
        (false, .grows (LdV W.heap.size C))] (by kernel_rfl) (by kernel_rfl) (by kernel_rfl) rfl (of_decide_eq_true (by kernel_rfl)) (by kernel_rfl) (by kernel_rfl) ?lasts ?start (fun ⟨_, _, h⟩ => h) (by kernel_rfl) ?walk
    case lasts => exact ⟨fun m v V V' _ h k => h.grows k, fun m v V V' _ h k => h.grows k, trivial⟩
    case start => exact HST
    case walk =>
      simp only [List.take_succ_cons, List.take_zero, List.drop_succ_cons, List.drop_zero]
      refine stageT_pure rfl (fun _ V => Below.refl _ V) (fun V m hS hl => by
          have hc := (blk_below HV.out hS.out HV.out.lt).cell 0
          go_simp) ?_
      simp only [Act.put, List.setIfInBounds_toArray, List.set_cons_zero, List.set_cons_succ, List.cons_append, List.nil_append]
      refine stageT_pure rfl (fun _ V => Below.refl _ V) (fun V m hS hl => by
          have hb := blk_below HMS.out hS.out HMS.out.lt
          exact exec_load_any rfl rfl (fun j u hu => by rw [hb.cellAdd]; exact hu) Try.underlying38 rfl msg_info) ?_
      simp only [Act.put, List.setIfInBounds_toArray, List.set_cons_zero, List.set_cons_succ, List.cons_append, List.nil_append]
      refine stageT_pure rfl (fun _ V => Below.refl _ V) (fun V m hS hl => by go_simp) ?_
      simp only [Act.put, List.setIfInBounds_toArray, List.set_cons_zero, List.set_cons_succ, List.cons_append, List.nil_append]
      refine stageT_pure rfl (fun _ V => Below.refl _ V) (fun V m hS hl => by go_simp) ?_
      simp only [Act.put, List.setIfInBounds_toArray, List.set_cons_zero, List.set_cons_succ, List.cons_append, List.nil_append]
      refine stageT_pure rfl (fun _ V => Below.refl _ V) (fun V m hS hl => by
          have hc := (blk_below HIN.out hS.out HIN.out.lt).cell 0
          go_simp) ?_
      simp only [Act.put, List.setIfInBounds_toArray, List.set_cons_zero, List.set_cons_succ, List.cons_append, List.nil_append]
      refine stageT_grows rfl (fun V m hS hl => by
          go_simp
          refine (HFA.out V hS.out).mono ?_
          rintro e V' ⟨⟨cs, rfl, ho⟩, hb⟩
          exact ⟨_, rfl, hb, ⟨_, rfl, ho.mono hS.out.size⟩, hS.out.trans (hb.mono hS.out.size)⟩) (fun v41 => ?_)
      simp only [Act.put, List.setIfInBounds_toArray, List.set_cons_zero, List.set_cons_succ, List.cons_append, List.nil_append]
      refine stageT_grows rfl (fun V m hS hl => by
          show Words.Leaves _ _ _
          obtain ⟨cs, rfl, ho⟩ := (hl.1 (by kernel_rfl))
          rw [exec_slice_ck _ rfl cs rfl ho.arr]
          exact ⟨below_one V _, ⟨_, cs, rfl, hS.out.size, Blk.new V _ _, ho.grows (below_one V _)⟩, hS.out.trans ((below_one V _).mono hS.out.size)⟩) (fun v42 => ?_)
      simp only [Act.put, List.setIfInBounds_toArray, List.set_cons_zero, List.set_cons_succ, List.cons_append, List.nil_append]
      refine stageT_nil (fun V2 hS hF => ?_)
      have hF2 : CkV W.heap.size C v41 V2 ∧ LdV W.heap.size C v42 V2 ∧ True := hF
      obtain ⟨g, cs, rfl, hg1, hg2, hg3⟩ := hF2.2.1
      have HS2 := Lib.hid hS.out
      have HG2 := Lib.hid hg2
      have HG3 := Lib.hid hg3
      have HSZ := Lib.hid hg3.size
      have HARR := Lib.hid hg3.arr
      have HONE := Lib.hid (hg3.at_ HCOK.out).one
      have HV2' := Lib.hid (blk_below HV.out hS.out HV.out.lt)
      have hbs : gm + 7 ≤ V2.heap.size := Nat.le_trans (by omega) hS.out.size
      have hgg : gm + 7 ≤ g := by omega
      obtain ⟨xs, hx1, hx2⟩ := HOW.out.grows hS.out
      have HX1 : Hid (V2.ownsRow (gm + 7) 51 19 (.slice As q cp) q xs) := by
        have := hx1
        rw [fragN_length] at this
        exact this
      have HX2 := Lib.hid hx2
      have GOAL : Hid (∀ (V : World) (v' : Value) (A7 : Option Addr) (c7 : Nat), V.ownsRow (gm + 7) 51 19 v' (q + 1) (xs ++ cs.toList) → V2.grownBy V (Value.slice As q cp).ownBlock → v' = .slice A7 (q + 1) c7 → q + 1 ≤ c7 → c7 ≤ 9223372036854775807 →
          Fr (fun k => k = gm + 2 ∨ gm + 7 ≤ k) W (V.setCell ⟨gm + 2, 0, none⟩ v') ∧ Hid (CSt w m (.slice A n c) M inter gm (q + 1) (V.setCell ⟨gm + 2, 0, none⟩ v'))) := by
        intro V v' A7 c7 ho hg he hc1 hc2
        subst he
        have f1 : Fr (fun k => gm + 7 ≤ k) W V := ((Fr.of_below HS2.out).mono (T := fun k => gm + 7 ≤ k) (fun x _ hx => by omega)).grown hg (fun b hb => .inl (HX1.out.lt b hb).1)
        have f2 : Fr (fun k => k = gm + 2 ∨ gm + 7 ≤ k) W (V.setCell ⟨gm + 2, 0, none⟩ (.slice A7 (q + 1) c7)) := (f1.mono (T := fun k => k = gm + 2 ∨ gm + 7 ≤ k) (fun _ _ h => .inr h)).setCell (p := ⟨gm + 2, 0, none⟩) (.inl (.inl rfl)) _
        have hck : OwnCks V (gm + 7) (.slice A7 (q + 1) c7) (fragN m M inter (q + 1)) := by
          rw [fragN_succ, ← HC.out]
          exact OwnCks.snoc hx1 HX2.out hg ho (by rw [fragN_length]) (HG3.out.mono (by omega)) HCOK.out
        have f3 := (Fr.refl (fun k => k = gm + 2) V).setCell (p := ⟨gm + 2, 0, none⟩) (.inl rfl) (.slice A7 (q + 1) c7)
        refine ⟨f2, ⟨A7, c7, ?_, hc1, hc2, hck.fr f3 (fun i hi _ => by have e : i = gm + 2 := hi; omega)⟩, ?_, ?_, below_fr HBL.out f2 (Nat.le_refl _) (fun x hx => by have := HGM.out; omega)⟩
        · exact (f1.blk HV.out (by omega)).set_ 0 _
        · rw [HMC.out]
          exact f2.blk HMS.out (by omega)
        · exact f2.blk HIN.out (by omega)
      clear hS hF hF2 hg2 hg3 hx1 hx2 HST HFA HBW5 hg1
      show wpList _ _ _ _ _ _
      go_wp2_with (at_builtin; refine wpList_append_any _ rfl (.tmp 36) (.tmp 42) _ rfl (gm + 7) 51 j0 _ 19 160 Try.underlying55 hj0 hjz0 hjz1 hjz2 rfl (by omega) (.slice As q cp) q xs rfl HX1.out (g + 1) (some ⟨g, 0, none⟩) 1 1 cs.toList rfl (blk_reads HG2.out (by simpa using HSZ.out)) (ck_cells1 HARR.out HONE.out) (by simp only [maxLen]; omega) (by omega) hbs ?_; intro v7 w7 hown7 hg7 hat7; obtain ⟨A7, c7, rfl, h7a, h7b⟩ := own_slice hown7; have HG := Lib.hid (GOAL.out w7 _ A7 c7 hown7 hg7 rfl h7a h7b); have HV7 : Hid (Blk w7 (gm + 2) 55 #[.slice As q cp]) := (hg7.block (gm + 2) HV2'.out.lt (fun e => by have := (HX1.out.lt _ e.symm).1; omega)).trans HV2'.out; have cv : w7.cell? ⟨gm + 2, 0, none⟩ = some (.slice As q cp) := HV7.out.cell 0; have zv := Blk.frozen HV7.out 0; clear hown7 hg7 hat7)
      exact HG.out
  case done =>
    intro W hs hD
    dsimp only
    obtain ⟨N, hN⟩ : ∃ N, N = np n M := ⟨_, rfl⟩
    rw [← hN] at hs
    have hN1 : 1 ≤ N := by have := (np_lt (n := n) (i := 0) hM1).2 (by omega); omega
    have hN6 : N ≤ 65536 := by have := np_le (n := n) hM1; omega
    obtain ⟨k, rfl⟩ : ∃ k, N = k + 1 := ⟨N - 1, by omega⟩
    obtain ⟨As, cp, hv1, hv2, hv3, hv4⟩ := hs.out.var
    obtain ⟨ls, hls⟩ : ∃ ls, ls = fragN m M inter (k + 1) := ⟨_, rfl⟩
    have hll : ls.length = k + 1 := by rw [hls, fragN_length]
    rw [← hls] at hv4
    obtain ⟨g, rfl, hg1, hg2, _⟩ := hv4.cells (by omega)
    have h5 : OwnCks W (gm + 7) (.slice (some ⟨g, 0, none⟩) ls.length cp) ls := by rw [hll]; exact hv4
    have HK0 := Lib.hid h5
    have HK1 := Lib.hid (h5.bg (k := 0))
    rw [Nat.zero_mul, Nat.zero_add] at HK1
    have x1 := h5.flag (k := 0) (by omega) (j := 1) (by omega)
    rw [Nat.zero_mul, Nat.zero_add] at x1
    obtain ⟨u1, x1⟩ := x1
    have z1 := h5.frz 1
    have cv : W.cell? ⟨gm + 2, 0, none⟩ = some (.slice (some ⟨g, 0, none⟩) (k + 1) cp) := hv1.cell 0
    have HLS := Lib.hid hls
    have HLL := Lib.hid hll
    have HV0 := Lib.hid hv1
    have HBL := Lib.hid hs.out.below
    have HND := Lib.hid hN
    have HD := Lib.hid hD
    clear hv1 hv4 hls hs h5 hN hll hD
    go_upto_region 13 with (fail)
    obtain ⟨W6, hW6⟩ : ∃ W6, W6 = W.setCell ⟨g, 1, none⟩ (.bool true) := ⟨_, rfl⟩
    rw [← hW6] at HK1 ⊢
    have HV6 : Hid (Blk W6 (gm + 2) 55 #[.slice (some ⟨g, 0, none⟩) (k + 1) cp]) := by
      show Blk _ _ _ _
      rw [hW6]
      exact Blk.far HV0.out (p := ⟨g, 1, none⟩) (fun e => by have e' : g = gm + 2 := (by first | exact e | exact e.symm); omega) _
    have hf6 : Fr (fun x => x = g) W W6 := by rw [hW6]; exact (Fr.refl (fun x => x = g) W).setCell (p := ⟨g, 1, none⟩) (.inl rfl) _
    have HF6 := Lib.hid hf6
    have cv6 : W6.cell? ⟨gm + 2, 0, none⟩ = some (.slice (some ⟨g, 0, none⟩) (k + 1) cp) := HV6.out.cell 0
    have h6 : OwnCks W6 (gm + 7) (.slice (some ⟨g, 0, none⟩) (ls.modify 0 bgC).length cp) (ls.modify 0 bgC) := by rw [List.length_modify]; exact HK1.out
    obtain ⟨u2, x2⟩ := h6.flag (k := k) (by rw [List.length_modify, HLL.out]; omega) (j := 2) (by omega)
    have z2 := h6.frz (k * 19 + 2)
    have HK2 := Lib.hid (h6.en (k := k))
    clear hW6 hf6 h6 cv x1 z1 HK0 HK1
    go_upto_region 14 with (fail)
    obtain ⟨W7, hW7⟩ : ∃ W7, W7 = W6.setCell ⟨g, k * 19 + 2, none⟩ (.bool true) := ⟨_, rfl⟩
    rw [← hW7] at HK2 ⊢
    have HV7 : Hid (Blk W7 (gm + 2) 55 #[.slice (some ⟨g, 0, none⟩) (k + 1) cp]) := by
      show Blk _ _ _ _
      rw [hW7]
      exact Blk.far HV6.out (p := ⟨g, k * 19 + 2, none⟩) (fun e => by have e' : g = gm + 2 := (by first | exact e | exact e.symm); omega) _
    have hf7 : Fr (fun x => x = g) W W7 := by rw [hW7]; exact HF6.out.setCell (p := ⟨g, k * 19 + 2, none⟩) (.inl rfl) _
    have cv7 : W7.cell? ⟨gm + 2, 0, none⟩ = some (.slice (some ⟨g, 0, none⟩) (k + 1) cp) := HV7.out.cell 0
    have hD7 : W7.heap[W5.heap.size]? = some (.deferred (some [])) := (hf7.block _ (Array.getElem?_eq_some_iff.1 HD.out).1 (fun e => by have e' : W5.heap.size = g := e; omega)).trans HD.out
    have HBL7 := Lib.hid (below_fr HBL.out hf7 (Nat.le_refl _) (fun x hx => by have e' : x = g := hx; have := HGM.out; omega))
    have HD7 := Lib.hid hD7
    clear hW7 hf7 cv6 x2 z2 hD7
    go_wp2_with fail
    refine ⟨by simp, .inl ⟨_, _, rfl, run_takeDeferred HD7.out, ?_⟩⟩
    refine ⟨.tuple #[.slice (some ⟨g, 0, none⟩) (k + 1) cp, .int .i64 0], by simp [results, Try.results55, Sem.run_bind, Result.andThen], ?_⟩
    have hnp : np m.body.length M = k + 1 := by rw [← HN.out]; exact HND.out.symm
    have hlist : (ls.modify 0 bgC).modify k enC = cutF m M inter := by
      have h := fragN_marked (m := m) (inter := inter) hM1 (by rw [← HN.out]; exact hn0)
      rw [hnp] at h
      rw [HLS.out]
      exact h
    have ho : OwnCks W7 (gm + 7) (.slice (some ⟨g, 0, none⟩) (k + 1) cp) (cutF m M inter) := by
      have h := HK2.out
      rw [hlist, List.length_modify, HLL.out] at h
      exact h
    have hp := frT_putObj (Fr.refl (fun x => x = W5.heap.size) W7) (l := W5.heap.size) rfl (.deferred none)
    refine cut_does HE0.out (by rw [Int.toNat_natCast]; exact hnp.symm) hv2 hv3 ?_ (below_fr HBL7.out hp (Nat.le_refl _) (fun x hx => by have e' : x = W5.heap.size := hx; have := HGM.out; omega))
    rw [Int.toNat_natCast]
    exact (ho.fr hp (fun i hi _ => by have e' : i = W5.heap.size := hi; omega)).mono (by have := HGM.out; omega)
end Go.Proofs.Ytkjlmibjpfmfnaa.Chk

set_option linter.unusedVariables false
set_option linter.unusedSimpArgs false
set_option maxRecDepth 20000
namespace Go.Proofs.Ytkjlmibjpfmfnaa.Sc
open Go.ChangeShapes Go.WideShapes Go.ChangeAt Go.RowKit Go.Deep Go.Maps Go.Proofs.Ytkjlmibjpfmfnaa.Words Go.Proofs.Ytkjlmibjpfmfnaa.Oct Go.Proofs.Ytkjlmibjpfmfnaa.Par Go.Proofs.Ytkjlmibjpfmfnaa.Chk Go.Proofs.Ytkjlmibjpfmfnaa.Mx Go.Proofs.Ytkjlmibjpfmfnaa.Fl
section
variable {e : Ev} {w w' W W' : World} {h h' : Hp} {p mb T : Nat} {x0 : Me} {gh : Gh} {A : Option Addr} {n cp : Nat} {m : Msg} {B : Nat} {c : Ck} {ls : List Ck}
theorem first_own {v : Value} (h : OwnCks w B v [c]) : ∃ g cp cs, v = .slice (some ⟨g, 0, none⟩) 1 cp ∧ 1 ≤ cp ∧ cp ≤ 9223372036854775807 ∧ CkOwn w B cs c ∧ c.ok ∧ ∀ j u, cs[j]? = some u → w.cell? ⟨g, j, none⟩ = some u := by
  obtain ⟨xs, h1, h2⟩ := h
  obtain ⟨A', c', he, hc1, hc2⟩ := own_slice h1
  obtain ⟨g, cap, hv, hg1, hg2⟩ := h1.form (by simp)
  obtain ⟨h3, cs, h4, h5⟩ := h2 0 c rfl
  refine ⟨g, cap, cs, hv, ?_, ?_, h5, h3, fun j u hu => ?_⟩
  · rw [hv] at he; injection he with _ _ he; rw [he]; exact hc1
  · rw [hv] at he; injection he with _ _ he; rw [he]; exact hc2
  · have h6 := h1.cells (g := g) (by rw [hv]; rfl) _ _ (h4 j u hu)
    have e : (⟨g, 0, none⟩ : Addr).add (0 * 19 + j) = ⟨g, j, none⟩ := by
      rw [Nat.zero_mul, Nat.zero_add]
      by_cases h0 : j = 0
      · rw [h0]; rfl
      · unfold Addr.add; simp [h0]
    rw [e] at h6
    exact h6
/-- What comes next of a message. -/
def fragI (inter : Bool) (most : Nat) (it : It) : Ck :=
  { zeroC (if inter = true then 64 else 0) with bg := decide (it.fr = 0), en := decide (it.m.body.length ≤ most), lo := it.m.lo, st := it.m.st, mid := midF it.m inter, pp := it.m.pp, fr := if inter = true then it.fr else 0, body := it.m.body.take most }
theorem fragI_piece {inter : Bool} {most : Nat} {it : It} (hb : it.bg = decide (it.fr ≠ 0)) : fragI inter most it = pieceI inter most it := by
  unfold fragI pieceI
  rw [hb]
  congr 1
  by_cases h : it.fr = 0 <;> simp [h]
theorem ckOwn_of {gv dv sv pv bv : Value} {cs : Array Value} {c c' : Ck} (h : CkOwn w B cs c) (e : cs = ckArr c gv dv sv pv bv) (h1 : c'.gaps = c.gaps) (h2 : c'.dups = c.dups) (h3 : c'.skips = c.skips) (h4 : c'.ps = c.ps) (h5 : c'.body = c.body) : CkOwn w B (ckArr c' gv dv sv pv bv) c' := by
  obtain ⟨gv', dv', sv', pv', bv', e2, k1, k2, k3, k4, k5⟩ := h
  rw [e] at e2
  have hx : ∀ i : Nat, (ckArr c gv dv sv pv bv)[i]? = (ckArr c gv' dv' sv' pv' bv')[i]? := fun i => by rw [e2]
  have e14 : gv = gv' := Option.some.inj (hx 14)
  have e15 : dv = dv' := Option.some.inj (hx 15)
  have e16 : sv = sv' := Option.some.inj (hx 16)
  have e17 : pv = pv' := Option.some.inj (hx 17)
  have e18 : bv = bv' := Option.some.inj (hx 18)
  exact ⟨gv, dv, sv, pv, bv, rfl, by rw [h1, e14]; exact k1, by rw [h2, e15]; exact k2, by rw [h3, e16]; exact k3, by rw [h4, e17]; exact k4, by rw [h5, e18]; exact k5⟩
set_option maxHeartbeats 16000000 in
theorem frag_s (hv : Hv e w h) (hm : h mb = some (.ms x0)) (ok : x0.it.m.ok) (hne : x0.it.m.body ≠ []) (hl6 : x0.it.m.body.length ≤ 65536) {most : Nat} (h1 : 1 ≤ most) (h2 : most ≤ roomF e.inter) (hfr : x0.it.fr < 4294967296) :
    Calls Try.prog 31 #[qptr mb, .int .i64 (most : Int), .bool e.inter] w fun en w' => (∃ cs, en = .returned (.agg cs) ∧ CkOwn w' w.heap.size cs (fragI e.inter most x0.it)) ∧ Below w.heap.size w w' := by
  have hroom := (roomF_le e.inter).2
  have hbd := hv.bod mb x0 hm
  obtain ⟨inter, hie⟩ : ∃ i, i = e.inter := ⟨_, rfl⟩
  have HIE := Lib.hid hie
  rw [← hie] at h2 hroom ⊢
  obtain ⟨n, hn⟩ : ∃ n, n = x0.it.m.body.length := ⟨_, rfl⟩
  obtain ⟨k, hk⟩ : ∃ k, k = min most n := ⟨_, rfl⟩
  have hn0 : 0 < n := by rw [hn]; exact List.length_pos_iff.2 hne
  have hn6 : n ≤ 65536 := by rw [hn]; exact hl6
  have hcap := hbd.le
  rw [← hn] at hcap
  have hcap2 := hbd.cp
  have hk1 : 1 ≤ k := by omega
  have hkn : k ≤ n := by omega
  have hkm : k ≤ most := by omega
  obtain ⟨m', hm'⟩ : ∃ m' : Msg, m' = { x0.it.m with body := x0.it.m.body.take k } := ⟨_, rfl⟩
  have hlen' : m'.body.length = k := by rw [hm']; show (x0.it.m.body.take k).length = k; rw [List.length_take]; omega
  obtain ⟨mst, hmst⟩ : ∃ x, x = x0.it.m.st := ⟨_, rfl⟩
  obtain ⟨mlo, hmlo⟩ : ∃ x, x = x0.it.m.lo := ⟨_, rfl⟩
  obtain ⟨mmid, hmmid⟩ : ∃ x, x = x0.it.m.mid := ⟨_, rfl⟩
  obtain ⟨mpp, hmpp⟩ : ∃ x, x = x0.it.m.pp := ⟨_, rfl⟩
  obtain ⟨fr, hfre⟩ : ∃ x, x = x0.it.fr := ⟨_, rfl⟩
  obtain ⟨A, hA⟩ : ∃ x, x = x0.A := ⟨_, rfl⟩
  obtain ⟨cp, hcpe⟩ : ∃ x, x = x0.cp := ⟨_, rfl⟩
  rw [← hcpe] at hcap hcap2
  rw [← hfre] at hfr
  have hblk : Blk w mb 97 #[.int .i64 x0.it.id, .int .i64 x0.it.lk, .int .u32 (x0.it.ln : Int), .int .u16 (mst : Int), .bool mlo, .int .u32 (mmid : Int), .int .u32 (mpp : Int), .slice A n cp, .int .u32 (fr : Int), oV x0.s, oV x0.li, oV x0.nl] := by
    rw [hn, hmst, hmlo, hmmid, hmpp, hfre, hA, hcpe]
    exact hv.blk mb _ hm
  have HBLK := Lib.hid hblk
  have HBY : Hid (Byt w w.heap.size A x0.it.m.body) := by rw [hA]; exact hbd.byt
  have HEN : Hid (decide ((k : Int) = (n : Int)) = decide (x0.it.m.body.length ≤ most)) := by
    show _ = _
    rw [← hn]
    exact decide_eq_decide.2 (by omega)
  have HCUT : Hid (∀ {V : World}, Below w.heap.size w V → Calls Try.prog 55 #[.agg #[.int .u16 (mst : Int), .bool mlo, .int .u32 (mmid : Int), .int .u32 (mpp : Int), .slice A k cp], .int .i64 (most : Int), .bool inter] V fun en w' => ∃ v, en = .returned (.tuple #[v, .int .i64 0]) ∧ OwnCks w' V.heap.size v [pieceF m' most inter 0] ∧ Below V.heap.size V w') := fun {V} hV => by
    have hby : Byt V V.heap.size A m'.body := by
      rw [hm']
      exact ((HBY.out.below hV).more hV.size).take_ k
    have hE : cutE m' (most : Int) inter = 0 := by
      unfold cutE
      rw [if_neg (by omega), if_neg (by omega), if_neg (by omega)]
    have hF : cutF m' most inter = [pieceF m' most inter 0] := by
      have hnp : np m'.body.length most = 1 := by
        have a1 := np_lt (n := m'.body.length) (i := 0) h1
        have a2 := not_congr (np_lt (n := m'.body.length) (i := 1) h1)
        omega
      unfold cutF
      rw [hnp]
      rfl
    have hc := cut_c (w := V) (A := A) (n := k) (c := cp) (m := m') (most := (most : Int)) (inter := inter) (by rw [hm']; exact ⟨ok.st, ok.mid, ok.pp⟩) hlen'.symm (by omega) hcap2 hby (by omega)
    have ea : mCells m' (.slice A k cp) = #[.int .u16 (mst : Int), .bool mlo, .int .u32 (mmid : Int), .int .u32 (mpp : Int), .slice A k cp] := by rw [hm', hmst, hmlo, hmmid, hmpp]
    rw [ea] at hc
    refine hc.mono ?_
    rintro en w' ⟨A2, n2, c2, e1, e2, e3, e4, e5, e6⟩
    rw [hE] at e1 e4 e5
    rw [if_pos rfl, Int.toNat_natCast, hF] at e5
    exact ⟨_, e1, e5.out, e6.out⟩
  have HC : Hid (∀ C : Ck, C = { pieceF m' most inter 0 with bg := decide (fr = 0), en := decide ((k : Int) = (n : Int)), fr := if inter = true then fr else 0 } → C = fragI inter most x0.it) := fun C hC => by
    rw [hC, HEN.out]
    unfold fragI pieceF
    rw [hm', hfre]
    have e9 : ((x0.it.m.body.take k).drop (0 * most)).take most = x0.it.m.body.take most := by
      rw [Nat.zero_mul, List.drop_zero, List.take_take, hk]
      rcases Nat.le_total most n with h9 | h9
      · rw [Nat.min_eq_left h9, Nat.min_self]
      · rw [Nat.min_eq_right h9, Nat.min_eq_right h9, hn, List.take_length, List.take_of_length_le (by omega)]
    dsimp only
    rw [e9]
    cases inter <;> rfl
  obtain ⟨W1, hW1⟩ : ∃ W, W = w.alloc (.cells zkA 51) := ⟨_, rfl⟩
  have hb1 : Below w.heap.size w W1 := by rw [hW1]; exact Go.Proofs.Ytkjlmibjpfmfnaa.Fl.below_one w _
  have HB1 := Lib.hid hb1
  have k1 : Blk W1 w.heap.size 51 zkA := by rw [hW1]; exact Blk.new _ _ _
  have HK1 := Lib.hid k1
  obtain ⟨gr, hgr⟩ : ∃ gr, gr = w.heap.size := ⟨_, rfl⟩
  have HGR : Hid (gr = w.heap.size) := hgr
  have hld : ∀ j v, (#[.int .u16 (mst : Int), .bool mlo, .int .u32 (mmid : Int), .int .u32 (mpp : Int), .slice A n cp] : Array Value)[j]? = some v → W1.cell? ((⟨mb, 3, none⟩ : Addr).add j) = some v := fun j v hj => by
    have h9 := (Go.Proofs.Ytkjlmibjpfmfnaa.Fl.blk_below hblk hb1).cell (3 + j)
    have e9 : (⟨mb, 3, none⟩ : Addr).add j = ⟨mb, 3 + j, none⟩ := by
      by_cases h0 : j = 0
      · rw [h0]; rfl
      · unfold Addr.add; simp [h0]
    rw [e9, h9]
    have hj5 : j < 5 := (Array.getElem?_eq_some_iff.1 hj).1
    rcases j with _ | _ | _ | _ | _ | j
    · exact hj
    · exact hj
    · exact hj
    · exact hj
    · exact hj
    · omega
  obtain ⟨W2, hW2⟩ : ∃ W, W = W1.alloc (.cells #[.int .u16 (mst : Int), .bool mlo, .int .u32 (mmid : Int), .int .u32 (mpp : Int), .slice A n cp] 38) := ⟨_, rfl⟩
  obtain ⟨gp, hgp⟩ : ∃ gp, gp = W1.heap.size := ⟨_, rfl⟩
  have hgp1 : gp = w.heap.size + 1 := by rw [hgp, hW1]; exact World.size_alloc _ _
  have HGP : Hid (gp = w.heap.size + 1) := hgp1
  have HB2 : Hid (Below w.heap.size w W2) := by rw [hW2]; exact hb1.alloc (by omega) _
  have k2 : Blk W2 gp 38 #[.int .u16 (mst : Int), .bool mlo, .int .u32 (mmid : Int), .int .u32 (mpp : Int), .slice A n cp] := by rw [hW2, hgp]; exact Blk.new _ _ _
  have HK2 := Lib.hid k2
  have HK12 : Hid (Blk W2 gr 51 zkA) := by rw [hW2, hgr]; exact k1.alloc _
  have c24 : W2.cell? ⟨gp, 4, none⟩ = some (.slice A n cp) := k2.cell 4
  have f24 := k2.frozen 4
  have HNN : Hid (n = x0.it.m.body.length) := hn
  have HKK : Hid (k = min most n) := hk
  clear hv hm ok hne hl6 hbd hie hn hm' hlen' hmst hmlo hmmid hmpp hfre hA hcpe hblk hb1 k1 k2 hgp1
  go_enter Try.func31, Try.ntmps31
  go_upto_region 1 with (with_reducible refine wpList_alloc_run _ rfl 51 rfl (alloc_zk _) ?_)
  rw [← hW1, ← hgr]
  clear hW1 hgr
  go_upto_region 2 with (refine wpList_load_any rfl 38 _ rfl ⟨mb, 3, none⟩ (by first | rfl | simp) #[.int .u16 (mst : Int), .bool mlo, .int .u32 (mmid : Int), .int .u32 (mpp : Int), .slice A n cp] _ hld Try.underlying38 rfl msg_sz ?_)
  rw [← hW2, ← hgp]
  clear hW2 hgp hld
  have hmin : (if n < most then (n : Int) else (most : Int)).toNat = k := by rw [hk]; split <;> omega
  go_upto_region 3 with (fail)
  rw [← hk]
  clear hk
  obtain ⟨W3, hW3⟩ : ∃ W, W = W2.setCell ⟨gp, 4, none⟩ (.slice A k cp) := ⟨_, rfl⟩
  rw [← hW3]
  have hf3 : Fr (fun i => i = gp) W2 W3 := by rw [hW3]; exact fr_set _
  have k3 : Blk W3 gp 38 #[.int .u16 (mst : Int), .bool mlo, .int .u32 (mmid : Int), .int .u32 (mpp : Int), .slice A k cp] := by rw [hW3]; exact HK2.out.set_ 4 _
  have HB3 : Hid (Below w.heap.size w W3) := below_fr HB2.out hf3 (Nat.le_refl _) fun i hi => by have e9 : i = gp := hi; have := HGP.out; omega
  have HK13 : Hid (Blk W3 gr 51 zkA) := hf3.blk HK12.out (fun e9 => by have e9' : gr = gp := e9; have := HGP.out; have := HGR.out; omega)
  have hld3 : ∀ j v, (#[.int .u16 (mst : Int), .bool mlo, .int .u32 (mmid : Int), .int .u32 (mpp : Int), .slice A k cp] : Array Value)[j]? = some v → W3.cell? ((⟨gp, 0, none⟩ : Addr).add j) = some v := fun j v hj => by rw [k3.cellAdd]; exact hj
  have HK3 := Lib.hid k3
  clear hW3 hf3 k3 c24 f24 hmin
  go_upto_region 4 with (first
    | (refine wpList_load_any rfl 38 _ rfl ⟨gp, 0, none⟩ (by first | rfl | simp) #[.int .u16 (mst : Int), .bool mlo, .int .u32 (mmid : Int), .int .u32 (mpp : Int), .slice A k cp] _ hld3 Try.underlying38 rfl msg_sz ?_)
    | (go_at_call 55; refine (HCUT.out HB3.out).mono ?_; rintro en W4 ⟨v4, rfl, ho4, hb4⟩; obtain ⟨g4, c4, cs4, rfl, hc41, hc42, how4, hok4, hrd4⟩ := first_own ho4))
  have HB4 : Hid (Below w.heap.size w W4) := HB3.out.trans (hb4.mono HB3.out.size)
  have HK14 : Hid (Blk W4 gr 51 zkA) := Go.Proofs.Ytkjlmibjpfmfnaa.Fl.blk_below HK13.out hb4
  have HK4 : Hid (Blk W4 gp 38 #[.int .u16 (mst : Int), .bool mlo, .int .u32 (mmid : Int), .int .u32 (mpp : Int), .slice A k cp]) := Go.Proofs.Ytkjlmibjpfmfnaa.Fl.blk_below HK3.out hb4
  have hld4 : ∀ j v, cs4[j]? = some v → W4.cell? ((⟨g4, 0, none⟩ : Addr).add j) = some v := fun j v hj => by
    have e9 : (⟨g4, 0, none⟩ : Addr).add j = ⟨g4, j, none⟩ := by
      by_cases h0 : j = 0
      · rw [h0]; rfl
      · unfold Addr.add; simp [h0]
    rw [e9]
    exact hrd4 j v hj
  have HSZ : Hid ((Try.prog.info? 51).map (·.size) = some cs4.size) := by show _ = _; rw [how4.size]; exact chunk_info
  have HSZ2 : Hid (zkA.size = cs4.size) := by show _ = _; rw [how4.size]; rfl
  have HON := Lib.hid (own_one how4)
  have HOW4 : Hid (CkOwn W4 w.heap.size cs4 (pieceF m' most inter 0)) := how4.mono HB3.out.size
  have HOW4b : Hid (CkOwn W4 W3.heap.size cs4 (pieceF m' most inter 0)) := how4
  have HGL4 : Hid (W3.heap.size ≤ W4.heap.size) := hb4.size
  have HG3 : Hid (gp < W3.heap.size) := HK3.out.lt
  obtain ⟨g10, hg10⟩ : ∃ g, g = W4.heap.size := ⟨_, rfl⟩
  have HG10 : Hid (g10 = W4.heap.size) := hg10
  obtain ⟨W5, hW5⟩ : ∃ W, W = (W4.alloc (.cells zkA 51)).setRow g10 cs4 := ⟨_, rfl⟩
  have kz : Blk (W4.alloc (.cells zkA 51)) g10 51 zkA := by rw [hg10]; exact Blk.new _ _ _
  have hc41' : ¬ (c4 : Int) < 1 := by omega
  clear ho4 hb4 hrd4 hok4 how4 hld3 hc41
  go_upto_region 5 with (first
    | (refine wpList_load_any rfl 51 _ rfl ⟨g4, 0, none⟩ (by first | rfl | simp) cs4 _ hld4 Try.underlying51 rfl HSZ.out ?_)
    | (with_reducible refine wpList_alloc_run _ rfl 51 rfl (alloc_zk _) ?_; rw [← hg10])
    | (refine wpList_store_row rfl 51 _ _ rfl g10 cs4 rfl rfl 51 zkA kz HSZ.out HSZ2.out HON.out ?_))
  rw [← hW5]
  have hb45 : Below W4.heap.size W4 W5 := by
    rw [hW5]
    exact below_setRow (Go.Proofs.Ytkjlmibjpfmfnaa.Fl.below_one W4 _) (by rw [hg10]; exact Nat.le_refl _) _
  have kc5 : CkBlk W5 g10 cs4 := by rw [hW5]; exact setRow_heap _ _ _ _ _ _ kz
  have HB45 := Lib.hid hb45
  have HB5 : Hid (Below w.heap.size w W5) := HB4.out.trans (hb45.mono HB4.out.size)
  have HK15 : Hid (Blk W5 gr 51 zkA) := Go.Proofs.Ytkjlmibjpfmfnaa.Fl.blk_below HK14.out hb45
  have HK5 : Hid (Blk W5 gp 38 #[.int .u16 (mst : Int), .bool mlo, .int .u32 (mmid : Int), .int .u32 (mpp : Int), .slice A k cp]) := Go.Proofs.Ytkjlmibjpfmfnaa.Fl.blk_below HK4.out hb45
  have HOW5 : Hid (CkOwn W5 w.heap.size cs4 (pieceF m' most inter 0)) := HOW4.out.fr (Fr.of_below hb45) (fun i h1 h2 => by omega)
  have HO5L : Hid (∀ g t z v xs, g10 = g → W5.ownsRow w.heap.size t z v z xs → True) := fun _ _ _ _ _ _ _ => trivial
  obtain ⟨P, hP⟩ : ∃ P, P = pieceF m' most inter 0 := ⟨_, rfl⟩
  have HP : Hid (P = pieceF m' most inter 0) := hP
  rw [← hP] at HOW5
  obtain ⟨gv, dv, sv, pv, bv, hcs, _⟩ := HOW5.out
  have HCS : Hid (cs4 = ckArr P gv dv sv pv bv) := hcs
  have HKC5 : Hid (CkBlk W5 g10 (ckArr P gv dv sv pv bv)) := by show CkBlk _ _ _; rw [← hcs]; exact kc5
  have HKM5 := Lib.hid (Go.Proofs.Ytkjlmibjpfmfnaa.Fl.blk_below HBLK.out HB5.out)
  have c8 : W5.cell? ⟨mb, 8, none⟩ = some (.int .u32 (fr : Int)) := HKM5.out.cell 8
  have d1 : W5.cell? ⟨g10, 1, none⟩ = some (.bool P.bg) := HKC5.out.cell 1
  have f1 := Blk.frozen HKC5.out 1
  clear hW5 hb45 kc5 kz hg10 hld4 hP hcs HO5L
  go_upto_region 6 with (fail)
  obtain ⟨W6, hW6⟩ : ∃ W, W = W5.setCell ⟨g10, 1, none⟩ (.bool ((fr : Int) == 0)) := ⟨_, rfl⟩
  rw [← hW6]
  have hbe : ((fr : Int) == 0) = decide (fr = 0) := by
    by_cases h : fr = 0
    · rw [h]; rfl
    · rw [decide_eq_false h]; exact beq_no (by omega)
  have HKC6 : Hid (CkBlk W6 g10 (ckArr { P with bg := decide (fr = 0) } gv dv sv pv bv)) := by rw [hW6, hbe]; exact set_bg HKC5.out _
  have HF6 : Hid (Fr (fun i => i = g10) W5 W6) := by rw [hW6]; exact fr_set _
  have hg10 : mb < w.heap.size := HBLK.out.lt
  have e7 : W6.cell? ⟨mb, 7, none⟩ = some (.slice A n cp) := (HF6.out.blk HKM5.out (fun e9 => by have e9' : mb = g10 := e9; have := HG10.out; have := HB4.out.size; omega)).cell 7
  have e4 : W6.cell? ⟨gp, 4, none⟩ = some (.slice A k cp) := (HF6.out.blk HK5.out (fun e9 => by have e9' : gp = g10 := e9; have := HG10.out; have := HG3.out; have := HGL4.out; omega)).cell 4
  have e8 : W6.cell? ⟨mb, 8, none⟩ = some (.int .u32 (fr : Int)) := (HF6.out.blk HKM5.out (fun e9 => by have e9' : mb = g10 := e9; have := HG10.out; have := HB4.out.size; omega)).cell 8
  have d2 : W6.cell? ⟨g10, 2, none⟩ = some (.bool P.en) := HKC6.out.cell 2
  have f2 := Blk.frozen HKC6.out 2
  clear hW6 hbe c8 d1 f1
  go_region
  obtain ⟨W7, hW7⟩ : ∃ W, W = (W6.setCell ⟨g10, 2, none⟩ (.bool ((k : Int) == (n : Int)))).drew := ⟨_, rfl⟩
  rw [← hW7]
  have hbe : ((k : Int) == (n : Int)) = decide ((k : Int) = (n : Int)) := by
    by_cases h : (k : Int) = (n : Int)
    · rw [h]; simp
    · rw [decide_eq_false h]; exact beq_no h
  have HKC7 : Hid (CkBlk W7 g10 (ckArr { P with bg := decide (fr = 0), en := decide ((k : Int) = (n : Int)) } gv dv sv pv bv)) := by
    have h9 := set_en HKC6.out (decide ((k : Int) = (n : Int)))
    rw [hW7, hbe]
    exact h9
  have HF7 : Hid (Fr (fun i => i = g10) W5 W7) := by rw [hW7]; exact HF6.out.same (fr_set _).drew
  have e87 : W7.cell? ⟨mb, 8, none⟩ = some (.int .u32 (fr : Int)) := (HF7.out.blk HKM5.out (fun e9 => by have e9' : mb = g10 := e9; have := HG10.out; have := HB4.out.size; omega)).cell 8
  have d9 : W7.cell? ⟨g10, 9, none⟩ = some (.int .u32 (P.fr : Int)) := HKC7.out.cell 9
  have f9 := Blk.frozen HKC7.out 9
  clear hW7 hbe e7 e4 e8 d2 f2
  cases inter
  · go_upto_region 9 with (fail)
    obtain ⟨W8, hW8⟩ : ∃ W, W = W7 := ⟨_, rfl⟩
    rw [← hW8]
    obtain ⟨C, hC⟩ : ∃ C : Ck, C = { P with bg := decide (fr = 0), en := decide ((k : Int) = (n : Int)), fr := if false = true then fr else 0 } := ⟨_, rfl⟩
    have HCE := Lib.hid hC
    have hPf : P.fr = 0 := by rw [HP.out]; rfl
    have HKC8 : Hid (CkBlk W8 g10 (ckArr C gv dv sv pv bv)) := by
      have h9 := HKC7.out
      rw [hW8, hC]
      have e9 : ({ P with bg := decide (fr = 0), en := decide ((k : Int) = (n : Int)) } : Ck) = { P with bg := decide (fr = 0), en := decide ((k : Int) = (n : Int)), fr := if false = true then fr else 0 } := by
        obtain ⟨⟩ := P
        simp only at hPf
        subst hPf
        rfl
      rw [← e9]
      exact h9
    have HF8 : Hid (Fr (fun i => i = g10) W5 W8) := by rw [hW8]; exact HF7.out
    have HK18 : Hid (Blk W8 gr 51 zkA) := HF8.out.blk HK15.out (fun e9 => by have e9' : gr = g10 := e9; have := HG10.out; have := HGR.out; have := HGP.out; have := HG3.out; have := HGL4.out; omega)
    have HON8 : Hid ((ckArr C gv dv sv pv bv).all (·.oneCell') = true) := own_one (ckOwn_of (c' := C) HOW5.out HCS.out (by rw [HCE.out]) (by rw [HCE.out]) (by rw [HCE.out]) (by rw [HCE.out]) (by rw [HCE.out]))
    clear hW8 hC e87 d9 f9
    go_wp2_with (first
      | (refine wpList_load_row rfl 51 _ rfl g10 rfl 51 (ckArr C gv dv sv pv bv) (0, 0) _ HKC8.out Try.underlying51 rfl chunk_info ?_)
      | (refine wpList_store_row rfl 51 _ _ rfl gr (ckArr C gv dv sv pv bv) rfl rfl 51 zkA HK18.out chunk_info rfl HON8.out ?_))
    all_goals
      (try simp only [Exit.inBlock, Exit.then])
      refine bodyPost_ret (results_cell_row rfl _ _ gr 51 (ckArr C gv dv sv pv bv) (0, 0) _ rfl (setRow_blk HK18.out) Try.underlying51 rfl chunk_info) rfl ?_
      have hfin : Fr (fun i => i = g10 ∨ i = gr) W5 (W8.setRow gr (ckArr C gv dv sv pv bv)) := (HF8.out.mono fun _ _ h => .inl h).trans (setRow_fr W8 gr (ckArr C gv dv sv pv bv)) (fun _ _ h => .inr h)
      have hB9 : Below w.heap.size w (W8.setRow gr (ckArr C gv dv sv pv bv)) := below_fr HB5.out hfin (Nat.le_refl _) fun i hi => by
        have := HGR.out; have := HG10.out; have := HB4.out.size
        rcases hi with e9 | e9 <;> omega
      refine ⟨⟨_, rfl, ?_⟩, hB9⟩
      have hCe := HC.out C (by rw [← HP.out]; exact HCE.out)
      rw [← hCe]
      have h9 : CkOwn (W8.setRow gr (ckArr C gv dv sv pv bv)) w.heap.size cs4 P := by
        obtain ⟨gv', dv', sv', pv', bv', e2, k1, k2, k3, ⟨ys, k4, k4b⟩, k5⟩ := HOW4b.out
        have ho : ∀ {t : TypeId} {size n : Nat} {v : Value} {xs : List Value}, W4.ownsRow W3.heap.size t size v n xs → (W8.setRow gr (ckArr C gv dv sv pv bv)).ownsRow w.heap.size t size v n xs := fun hx => by
          have hx5 := (Fr.of_below HB45.out).own hx (fun g hg hi => by have := (hx.lt g hg).2; omega)
          refine own_mono (hfin.own hx5 fun g hg hi => ?_) HB3.out.size
          have a1 := hx.lt g hg
          have := HGP.out; have := HGR.out; have := HG10.out; have := HG3.out
          rcases hi with e9 | e9 <;> omega
        refine ⟨gv', dv', sv', pv', bv', by rw [e2, HP.out], ?_, ?_, ?_, ⟨ys, ?_, fun i q hq => ?_⟩, ?_⟩
        · rw [HP.out]; exact ho k1
        · rw [HP.out]; exact ho k2
        · rw [HP.out]; exact ho k3
        · rw [HP.out]; exact ho k4
        · rw [HP.out] at hq
          obtain ⟨q1, a, c, q2, q3, q4, q5, q6⟩ := k4b i q hq
          exact ⟨q1, a, c, q2, q3, q4, q5, ho q6⟩
        · rw [HP.out]; exact ho k5
      exact ckOwn_of h9 HCS.out (by rw [HCE.out]) (by rw [HCE.out]) (by rw [HCE.out]) (by rw [HCE.out]) (by rw [HCE.out])
  · go_upto_region 9 with (fail)
    obtain ⟨W8, hW8⟩ : ∃ W, W = W7.setCell ⟨g10, 9, none⟩ (.int .u32 (fr : Int)) := ⟨_, rfl⟩
    rw [← hW8]
    obtain ⟨C, hC⟩ : ∃ C : Ck, C = { P with bg := decide (fr = 0), en := decide ((k : Int) = (n : Int)), fr := if true = true then fr else 0 } := ⟨_, rfl⟩
    have HCE := Lib.hid hC
    have HKC8 : Hid (CkBlk W8 g10 (ckArr C gv dv sv pv bv)) := by
      rw [hW8, hC]
      exact set_fr HKC7.out fr
    have HF8 : Hid (Fr (fun i => i = g10) W5 W8) := by rw [hW8]; exact HF7.out.same (fr_set _)
    have HK18 : Hid (Blk W8 gr 51 zkA) := HF8.out.blk HK15.out (fun e9 => by have e9' : gr = g10 := e9; have := HG10.out; have := HGR.out; have := HGP.out; have := HG3.out; have := HGL4.out; omega)
    have HON8 : Hid ((ckArr C gv dv sv pv bv).all (·.oneCell') = true) := own_one (ckOwn_of (c' := C) HOW5.out HCS.out (by rw [HCE.out]) (by rw [HCE.out]) (by rw [HCE.out]) (by rw [HCE.out]) (by rw [HCE.out]))
    clear hW8 hC e87 d9 f9
    go_wp2_with (first
      | (refine wpList_load_row rfl 51 _ rfl g10 rfl 51 (ckArr C gv dv sv pv bv) (0, 0) _ HKC8.out Try.underlying51 rfl chunk_info ?_)
      | (refine wpList_store_row rfl 51 _ _ rfl gr (ckArr C gv dv sv pv bv) rfl rfl 51 zkA HK18.out chunk_info rfl HON8.out ?_))
    all_goals
      (try simp only [Exit.inBlock, Exit.then])
      refine bodyPost_ret (results_cell_row rfl _ _ gr 51 (ckArr C gv dv sv pv bv) (0, 0) _ rfl (setRow_blk HK18.out) Try.underlying51 rfl chunk_info) rfl ?_
      have hfin : Fr (fun i => i = g10 ∨ i = gr) W5 (W8.setRow gr (ckArr C gv dv sv pv bv)) := (HF8.out.mono fun _ _ h => .inl h).trans (setRow_fr W8 gr (ckArr C gv dv sv pv bv)) (fun _ _ h => .inr h)
      have hB9 : Below w.heap.size w (W8.setRow gr (ckArr C gv dv sv pv bv)) := below_fr HB5.out hfin (Nat.le_refl _) fun i hi => by
        have := HGR.out; have := HG10.out; have := HB4.out.size
        rcases hi with e9 | e9 <;> omega
      refine ⟨⟨_, rfl, ?_⟩, hB9⟩
      have hCe := HC.out C (by rw [← HP.out]; exact HCE.out)
      rw [← hCe]
      have h9 : CkOwn (W8.setRow gr (ckArr C gv dv sv pv bv)) w.heap.size cs4 P := by
        obtain ⟨gv', dv', sv', pv', bv', e2, k1, k2, k3, ⟨ys, k4, k4b⟩, k5⟩ := HOW4b.out
        have ho : ∀ {t : TypeId} {size n : Nat} {v : Value} {xs : List Value}, W4.ownsRow W3.heap.size t size v n xs → (W8.setRow gr (ckArr C gv dv sv pv bv)).ownsRow w.heap.size t size v n xs := fun hx => by
          have hx5 := (Fr.of_below HB45.out).own hx (fun g hg hi => by have := (hx.lt g hg).2; omega)
          refine own_mono (hfin.own hx5 fun g hg hi => ?_) HB3.out.size
          have a1 := hx.lt g hg
          have := HGP.out; have := HGR.out; have := HG10.out; have := HG3.out
          rcases hi with e9 | e9 <;> omega
        refine ⟨gv', dv', sv', pv', bv', by rw [e2, HP.out], ?_, ?_, ?_, ⟨ys, ?_, fun i q hq => ?_⟩, ?_⟩
        · rw [HP.out]; exact ho k1
        · rw [HP.out]; exact ho k2
        · rw [HP.out]; exact ho k3
        · rw [HP.out]; exact ho k4
        · rw [HP.out] at hq
          obtain ⟨q1, a, c, q2, q3, q4, q5, q6⟩ := k4b i q hq
          exact ⟨q1, a, c, q2, q3, q4, q5, ho q6⟩
        · rw [HP.out]; exact ho k5
      exact ckOwn_of h9 HCS.out (by rw [HCE.out]) (by rw [HCE.out]) (by rw [HCE.out]) (by rw [HCE.out]) (by rw [HCE.out])
end
end Go.Proofs.Ytkjlmibjpfmfnaa.Sc
