/-
  Of the texts Fr: what the laws reach.
-/
import Derived.Test.YtkjlmibjpfmfnaaSA4
import Derived.Test.YtkjlmibjpfmfnaaSA13
import Derived.Great.BuildSlice

set_option linter.unusedVariables false
set_option linter.unusedSimpArgs false
namespace Go.Proofs.Ytkjlmibjpfmfnaa.Chk
attribute [local go_sem] Oper.semAt_some
open Go.ChangeShapes Go.WideShapes Go.ChangeAt Go.RowKit Go.Deep Go.Proofs.Ytkjlmibjpfmfnaa.Words Go.Proofs.Ytkjlmibjpfmfnaa.Oct Go.Proofs.Ytkjlmibjpfmfnaa.Par
theorem room_c : RoomC := by
  intro w b
  cases b
  all_goals
    go_enter Try.func29, Try.ntmps29
    go_wp2_with fail
    go_ret
    exact ⟨rfl, rfl⟩
set_option maxHeartbeats 1000000 in
theorem bclone_as (A : Option Addr) (l : List UInt8) (n c : Nat) (w : World) (hn : n = l.length) (hl : n ≤ 1000000) (h : Byt w w.heap.size A l) :
    Calls Try.prog 26 #[.slice A n c] w fun e w' => (∃ v, e = .returned v ∧ Words.Own w' w.heap.size v l) ∧ Below w.heap.size w w' := by
  obtain ⟨i0, hi0, hz0, hz1, hz2⟩ := info_parts3 u8_info
  have hnil := fun (W : World) (a : Option Addr) (n c : Nat) => Lib.run_eql_slice_nil (P := Try.prog) W 36 5 a n c 0 0 Try.underlying36
  rcases A with _ | ad
  · have h0 : l = [] := by
      rcases Nat.eq_zero_or_pos l.length with h0 | h0
      · exact List.eq_nil_of_length_eq_zero h0
      · obtain ⟨ad, e, _⟩ := h.2 h0; cases e
    subst h0
    go_enter Try.func26, Try.ntmps26
    go_wp2
    go_ret
    exact ⟨⟨_, rfl, World.ownsRow_nil _ _ _ _⟩, Below.refl _ _⟩
  · have HB := Lib.hid h
    have HN := Lib.hid hn
    clear h hn
    go_enter Try.func26, Try.ntmps26
    go_wp2_with (at_builtin; refine wpList_append_any _ rfl (.tmp 5) (.tmp 6) _ rfl w.heap.size 5 i0 _ 1 1 Try.underlying36 hi0 hz0 hz1 hz2 rfl (by omega) (.slice (some ⟨w.heap.size, 0, none⟩) 0 0) 0 [] rfl (own_empty w _) w.heap.size (some ad) n c (u8s l) rfl (by have := HB.out; unfold Byt at this; rw [← HN.out] at this; exact this.alloc (Nat.le_refl _) _) (u8s_one l) (by simp only [maxLen]; omega) (by omega) (by simp) ?_; intro v1 w1 hown1 hg1 hat1)
    go_ret
    refine ⟨⟨v1, rfl, ?_⟩, ?_⟩
    · simp only [Nat.zero_add, List.nil_append] at hown1
      unfold Words.Own
      rw [← HN.out]
      exact hown1
    · exact ((Below.refl _ _).alloc (Nat.le_refl _) _).grown hg1 (by simp) (fun b e => by simp [Value.ownBlock] at e; omega)
theorem exec_build {P : Program} {ρ : Operand → Value} {o : Oper} {w : World} {t : TypeId} {parts : Array (Nat × Operand)} {cells : Array Value} (ho : o.op = .build t parts) (hf : P.built t (parts.map fun (i, x) => (i, ρ x)).toList = some cells) :
    (execOp ρ o).run P w = .ok (.value (.agg cells)) w := by
  unfold execOp
  simp only [ho, Sem.run_bind, run_build w t _ cells hf, Result.andThen_ok, Sem.run_pure]
theorem exec_build6 {P : Program} {ρ : Operand → Value} {o : Oper} {w : World} (t : TypeId) {x0 x3 x6 x7 x8 x18 : Operand} (ho : o.op = .build t #[(0, x0), (3, x3), (6, x6), (7, x7), (8, x8), (18, x18)]) (v0 v3 v6 v7 v8 v18 : Value)
    (h0 : ρ x0 = v0) (h3 : ρ x3 = v3) (h6 : ρ x6 = v6) (h7 : ρ x7 = v7) (h8 : ρ x8 = v8) (h18 : ρ x18 = v18) (cells : Array Value) (hf : P.built t [(0, v0), (3, v3), (6, v6), (7, v7), (8, v8), (18, v18)] = some cells) :
    (execOp ρ o).run P w = .ok (.value (.agg cells)) w := by
  subst h0 h3 h6 h7 h8 h18
  exact exec_build ho (by simpa using hf)
theorem exec_buildSlice {P : Program} {ρ : Operand → Value} {o : Oper} {w : World} (t e : TypeId) (len : Nat) (parts : Array (Nat × Operand)) (ho : o.op = .buildSlice t len parts) (cells : Array Value) (ie : TypeInfo) (z : Value)
    (hu : P.underlying t = some (.slice e)) (hie : P.info? e = some ie) (hz : ie.zero = some z) (hsmall : ¬ len * ie.size > 2 ^ 24) (hpos : ¬ len * ie.size = 0)
    (hf : Instr.fill (fun i => some (i * ie.size, ie.size)) ((Array.range (len * ie.size)).map (z.cells[· % z.cells.size]!)) (parts.map fun (i, x) => (i, ρ x)).toList = some cells) :
    (execOp ρ o).run P w = .ok (.value (.slice (some ⟨w.heap.size, 0, none⟩) len len)) (w.alloc (.cells cells e)) := by
  unfold execOp
  simp only [ho, Sem.run_bind, run_buildSlice w t e len _ cells ie z hu hie hz hsmall hpos hf, Result.andThen_ok, Sem.run_pure]
theorem exec_slice_ck {ρ : Operand → Value} {o : Oper} {w : World} (x : Operand) (ho : o.op = .buildSlice 55 1 #[(0, x)]) (cs : Array Value) (hx : ρ x = .agg cs) (hcs : ∃ c gv dv sv pv bv, cs = ckArr c gv dv sv pv bv) :
    (execOp ρ o).run Try.prog w = .ok (.value (.slice (some ⟨w.heap.size, 0, none⟩) 1 1)) (w.alloc (.cells cs 51)) := by
  obtain ⟨c, gv, dv, sv, pv, bv, rfl⟩ := hcs
  obtain ⟨i, hi, hz, hs, _⟩ := info_parts3 chunk_info3
  refine exec_buildSlice 55 51 1 #[(0, x)] ho (ckArr c gv dv sv pv bv) i (.agg zeroA) Try.underlying55 hi hz (by rw [hs]; decide) (by rw [hs]; decide) ?_
  rw [hs]
  have e : ((#[(0, x)] : Array (Nat × Operand)).map fun (i, x) => (i, ρ x)).toList = [(0, .agg (ckArr c gv dv sv pv bv))] := by simp [hx]
  rw [e]
  exact fill_ck c gv dv sv pv bv
theorem exec_alloc_ck {ρ : Operand → Value} {o : Oper} {w : World} (ho : o.op = .alloc 51) : (execOp ρ o).run Try.prog w = .ok (.value (.pointer (some ⟨w.heap.size, 0, none⟩))) (w.alloc (.cells zeroA 51)) := by
  have h : ∀ W, (Instr.alloc 51 true (.tuple #[])).run Try.prog W = .ok (.pointer (some ⟨W.heap.size, 0, none⟩)) (W.alloc (.cells zeroA 51)) := fun W => by
    obtain ⟨i, hi, hz, hs, _⟩ := info_parts3 chunk_info3
    go_simp
    rfl
  unfold execOp
  simp [ho, h]
/-- The parts of a fragment, but its kind. -/
theorem frag_built (lo : Bool) (st mid pp : Nat) (b : List UInt8) (A : Option Addr) (n c : Nat) : Try.prog.built 51 [(0, .int .u8 0), (3, .bool lo), (6, .int .u16 (st : Int)), (7, .int .u32 (mid : Int)), (8, .int .u32 (pp : Int)), (18, .slice A n c)] = some (ckArr { zeroC 0 with lo := lo, st := st, mid := mid, pp := pp, body := b } nilV nilV nilV nilV (.slice A n c)) := by kernel_rfl
/-- The cells of a chunk that has a body alone, as a value. -/
def FrV (B : Nat) (C : Ck) (l : List UInt8) (v : Value) (W : World) : Prop := ∃ bv, v = .agg (ckArr C nilV nilV nilV nilV bv) ∧ Words.Own W B bv l
theorem FrV.grows {B : Nat} {C : Ck} {l : List UInt8} {v : Value} {W W' : World} (h : FrV B C l v W) (k : Below W.heap.size W W') : FrV B C l v W' := by
  obtain ⟨bv, rfl, h1⟩ := h
  exact ⟨bv, rfl, (Fr.of_below k).own h1 (fun g hg hi => by have := (h1.lt g hg).2; omega)⟩
theorem own_ne {w : World} {B g : Nat} {v : Value} {l : List UInt8} {cs : Array Value} (h : Words.Own w B v l) (hb : CkBlk w g cs) : ∀ b, v.ownBlock = some b → b ≠ g := by
  rintro b hv rfl
  rcases h.2 with ⟨hh, _⟩ | ⟨g', cap, cur, h1, h2, h3, h4⟩
  · rw [hh] at hv
    simp [Value.ownBlock] at hv
  · subst h1
    simp only [Value.ownBlock, Option.some.injEq] at hv
    subst hv
    have h5 : w.heap[g']? = some (.cells cs 51 (0, 0)) := hb
    rw [h3] at h5
    injection h5 with h5
    injection h5 with _ h6
    exact absurd h6 (by decide)
/-- A chunk's variable, just made. -/
def ZroC (B : Nat) (v : Value) (W : World) : Prop := ∃ g, v = .pointer (some ⟨g, 0, none⟩) ∧ B ≤ g ∧ CkBlk W g zeroA
theorem ZroC.grows {B : Nat} {v : Value} {W W' : World} (h : ZroC B v W) (k : Below W.heap.size W W') : ZroC B v W' := by
  obtain ⟨g, rfl, h1, h2⟩ := h
  exact ⟨g, rfl, h1, h2.below k h2.lt⟩
theorem below_one (w : World) (o : Obj) : Below w.heap.size w (w.alloc o) := (Below.refl _ _).alloc (Nat.le_refl _) _
def OwnV (B : Nat) (l : List UInt8) (v : Value) (W : World) : Prop := Words.Own W B v l
theorem OwnV.grows {B : Nat} {l : List UInt8} {v : Value} {W W' : World} (h : OwnV B l v W) (k : Below W.heap.size W W') : OwnV B l v W' := by
  have h' : Words.Own W B v l := h
  exact (Fr.of_below k).own h' (fun g hg hi => by have := (h'.lt g hg).2; omega)
/-- What fragment answers. -/
def fragC (m : Msg) (i : Nat) (l : List UInt8) (inter : Bool) : Ck := { zeroC (if inter = true then 64 else 0) with lo := m.lo, st := m.st, mid := midF m inter, pp := m.pp, fr := if inter = true then i else 0, body := l }
set_option maxHeartbeats 8000000 in
set_option maxRecDepth 100000 in
theorem fragment_any {w : World} {A A0 : Option Addr} {n c n0 c0 i : Nat} {l : List UInt8} {m : Msg} {inter : Bool} (ok : m.ok) (hi : i < 4294967296) (hn : n = l.length) (hl6 : n ≤ 1000000) (hy : Byt w w.heap.size A l) :
    Calls Try.prog 71 #[.agg (mCells m (.slice A0 n0 c0)), .int .i64 (i : Int), .slice A n c, .bool inter] w fun e w' => (∃ cs, e = .returned (.agg cs) ∧ CkOwn w' w.heap.size cs (fragC m i l inter)) ∧ Below w.heap.size w w' := by
  have st1 := ok.st
  have mid1 := ok.mid
  have pp1 := ok.pp
  have HY := Lib.hid hy
  have HN := Lib.hid hn
  obtain ⟨mst, hst⟩ : ∃ x, x = m.st := ⟨_, rfl⟩
  obtain ⟨mlo, hlo⟩ : ∃ x, x = m.lo := ⟨_, rfl⟩
  obtain ⟨mmid, hmid⟩ : ∃ x, x = m.mid := ⟨_, rfl⟩
  obtain ⟨mpp, hpp⟩ : ∃ x, x = m.pp := ⟨_, rfl⟩
  have HFC : Hid (fragC m i l inter = { zeroC (if inter = true then 64 else 0) with lo := mlo, st := mst, mid := (if inter = true then mmid else mmid % 65536), pp := mpp, fr := if inter = true then i else 0, body := l }) := by
    show fragC m i l inter = _
    rw [hst, hlo, hmid, hpp]
    rfl
  simp only [mCells, ← hst, ← hlo, ← hmid, ← hpp]
  rw [← hst] at st1
  rw [← hmid] at mid1
  rw [← hpp] at pp1
  obtain ⟨W1, hW1⟩ : ∃ W1, W1 = (w.alloc (.cells #[.int .u16 (mst : Int), .bool mlo, .int .u32 (mmid : Int), .int .u32 (mpp : Int), .slice A0 n0 c0] TM)).alloc (.cells zeroA 51) := ⟨_, rfl⟩
  obtain ⟨gm, hgm⟩ : ∃ g, g = w.heap.size := ⟨_, rfl⟩
  have HB1 : Hid (Below w.heap.size w W1) := by rw [hW1]; exact ((Below.refl _ w).alloc (Nat.le_refl _) _).alloc (by simp) _
  have HM1 : Hid (Blk W1 gm TM #[.int .u16 (mst : Int), .bool mlo, .int .u32 (mmid : Int), .int .u32 (mpp : Int), .slice A0 n0 c0]) := by
    rw [hW1, hgm]
    exact (Blk.new w _ _).below (below_one _ _) (by simp)
  have HR1 : Hid (CkBlk W1 (gm + 1) zeroA) := by
    rw [hW1, hgm]
    have := Blk.new (w.alloc (.cells #[.int .u16 (mst : Int), .bool mlo, .int .u32 (mmid : Int), .int .u32 (mpp : Int), .slice A0 n0 c0] TM)) 51 zeroA
    rw [World.size_alloc] at this
    exact this
  have HSZ1 : Hid (W1.heap.size = gm + 2) := by show _ = _; rw [hW1, hgm]; simp
  have HGM := Lib.hid hgm
  clear hst hlo hmid hpp ok hy hn
  go_enter Try.func71, Try.ntmps71
  go_upto_region 1 with (fail)
  have hW2 : W1 = (w.alloc (.cells #[.int .u16 (mst : Int), .bool mlo, .int .u32 (mmid : Int), .int .u32 (mpp : Int), .slice A0 n0 c0] 38)).alloc (.cells #[.int .u8 0, .bool false, .bool false, .bool false, .bool false, .int .u32 0, .int .u16 0, .int .u32 0, .int .u32 0, .int .u32 0, .int .u32 0, .int .u32 0, .int .u16 0, .int .u16 0, .slice none 0 0, .slice none 0 0, .slice none 0 0, .slice none 0 0, .slice none 0 0] 51) := hW1
  rw [← hW2]
  rw [show (w.heap.size + 1 : Nat) = gm + 1 by rw [hgm], ← hgm]
  clear hW1 hW2 hgm
  have HST : Hid (Below W1.heap.size W1 W1.drew) := Below.drew (Below.refl _ _)
  have HCM : Hid (∀ V, Below W1.heap.size W1 V → V.cell? ⟨gm, 0, none⟩ = some (.int .u16 (mst : Int)) ∧ V.cell? ⟨gm, 1, none⟩ = some (.bool mlo) ∧ V.cell? ⟨gm, 2, none⟩ = some (.int .u32 (mmid : Int)) ∧ V.cell? ⟨gm, 3, none⟩ = some (.int .u32 (mpp : Int))) := fun V h => by
    have := blk_below HM1.out h HM1.out.lt
    exact ⟨this.cell 0, this.cell 1, this.cell 2, this.cell 3⟩
  have HBY : Hid (∀ V, Below W1.heap.size W1 V → Byt V V.heap.size A l) := fun V h => by
    have hb := HB1.out.trans (h.mono HB1.out.size)
    exact (HY.out.below hb).more hb.size
  refine wp_region_stage_tail 12 (fun _ V V' => Below V.heap.size V V') (fun m V => Hid (Below W1.heap.size W1 V)) [(false, .exact (.pointer (some ⟨gm, 1, none⟩))),
      (false, .exact (.bool mlo)),
      (false, .exact (.pointer (some ⟨gm, 0, none⟩))),
      (false, .exact (.int .u16 (mst : Int))),
      (false, .exact (.pointer (some ⟨gm, 2, none⟩))),
      (false, .exact (.int .u32 (mmid : Int))),
      (false, .exact (.pointer (some ⟨gm, 3, none⟩))),
      (false, .exact (.int .u32 (mpp : Int))),
      (false, .exact (.slice A n c)),
      (false, .grows (OwnV W1.heap.size l)),
      (false, .grows (FrV W1.heap.size { zeroC 0 with lo := mlo, st := mst, mid := mmid, pp := mpp, body := l } l)),
      (false, .grows (ZroC W1.heap.size))] (by kernel_rfl) (by kernel_rfl) (by kernel_rfl) rfl (of_decide_eq_true (by kernel_rfl)) (by kernel_rfl) (by kernel_rfl) ?lasts ?start ?walk
  case lasts => exact ⟨fun m v V V' _ h k => h.grows k, fun m v V V' _ h k => h.grows k, fun m v V V' _ h k => h.grows k, trivial⟩
  case start => exact HST
  case walk =>
    simp only [List.take_succ_cons, List.take_zero, List.drop_succ_cons, List.drop_zero]
    refine stageT_pure rfl (fun _ V => Below.refl _ V) (fun V m hS hl => by go_simp) ?_
    simp only [Act.put, List.setIfInBounds_toArray, List.set_cons_zero, List.set_cons_succ, List.cons_append, List.nil_append]
    refine stageT_pure rfl (fun _ V => Below.refl _ V) (fun V m hS hl => by
        have hc := (HCM.out V hS.out).2.1
        go_simp) ?_
    simp only [Act.put, List.setIfInBounds_toArray, List.set_cons_zero, List.set_cons_succ, List.cons_append, List.nil_append]
    refine stageT_pure rfl (fun _ V => Below.refl _ V) (fun V m hS hl => by go_simp) ?_
    simp only [Act.put, List.setIfInBounds_toArray, List.set_cons_zero, List.set_cons_succ, List.cons_append, List.nil_append]
    refine stageT_pure rfl (fun _ V => Below.refl _ V) (fun V m hS hl => by
        have hc := (HCM.out V hS.out).1
        go_simp) ?_
    simp only [Act.put, List.setIfInBounds_toArray, List.set_cons_zero, List.set_cons_succ, List.cons_append, List.nil_append]
    refine stageT_pure rfl (fun _ V => Below.refl _ V) (fun V m hS hl => by go_simp) ?_
    simp only [Act.put, List.setIfInBounds_toArray, List.set_cons_zero, List.set_cons_succ, List.cons_append, List.nil_append]
    refine stageT_pure rfl (fun _ V => Below.refl _ V) (fun V m hS hl => by
        have hc := (HCM.out V hS.out).2.2.1
        go_simp) ?_
    simp only [Act.put, List.setIfInBounds_toArray, List.set_cons_zero, List.set_cons_succ, List.cons_append, List.nil_append]
    refine stageT_pure rfl (fun _ V => Below.refl _ V) (fun V m hS hl => by go_simp) ?_
    simp only [Act.put, List.setIfInBounds_toArray, List.set_cons_zero, List.set_cons_succ, List.cons_append, List.nil_append]
    refine stageT_pure rfl (fun _ V => Below.refl _ V) (fun V m hS hl => by
        have hc := (HCM.out V hS.out).2.2.2
        go_simp) ?_
    simp only [Act.put, List.setIfInBounds_toArray, List.set_cons_zero, List.set_cons_succ, List.cons_append, List.nil_append]
    refine stageT_pure rfl (fun _ V => Below.refl _ V) (fun V m hS hl => by go_simp) ?_
    simp only [Act.put, List.setIfInBounds_toArray, List.set_cons_zero, List.set_cons_succ, List.cons_append, List.nil_append]
    refine stageT_grows rfl (fun V m hS hl => by
        go_simp
        refine (bclone_as A l n c V HN.out hl6 (HBY.out V hS.out)).mono ?_
        rintro e V' ⟨⟨v, rfl, ho⟩, hb⟩
        exact ⟨_, rfl, hb, own_mono ho hS.out.size, hS.out.trans (hb.mono hS.out.size)⟩) (fun v19 => ?_)
    simp only [Act.put, List.setIfInBounds_toArray, List.set_cons_zero, List.set_cons_succ, List.cons_append, List.nil_append]
    refine stageT_grows rfl (fun V m hS hl => by
        show Words.Leaves _ _ _
        have ho := (hl.1 (by kernel_rfl))
        obtain ⟨A9, c9, rfl, h9a, h9b⟩ := own_slice ho
        rw [exec_build6 51 rfl (.int .u8 0) (.bool mlo) (.int .u16 (mst : Int)) (.int .u32 (mmid : Int)) (.int .u32 (mpp : Int)) (.slice A9 l.length c9) rfl rfl rfl rfl rfl rfl _ (frag_built mlo mst mmid mpp l A9 l.length c9)]
        exact ⟨Below.refl _ _, ⟨_, rfl, ho⟩, hS.out⟩) (fun v20 => ?_)
    simp only [Act.put, List.setIfInBounds_toArray, List.set_cons_zero, List.set_cons_succ, List.cons_append, List.nil_append]
    refine stageT_grows rfl (fun V m hS hl => by
        show Words.Leaves _ _ _
        rw [exec_alloc_ck rfl]
        exact ⟨below_one V _, ⟨_, rfl, hS.out.size, Blk.new V _ _⟩, hS.out.trans ((below_one V _).mono hS.out.size)⟩) (fun v9 => ?_)
    simp only [Act.put, List.setIfInBounds_toArray, List.set_cons_zero, List.set_cons_succ, List.cons_append, List.nil_append]
    refine stageT_nil (fun V2 hS hF => ?_)
    have hF2 : OwnV W1.heap.size l v19 V2 ∧ FrV W1.heap.size { zeroC 0 with lo := mlo, st := mst, mid := mmid, pp := mpp, body := l } l v20 V2 ∧ ZroC W1.heap.size v9 V2 ∧ True := hF
    obtain ⟨bv, rfl, ho⟩ := hF2.2.1
    obtain ⟨g, rfl, hgB, hgb⟩ := hF2.2.2.1
    have hne := own_ne ho hgb
    obtain ⟨A9, c9, rfl, h9a, h9b⟩ := own_slice ho
    obtain ⟨C, hC⟩ : ∃ C : Ck, C = { zeroC 0 with lo := mlo, st := mst, mid := mmid, pp := mpp, body := l } := ⟨_, rfl⟩
    rw [← hC]
    have HC := Lib.hid hC
    have HO := Lib.hid ho
    have HNE := Lib.hid hne
    have HS2 := Lib.hid hS.out
    have HGB := Lib.hid hgb
    have HGL := Lib.hid hgB
    obtain ⟨bv, hbv⟩ : ∃ bv, bv = Value.slice A9 l.length c9 := ⟨_, rfl⟩
    have HONE : Hid ((ckArr C nilV nilV nilV nilV bv).all (·.oneCell') = true) := by show _ = true; rw [hbv]; simp [ckArr, Value.oneCell']
    rw [← hbv] at HO HNE ⊢
    have HBV := Lib.hid hbv
    clear hS hF HST hF2 ho hne hC hgb hgB hbv
    show wpList _ _ _ _ _ _
    obtain ⟨W3, hW3⟩ : ∃ W, W = V2.setRow g (ckArr C nilV nilV nilV nilV bv) := ⟨_, rfl⟩
    have HC3 : Hid (CkBlk W3 g (ckArr C nilV nilV nilV nilV bv)) := by show CkBlk _ _ _; rw [hW3]; exact setRow_blk HGB.out
    have HF3 : Hid (Fr (fun k => k = g) V2 W3) := by show Fr _ _ _; rw [hW3]; exact setRow_fr _ _ _
    have HW3 := Lib.hid hW3
    clear hW3
    go_upto_if 21 with (refine wpList_store_row rfl 51 _ _ rfl g (ckArr C nilV nilV nilV nilV bv) rfl rfl 51 _ HGB.out chunk_info rfl HONE.out ?_; rw [← HW3.out])
    go_cut [] from 22 to 30 (fun wx => ∃ C', C' = { C with kind := if inter = true then 64 else 0, mid := if inter = true then mmid else mmid % 65536, fr := if inter = true then i else 0 } ∧ Hid (CkBlk wx g (ckArr C' nilV nilV nilV nilV bv)) ∧ Hid (Fr (fun k => k = g) V2 wx))
    case first =>
      have HGM1 : Hid (gm < V2.heap.size ∧ ¬ gm = g) := ⟨Nat.lt_of_lt_of_le (by have := HSZ1.out; omega) HS2.out.size, fun e => by have := HSZ1.out; have := HGL.out; omega⟩
      have ms : W3.cell? ⟨gm, 2, none⟩ = some (.int .u32 (mmid : Int)) := (World.cell?_of_block (HF3.out.block gm HGM1.out.1 HGM1.out.2)).trans (HCM.out V2 HS2.out).2.2.1
      cases inter
      · have cf : W3.cell? ⟨g, 7, none⟩ = some (.int .u32 (C.mid : Int)) := HC3.out.cell 7
        have zf := Blk.frozen HC3.out 7
        go_wp2_with fail
        rw [show IntKind.u16.wrap (mmid : Int) % 4294967296 = ((mmid % 65536 : Nat) : Int) by simp [IntKind.wrap, IntKind.bits, IntKind.signed]; omega]
        go_meet
        refine ⟨{ C with mid := mmid % 65536 }, by rw [HC.out]; rfl, ?_, HF3.out.setCell (p := ⟨g, 7, none⟩) (.inl rfl) _⟩
        exact set_mid HC3.out (mmid % 65536)
      · have cf : W3.cell? ⟨g, 0, none⟩ = some (.int .u8 (C.kind : Int)) := HC3.out.cell 0
        have cf9 : W3.cell? ⟨g, 9, none⟩ = some (.int .u32 (C.fr : Int)) := HC3.out.cell 9
        have zf := Blk.frozen HC3.out 0
        have zf9 := Blk.frozen HC3.out 9
        go_wp2_with fail
        go_meet
        refine ⟨{ C with kind := 64, fr := i }, by rw [HC.out]; rfl, ?_, (HF3.out.setCell (p := ⟨g, 0, none⟩) (.inl rfl) _).setCell (p := ⟨g, 9, none⟩) (.inl rfl) _⟩
        exact set_fr (set_kind HC3.out 64) i
    case rest =>
      obtain ⟨C', hC', HC4, HF4⟩ := hcut
      have HC' := Lib.hid hC'
      clear hC'
      obtain ⟨W4, hW4⟩ : ∃ W, W = wc := ⟨_, rfl⟩
      rw [← hW4] at HC4 HF4 ⊢
      clear hW4
      have HR4 : Hid (CkBlk W4 (gm + 1) zeroA) := HF4.out.blk (HR1.out.below HS2.out HR1.out.lt) (fun e => by have := HSZ1.out; have := HGL.out; omega)
      have HON4 : Hid ((ckArr C' nilV nilV nilV nilV bv).all (·.oneCell') = true) := by show _ = true; rw [HBV.out]; simp [ckArr, Value.oneCell']
      go_wp2_with (first | refine wpList_load_row rfl 51 _ rfl g rfl 51 (ckArr C' nilV nilV nilV nilV bv) (0, 0) _ HC4.out Try.underlying51 rfl chunk_info ?_ | refine wpList_store_row rfl 51 _ _ rfl (gm + 1) (ckArr C' nilV nilV nilV nilV bv) rfl rfl 51 _ HR4.out chunk_info rfl HON4.out ?_)
      (try simp only [Exit.inBlock, Exit.then])
      refine bodyPost_ret (results_cell_row rfl _ _ (gm + 1) 51 (ckArr C' nilV nilV nilV nilV bv) (0, 0) _ rfl (setRow_blk HR4.out) Try.underlying51 rfl chunk_info) rfl ?_
      have hf := (HF4.out.mono (T := fun k => k = g ∨ k = gm + 1) (fun _ _ h => .inl h)).trans (setRow_fr W4 (gm + 1) (ckArr C' nilV nilV nilV nilV bv)) (fun _ _ h => .inr h)
      have hgl : gm + 2 ≤ g := by have := HSZ1.out; have := HGL.out; omega
      have hown : Words.Own (W4.setRow (gm + 1) (ckArr C' nilV nilV nilV nilV bv)) W1.heap.size bv l := hf.own HO.out (fun b hb e => by
        rcases e with e | e
        · exact HNE.out b hb e
        · have := (HO.out.lt b hb).1; have := HSZ1.out; omega)
      have he : C' = fragC m i l inter := by
        rw [HFC.out, HC'.out, HC.out]
        rfl
      refine ⟨⟨_, rfl, ?_⟩, below_fr (HB1.out.trans (HS2.out.mono HB1.out.size)) hf (Nat.le_refl _) (fun x hx => by have := HGM.out; rcases hx with hx | hx <;> omega)⟩
      rw [he] at hown ⊢
      exact ⟨nilV, nilV, nilV, nilV, bv, rfl, nilG, nilD, nilS, OwnPs.nil _ _, own_mono hown HB1.out.size⟩
theorem pieces_any (A : Option Addr) (n c M : Nat) (w : World) : Calls Try.prog 70 #[.slice A n c, .int .i64 (M : Int)] w fun e w' =>
    e = .returned (.func (.func 86) #[] #[.pointer (some ⟨w.heap.size, 0, none⟩), .pointer (some ⟨w.heap.size + 1, 0, none⟩)]) ∧ w' = (w.alloc (.cells #[.slice A n c] 36)).alloc (.cells #[.int .i64 (M : Int)] 3) := by
  go_enter Try.func70, Try.ntmps70
  go_wp2
  go_ret
  exact ⟨rfl, rfl⟩
/-- The q-th piece's bytes. -/
def pcB (L : List UInt8) (M q : Nat) : List UInt8 := (L.drop (q * M)).take M
/-- What is handed out at a time. -/
def EncP (w : World) (B : Nat) (L : List UInt8) (M : Nat) (q : Nat) (xs : Array Value) : Prop :=
  ∃ a k c, xs = #[.int .i64 (q : Int), .slice a k c] ∧ k = (pcB L M q).length ∧ k ≤ c ∧ c ≤ 9223372036854775807 ∧ Byt w B a (pcB L M q)
/-- Where the iterator is. -/
structure PSt (w0 : World) (J : Nat → World → Prop) (L : List UInt8) (M bx mx B : Nat) (T : Nat → Prop) (l : Nat) (W wr : World) (q m c : Nat) (a : Option Addr) : Prop where
  blk : Blk wr bx 36 #[.slice a m c]
  mblk : Blk wr mx 3 #[.int .i64 (M : Int)]
  byt : Byt w0 B a (L.drop (q * M))
  j : J q wr
  fr : Fr (fun k => T k ∨ k = l ∨ k = bx) W wr
set_option maxRecDepth 20000 in
set_option maxHeartbeats 4000000 in
theorem pieces_hands {L : List UInt8} {n c M bx mx B : Nat} {A : Option Addr} {T : Nat → Prop} {w : World} (hM : 1 ≤ M) (hM2 : M ≤ 1172) (hn : n = L.length) (hn1 : n ≤ 65536) (hnc : n ≤ c) (hc : c ≤ 9223372036854775807)
    (hbx : Blk w bx 36 #[.slice A n c]) (hmx : Blk w mx 3 #[.int .i64 (M : Int)]) (hbm : bx ≠ mx) (hB : B ≤ bx) (hB2 : B ≤ mx) (hT : ∀ k, T k → B ≤ k ∧ k ≠ bx ∧ k ≠ mx) (hy : Byt w B A L) :
    HandsT Try.prog 86 #[.pointer (some ⟨bx, 0, none⟩), .pointer (some ⟨mx, 0, none⟩)] (EncP w B L M) (np n M) bx T w := by
  intro l J W hl1 hl2 hbW hJ hY h0
  refine callsIn_wide.2 ?_
  show Calls Try.prog 86 #[.func (.yield l) #[] #[], .pointer (some ⟨bx, 0, none⟩), .pointer (some ⟨mx, 0, none⟩)] W _
  have hbl := hbx.lt
  have hml := hmx.lt
  have HP0 : Hid (PSt w J L M bx mx B T l W W 0 n c A) := ⟨hbx.below hbW hbl, hmx.below hbW hml, by simpa using hy, h0, Fr.refl _ _⟩
  have HTM : Hid (∀ k, T k ∨ k = l → k ≠ bx ∧ k ≠ mx) := fun k hk => by
    rcases hk with hk | rfl
    · exact (hT k hk).2
    · exact ⟨by omega, by omega⟩
  have HBM := Lib.hid hbm
  have HN := Lib.hid hn
  have HJ := Lib.hid hJ
  have HY := Lib.hid hY
  clear hbx hmx hbm hB hB2 hT hy hl1 hl2 hbW hJ hY h0 hbl hml hn
  go_enter Try.func86, Try.ntmps86
  go_wp2_with fail
  go_loopw [4, 5] (fun i _ wr => ∃ (q m c : Nat) (a : Option Addr), i = .int .i64 (q : Int) ∧ q ≤ 65536 ∧ m ≤ 65536 ∧ m ≤ c ∧ c ≤ 9223372036854775807 ∧ Hid (m = n - q * M) ∧ Hid (q ≤ np n M) ∧ Hid (PSt w J L M bx mx B T l W wr q m c a)) (fun i _ _ => 70000 - (intOf i).toNat)
  case atStart => exact ⟨0, n, c, A, rfl, by omega, by omega, hnc, hc, by show _ = _; omega, Nat.zero_le _, HP0⟩
  case round =>
    clear hnc hc HP0
    obtain ⟨q, m, c, a, rfl, hq, hm, hmc, hcm, HM, HQ, HP⟩ := hrel
    have cb : wr.cell? ⟨bx, 0, none⟩ = some (.slice a m c) := HP.out.blk.cell 0
    have cm : wr.cell? ⟨mx, 0, none⟩ = some (.int .i64 (M : Int)) := HP.out.mblk.cell 0
    by_cases h0 : 0 < m
    · obtain ⟨k, hk⟩ : ∃ k, k = min M m := ⟨_, rfl⟩
      have hkk : (M ≤ m ∧ k = M) ∨ (m < M ∧ k = m) := by omega
      have hk1 : 1 ≤ k := by omega
      have hk2 : k ≤ m := by omega
      have HK := Lib.hid hk
      clear hk
      go_upto_region 3 with (fail)
      go_cut [5] from 11 to 14 (fun u wx => u = .int .i64 (k : Int) ∧ wr = wx)
      case first =>
        rcases hkk with ⟨g1, g2⟩ | ⟨g1, g2⟩
        all_goals
          have g3 := Lib.hid g2
          clear g2 hk1 hk2
          go_wp2_with fail
          go_meet
          exact ⟨by rw [g3.out]; (try rfl), rfl⟩
      case rest =>
        obtain ⟨rfl, rfl⟩ := hcut
        clear hkk
        have hml : m = (L.drop (q * M)).length := by rw [List.length_drop, ← HN.out]; exact HM.out
        have hkl : k = (pcB L M q).length := by unfold pcB; rw [List.length_take, ← hml]; exact HK.out
        have hqN : q < np n M := (np_lt hM).2 (by have := HM.out; omega)
        obtain ⟨fn, tm, asg, bdy, hy, hR⟩ := HY.out q wr #[.int .i64 (q : Int), .slice a k c] HP.out.j hqN ⟨a, k, c, rfl, hkl, by omega, hcm, HP.out.byt.take_ M⟩
        have HQN := Lib.hid hqN
        have HML := Lib.hid hml
        have hq1 : q < 65536 := by have := np_le (n := n) hM; omega
        clear hml hkl hqN
        go_upto_region 4 with (fail)
        refine (wpIn_wide (n := 3)).1 ?_
        obtain ⟨F, hF⟩ : ∃ F, F = Fence.wide := ⟨_, rfl⟩
        have hro : F.round = none := by rw [hF]; rfl
        have hfn : ∀ f, F.fn f := fun f => by rw [hF]; trivial
        rw [← hF] at hR ⊢
        clear hF HY
        have h13 : 1 ≤ 3 := by omega
        gi_wp2_with fail
        refine hR.mono ?_
        rintro ee W3 ⟨rfl, hj3, hf3⟩
        have hb3 : Blk W3 bx 36 #[.slice a m c] := hf3.blk HP.out.blk (fun e => (HTM.out _ e).1 rfl)
        have hm3 : Blk W3 mx 3 #[.int .i64 (M : Int)] := hf3.blk HP.out.mblk (fun e => (HTM.out _ e).2 rfl)
        have HB3 := Lib.hid hb3
        have HM3 := Lib.hid hm3
        have HJ3 := Lib.hid hj3
        have HF3 := Lib.hid hf3
        have cb3 : W3.cell? ⟨bx, 0, none⟩ = some (.slice a m c) := HB3.out.cell 0
        have zb3 := Blk.frozen HB3.out 0
        clear hR hy hj3 hf3 cb cm hb3 hm3
        gi_wp2
        go_wp2
        go_roundw
        case rel =>
          have hml := HML.out
          have hkd := HK.out
          have hmd := HM.out
          have hqd := HQN.out
          have e1 : (q + 1) * M = q * M + M := by rw [Nat.add_mul, Nat.one_mul]
          have e2 : (L.drop (q * M)).drop k = L.drop ((q + 1) * M) := by
            rw [List.drop_drop, e1]
            rcases Nat.le_total M m with h | h
            · rw [show k = M by omega]
            · rw [List.length_drop] at hml
              rw [List.drop_of_length_le (by omega), List.drop_of_length_le (by omega)]
          have hby := HP.out.byt.cut_ (k := k) (cap := c) (by rw [← hml]; exact hk2) (by rw [← hml]; exact hmc)
          rw [e2] at hby
          exact ⟨q + 1, m - k, c - k, _, by go_num, by omega, by omega, by omega, by omega, by show _ = _; omega, hqd, HB3.out.set_ 0 _, Blk.far HM3.out (p := ⟨bx, 0, none⟩) (by first | exact HBM.out | exact fun e => HBM.out e.symm) _, hby,
            HJ.out _ _ _ HJ3.out ((Fr.refl (fun k => k = bx) W3).setCell (p := ⟨bx, 0, none⟩) (.inl rfl) _), (HP.out.fr.trans HF3.out (fun _ _ h => h.elim .inl (fun h => .inr (.inl h)))).setCell (p := ⟨bx, 0, none⟩) (.inl (.inr (.inr rfl))) _⟩
        case measure => simp [intOf]; omega
    · have hqe : q = np n M := np_end hM HQ.out (by have := HM.out; omega)
      have HFIN : Hid (J (np n M) wr) := by show J _ _; rw [← hqe]; exact HP.out.j
      clear hqe
      go_wp2
      go_end0
      exact ⟨⟨_, rfl⟩, HFIN.out⟩
end Go.Proofs.Ytkjlmibjpfmfnaa.Chk
