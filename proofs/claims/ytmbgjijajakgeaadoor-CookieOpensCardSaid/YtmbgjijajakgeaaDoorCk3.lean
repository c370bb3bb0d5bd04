/-
  Package cookie: read, parted.
-/
import Derived.Test.YtmbgjijajakgeaaDoorCk2
set_option linter.unusedVariables false
set_option linter.unusedSimpArgs false
namespace Go.Proofs.YtmbgjijajakgeaaDoor.Cok
open Go.ChangeShapes Go.WideShapes Go.ChangeAt Go.RowKit Go.Proofs.YtmbgjijajakgeaaDoor.Words Go.Proofs.YtmbgjijajakgeaaDoor.Oct

theorem ck_size (c : CK) : (Tryd.prog.info? 26).map (·.size) = some (ckA c).size := by
  show _ = some 11
  kernel_rfl
theorem ck_one (c : CK) : (ckA c).all (·.oneCell') = true := by simp [ckA, Value.oneCell']
/-- What a function with two results, the first of them in a cell of its own, hands back. -/
theorem res_ck {fn : Func} {p u : Tmp} (h : fn.results = #[.cell p 26, .tmp u]) (tmps : Array Value) (w : World) (g : Nat) (c : CK) (hp : tmps.getD p undef = .pointer (some ⟨g, 0, none⟩)) (hb : Blk w g 26 (ckA c)) :
    (results fn tmps).run Tryd.prog w = .ok (.tuple #[.agg (ckA c), tmps.getD u undef]) w := by
  rw [results_cell_tmp h, hp]
  have := run_loadVar_row (P := Tryd.prog) w g 26 26 (ckA c) (0, 0) _ hb Tryd.underlying26 rfl (by kernel_rfl)
  simp [asAddr, Result.andThen, this]
/-- Where read stands: the reader, the cookie's block, the result's. -/
structure RSt (w V : World) (p G N : Nat) (l : List UInt8) (cs : Array Value) : Prop where
  rd : Rd V p G l false
  blk : Blk V (N + 1) 26 cs
  res : Blk V N 26 (ckA zeroCK)
  below : Below N w V
  ge : N + 1 < G
  nw : N ≤ w.heap.size
theorem RSt.step {w V V' : World} {p G N : Nat} {l l' : List UInt8} {cs : Array Value} (h : RSt w V p G N l cs) (hr : Rd V' p G l' false) (hf : Fr (At p) V V') : RSt w V' p G N l' cs := by
  have h1 := h.rd.le
  have h2 := h.ge
  refine ⟨hr, hf.blk h.blk (fun e => ?_), hf.blk h.res (fun e => ?_), below_fr h.below hf h.nw (fun x hx => ?_), h.ge, h.nw⟩
  · have : N + 1 = p := e
    omega
  · have : N = p := e
    omega
  · have : x = p := hx
    omega
theorem rk_u32 {w : World} {p G k x : Nat} {l : List UInt8} (h : Rd w p G (l.drop k) false) (hk : k + 4 ≤ l.length) (hx : x = num ((l.drop k).take 4)) :
    Calls Tryd.prog 34 #[rptr p] w fun e w' => e = .returned (.int .u32 (x : Int)) ∧ Rd w' p G (l.drop (k + 4)) false ∧ Fr (At p) w w' :=
  (rd_u32 h (by rw [List.length_drop]; omega)).mono fun e w' ⟨h1, h2, h3⟩ => ⟨by rw [h1, ← hx], h2.as (by rw [List.drop_drop]), h3⟩
theorem rk_u16 {w : World} {p G k x : Nat} {l : List UInt8} (h : Rd w p G (l.drop k) false) (hk : k + 2 ≤ l.length) (hx : x = num ((l.drop k).take 2)) :
    Calls Tryd.prog 35 #[rptr p] w fun e w' => e = .returned (.int .u16 (x : Int)) ∧ Rd w' p G (l.drop (k + 2)) false ∧ Fr (At p) w w' :=
  (rd_u16 h (by rw [List.length_drop]; omega)).mono fun e w' ⟨h1, h2, h3⟩ => ⟨by rw [h1, ← hx], h2.as (by rw [List.drop_drop]), h3⟩
theorem rk_u8 {w : World} {p G k x : Nat} {l : List UInt8} (h : Rd w p G (l.drop k) false) (hk : k + 1 ≤ l.length) (hx : x = num ((l.drop k).take 1)) :
    Calls Tryd.prog 36 #[rptr p] w fun e w' => e = .returned (.int .u8 (x : Int)) ∧ Rd w' p G (l.drop (k + 1)) false ∧ Fr (At p) w w' :=
  (rd_u8 h (by rw [List.length_drop]; omega)).mono fun e w' ⟨h1, h2, h3⟩ => ⟨by rw [h1, ← hx], h2.as (by rw [List.drop_drop]), h3⟩
theorem RSt.stores {w V V' : World} {p G N : Nat} {l : List UInt8} {cs cs' : Array Value} (h : RSt w V p G N l cs) (hb : Blk V' (N + 1) 26 cs') (hf : Fr (fun k => k = N + 1) V V') : RSt w V' p G N l cs' := by
  have h1 := h.rd.le
  have h2 := h.ge
  refine ⟨h.rd.fr hf (fun e => ?_) (fun e => ?_), hb, hf.blk h.res (fun e => ?_), below_fr h.below hf h.nw (fun x hx => ?_), h.ge, h.nw⟩
  · have : p = N + 1 := e
    omega
  · have : G = N + 1 := e
    omega
  · have : N = N + 1 := e
    omega
  · have : x = N + 1 := hx
    omega
set_option maxRecDepth 20000 in
set_option maxHeartbeats 4000000 in
theorem read_any {A : Option Addr} {n c : Nat} {l : List UInt8} {w : World} (hn : n = l.length) (h38 : l.length = 38) (h : Byt w w.heap.size A l) :
    Calls Tryd.prog 17 #[.slice A n c] w fun e w' => e = .returned (.tuple #[.agg (ckA (getC l)), .int .u8 ((l.getD 25 0).toNat : Int)]) ∧ Below w.heap.size w w' := by
  obtain ⟨N, hN⟩ : ∃ N, N = w.heap.size := ⟨_, rfl⟩
  obtain ⟨W1, hW1⟩ : ∃ W, W = (w.alloc (.cells (ckA zeroCK) 26)).alloc (.cells (ckA zeroCK) 26) := ⟨_, rfl⟩
  have hb1 : Below w.heap.size w W1 := by rw [hW1]; exact ((Below.refl _ _).alloc (Nat.le_refl _) _).alloc (by simp) _
  have hs1 : W1.heap.size = N + 2 := by rw [hW1, hN]; simp
  have HB0 : Hid (Blk W1 N 26 (ckA zeroCK)) := by show Blk _ _ _ _; rw [hW1, hN]; exact (Blk.new w _ _).alloc _
  have HB1 : Hid (Blk W1 (N + 1) 26 (ckA zeroCK)) := by
    show Blk _ _ _ _
    rw [hW1, hN]
    simpa using Blk.new (w.alloc (.cells (ckA zeroCK) 26)) 26 (ckA zeroCK)
  have HNR := Lib.hid (newReader_any A l n c W1 hn (by omega) ((h.below hb1).more (by rw [hs1, hN]; omega)))
  have HBE : Hid (Below N w W1) := by rw [hN]; exact hb1
  have HNW : Hid (N ≤ w.heap.size) := by show _ ≤ _; omega
  have HN := Lib.hid hN
  have HW1 := Lib.hid hW1
  have HS1 := Lib.hid hs1
  have HL := Lib.hid h38
  clear h hb1 hs1 hN hW1 h38 hn
  obtain ⟨x0, hx0⟩ : ∃ x, x = num ((l.drop 0).take 4) := ⟨_, rfl⟩
  obtain ⟨x1, hx1⟩ : ∃ x, x = num ((l.drop 4).take 4) := ⟨_, rfl⟩
  obtain ⟨x2, hx2⟩ : ∃ x, x = num ((l.drop 8).take 4) := ⟨_, rfl⟩
  obtain ⟨x3, hx3⟩ : ∃ x, x = num ((l.drop 12).take 4) := ⟨_, rfl⟩
  obtain ⟨x4, hx4⟩ : ∃ x, x = num ((l.drop 16).take 4) := ⟨_, rfl⟩
  obtain ⟨x5, hx5⟩ : ∃ x, x = num ((l.drop 20).take 2) := ⟨_, rfl⟩
  obtain ⟨x6, hx6⟩ : ∃ x, x = num ((l.drop 22).take 2) := ⟨_, rfl⟩
  obtain ⟨x7, hx7⟩ : ∃ x, x = num ((l.drop 24).take 1) := ⟨_, rfl⟩
  obtain ⟨x8, hx8⟩ : ∃ x, x = num ((l.drop 26).take 4) := ⟨_, rfl⟩
  obtain ⟨x9, hx9⟩ : ∃ x, x = num ((l.drop 30).take 4) := ⟨_, rfl⟩
  obtain ⟨x10, hx10⟩ : ∃ x, x = num ((l.drop 34).take 4) := ⟨_, rfl⟩
  obtain ⟨xz, hxz⟩ : ∃ x, x = num ((l.drop 25).take 1) := ⟨_, rfl⟩
  have HG : Hid (getC l = ⟨x0, x1, x2, x3, x4, x5, x6, x7, x8, x9, x10⟩) := by show _ = _; rw [hx0, hx1, hx2, hx3, hx4, hx5, hx6, hx7, hx8, hx9, hx10]; rfl
  have HZ : Hid ((l.getD 25 0).toNat = xz) := by
    show _ = _
    have h25 : 25 < l.length := by rw [HL.out]; omega
    have e : (l.drop 25).take 1 = [l[25]] := by rw [List.drop_eq_getElem_cons h25, List.take_succ_cons, List.take_zero]
    rw [hxz, e, List.getD_eq_getElem?_getD, List.getElem?_eq_getElem h25]
    simp [num]
  have HX0 := Lib.hid hx0
  clear hx0
  have HX1 := Lib.hid hx1
  clear hx1
  have HX2 := Lib.hid hx2
  clear hx2
  have HX3 := Lib.hid hx3
  clear hx3
  have HX4 := Lib.hid hx4
  clear hx4
  have HX5 := Lib.hid hx5
  clear hx5
  have HX6 := Lib.hid hx6
  clear hx6
  have HX7 := Lib.hid hx7
  clear hx7
  have HX8 := Lib.hid hx8
  clear hx8
  have HX9 := Lib.hid hx9
  clear hx9
  have HX10 := Lib.hid hx10
  clear hx10
  have HXz := Lib.hid hxz
  clear hxz
  go_enter Tryd.func17, Tryd.ntmps17
  go_upto_region 2 with (fail)
  change Code.wp _ _ _ _ ((w.alloc (.cells (ckA zeroCK) 26)).alloc (.cells (ckA zeroCK) 26))
  rw [← HW1.out, ← HN.out]
  clear HW1
  go_wp2_with fail
  refine HNR.out.mono ?_
  rintro e W2 ⟨p, G, rfl, hrd, hG, hb2⟩
  have HS2 : Hid (RSt w W2 p G N (l.drop 0) (ckA zeroCK)) := ⟨hrd.as (List.drop_zero).symm, HB1.out.below hb2 (by have := HS1.out; omega), HB0.out.below hb2 (by have := HS1.out; omega), HBE.out.trans (hb2.mono (by have := HS1.out; omega)), by have := HS1.out; omega, HNW.out⟩
  clear hrd hG hb2 HNR HB0 HB1 HBE
  have HC := Lib.hid (rk_u32 HS2.out.rd (x := x0) (by have := HL.out; omega) HX0.out)
  go_wp2_with fail
  refine HC.out.mono ?_
  rintro e W3 ⟨rfl, h1, f1⟩
  have HS3 := Lib.hid (HS2.out.step h1 f1)
  clear h1 f1 HC HS2
  have HC := Lib.hid (rk_u32 HS3.out.rd (x := x1) (by have := HL.out; omega) HX1.out)
  go_wp2_with fail
  refine HC.out.mono ?_
  rintro e W4 ⟨rfl, h1, f1⟩
  have HS4 := Lib.hid (HS3.out.step h1 f1)
  clear h1 f1 HC HS3
  have HC := Lib.hid (rk_u32 HS4.out.rd (x := x2) (by have := HL.out; omega) HX2.out)
  go_wp2_with fail
  refine HC.out.mono ?_
  rintro e W5 ⟨rfl, h1, f1⟩
  have HS5 := Lib.hid (HS4.out.step h1 f1)
  clear h1 f1 HC HS4
  have HC := Lib.hid (rk_u32 HS5.out.rd (x := x3) (by have := HL.out; omega) HX3.out)
  go_wp2_with fail
  refine HC.out.mono ?_
  rintro e W6 ⟨rfl, h1, f1⟩
  have HS6 := Lib.hid (HS5.out.step h1 f1)
  clear h1 f1 HC HS5
  have HC := Lib.hid (rk_u32 HS6.out.rd (x := x4) (by have := HL.out; omega) HX4.out)
  go_wp2_with fail
  refine HC.out.mono ?_
  rintro e W7 ⟨rfl, h1, f1⟩
  have HS7 := Lib.hid (HS6.out.step h1 f1)
  clear h1 f1 HC HS6
  have hbk := HS7.out.blk
  have c0 : W7.cell? ⟨N + 1, 0, none⟩ = some (.int .u32 0) := hbk.cell 0
  have f0 := hbk.frozen 0
  have c1 : W7.cell? ⟨N + 1, 1, none⟩ = some (.int .u32 0) := hbk.cell 1
  have f1 := hbk.frozen 1
  have c2 : W7.cell? ⟨N + 1, 2, none⟩ = some (.int .u32 0) := hbk.cell 2
  have f2 := hbk.frozen 2
  have c3 : W7.cell? ⟨N + 1, 3, none⟩ = some (.int .u32 0) := hbk.cell 3
  have f3 := hbk.frozen 3
  have c4 : W7.cell? ⟨N + 1, 4, none⟩ = some (.int .u32 0) := hbk.cell 4
  have f4 := hbk.frozen 4
  obtain ⟨W8, hW8⟩ : ∃ W, W = (((((W7.setCell ⟨N + 1, 0, none⟩ (.int .u32 (x0 : Int))).setCell ⟨N + 1, 1, none⟩ (.int .u32 (x1 : Int))).setCell ⟨N + 1, 2, none⟩ (.int .u32 (x2 : Int))).setCell ⟨N + 1, 3, none⟩ (.int .u32 (x3 : Int))).setCell ⟨N + 1, 4, none⟩ (.int .u32 (x4 : Int))) := ⟨_, rfl⟩
  have HS8 : Hid (RSt w W8 p G N (l.drop 20) (ckA ⟨x0, x1, x2, x3, x4, 0, 0, 0, 0, 0, 0⟩)) := by
    refine RSt.stores HS7.out ?_ ?_
    · rw [hW8]
      exact (((((hbk.set_ 0 (.int .u32 (x0 : Int))).set_ 1 (.int .u32 (x1 : Int))).set_ 2 (.int .u32 (x2 : Int))).set_ 3 (.int .u32 (x3 : Int))).set_ 4 (.int .u32 (x4 : Int)))
    · rw [hW8]
      exact (((((Fr.refl (fun k => k = N + 1) W7).setCell (p := ⟨N + 1, 0, none⟩) (.inl rfl) _).setCell (p := ⟨N + 1, 1, none⟩) (.inl rfl) _).setCell (p := ⟨N + 1, 2, none⟩) (.inl rfl) _).setCell (p := ⟨N + 1, 3, none⟩) (.inl rfl) _).setCell (p := ⟨N + 1, 4, none⟩) (.inl rfl) _
  have HW8 := Lib.hid hW8
  clear hW8 hbk HS7
  go_upto_region 4 with (fail)
  try rw [← HW8.out]
  clear HW8 c0 f0 c1 f1 c2 f2 c3 f3 c4 f4
  have HC := Lib.hid (rk_u16 HS8.out.rd (x := x5) (by have := HL.out; omega) HX5.out)
  go_wp2_with fail
  refine HC.out.mono ?_
  rintro e W9 ⟨rfl, h1, f1⟩
  have HS9 := Lib.hid (HS8.out.step h1 f1)
  clear h1 f1 HC HS8
  have HC := Lib.hid (rk_u16 HS9.out.rd (x := x6) (by have := HL.out; omega) HX6.out)
  go_wp2_with fail
  refine HC.out.mono ?_
  rintro e W10 ⟨rfl, h1, f1⟩
  have HS10 := Lib.hid (HS9.out.step h1 f1)
  clear h1 f1 HC HS9
  have hbk := HS10.out.blk
  have c5 : W10.cell? ⟨N + 1, 5, none⟩ = some (.int .u16 0) := hbk.cell 5
  have f5 := hbk.frozen 5
  have c6 : W10.cell? ⟨N + 1, 6, none⟩ = some (.int .u16 0) := hbk.cell 6
  have f6 := hbk.frozen 6
  obtain ⟨W11, hW11⟩ : ∃ W, W = ((W10.setCell ⟨N + 1, 5, none⟩ (.int .u16 (x5 : Int))).setCell ⟨N + 1, 6, none⟩ (.int .u16 (x6 : Int))) := ⟨_, rfl⟩
  have HS11 : Hid (RSt w W11 p G N (l.drop 24) (ckA ⟨x0, x1, x2, x3, x4, x5, x6, 0, 0, 0, 0⟩)) := by
    refine RSt.stores HS10.out ?_ ?_
    · rw [hW11]
      exact ((hbk.set_ 5 (.int .u16 (x5 : Int))).set_ 6 (.int .u16 (x6 : Int)))
    · rw [hW11]
      exact ((Fr.refl (fun k => k = N + 1) W10).setCell (p := ⟨N + 1, 5, none⟩) (.inl rfl) _).setCell (p := ⟨N + 1, 6, none⟩) (.inl rfl) _
  have HW11 := Lib.hid hW11
  clear hW11 hbk HS10
  go_upto_region 5 with (fail)
  try rw [← HW11.out]
  clear HW11 c5 f5 c6 f6
  have HC := Lib.hid (rk_u8 HS11.out.rd (x := x7) (by have := HL.out; omega) HX7.out)
  go_wp2_with fail
  refine HC.out.mono ?_
  rintro e W12 ⟨rfl, h1, f1⟩
  have HS12 := Lib.hid (HS11.out.step h1 f1)
  clear h1 f1 HC HS11
  have hbk := HS12.out.blk
  have c7 : W12.cell? ⟨N + 1, 7, none⟩ = some (.int .u8 0) := hbk.cell 7
  have f7 := hbk.frozen 7
  obtain ⟨W13, hW13⟩ : ∃ W, W = (W12.setCell ⟨N + 1, 7, none⟩ (.int .u8 (x7 : Int))) := ⟨_, rfl⟩
  have HS13 : Hid (RSt w W13 p G N (l.drop 25) (ckA ⟨x0, x1, x2, x3, x4, x5, x6, x7, 0, 0, 0⟩)) := by
    refine RSt.stores HS12.out ?_ ?_
    · rw [hW13]
      exact (hbk.set_ 7 (.int .u8 (x7 : Int)))
    · rw [hW13]
      exact (Fr.refl (fun k => k = N + 1) W12).setCell (p := ⟨N + 1, 7, none⟩) (.inl rfl) _
  have HW13 := Lib.hid hW13
  clear hW13 hbk HS12
  go_upto_region 6 with (fail)
  try rw [← HW13.out]
  clear HW13 c7 f7
  have HC := Lib.hid (rk_u8 HS13.out.rd (x := xz) (by have := HL.out; omega) HXz.out)
  go_wp2_with fail
  refine HC.out.mono ?_
  rintro e W14 ⟨rfl, h1, f1⟩
  have HS14 := Lib.hid (HS13.out.step h1 f1)
  clear h1 f1 HC HS13
  go_upto_region 7 with (fail)
  have HC := Lib.hid (rk_u32 HS14.out.rd (x := x8) (by have := HL.out; omega) HX8.out)
  go_wp2_with fail
  refine HC.out.mono ?_
  rintro e W15 ⟨rfl, h1, f1⟩
  have HS15 := Lib.hid (HS14.out.step h1 f1)
  clear h1 f1 HC HS14
  have HC := Lib.hid (rk_u32 HS15.out.rd (x := x9) (by have := HL.out; omega) HX9.out)
  go_wp2_with fail
  refine HC.out.mono ?_
  rintro e W16 ⟨rfl, h1, f1⟩
  have HS16 := Lib.hid (HS15.out.step h1 f1)
  clear h1 f1 HC HS15
  have HC := Lib.hid (rk_u32 HS16.out.rd (x := x10) (by have := HL.out; omega) HX10.out)
  go_wp2_with fail
  refine HC.out.mono ?_
  rintro e W17 ⟨rfl, h1, f1⟩
  have HS17 := Lib.hid (HS16.out.step h1 f1)
  clear h1 f1 HC HS16
  have hbk := HS17.out.blk
  have c8 : W17.cell? ⟨N + 1, 8, none⟩ = some (.int .u32 0) := hbk.cell 8
  have f8 := hbk.frozen 8
  have c9 : W17.cell? ⟨N + 1, 9, none⟩ = some (.int .u32 0) := hbk.cell 9
  have f9 := hbk.frozen 9
  have c10 : W17.cell? ⟨N + 1, 10, none⟩ = some (.int .u32 0) := hbk.cell 10
  have f10 := hbk.frozen 10
  obtain ⟨W18, hW18⟩ : ∃ W, W = (((W17.setCell ⟨N + 1, 8, none⟩ (.int .u32 (x8 : Int))).setCell ⟨N + 1, 9, none⟩ (.int .u32 (x9 : Int))).setCell ⟨N + 1, 10, none⟩ (.int .u32 (x10 : Int))) := ⟨_, rfl⟩
  have HS18 : Hid (RSt w W18 p G N (l.drop 38) (ckA ⟨x0, x1, x2, x3, x4, x5, x6, x7, x8, x9, x10⟩)) := by
    refine RSt.stores HS17.out ?_ ?_
    · rw [hW18]
      exact (((hbk.set_ 8 (.int .u32 (x8 : Int))).set_ 9 (.int .u32 (x9 : Int))).set_ 10 (.int .u32 (x10 : Int)))
    · rw [hW18]
      exact (((Fr.refl (fun k => k = N + 1) W17).setCell (p := ⟨N + 1, 8, none⟩) (.inl rfl) _).setCell (p := ⟨N + 1, 9, none⟩) (.inl rfl) _).setCell (p := ⟨N + 1, 10, none⟩) (.inl rfl) _
  have HW18 := Lib.hid hW18
  clear hW18 hbk HS17
  go_upto_region 8 with (fail)
  try rw [← HW18.out]
  clear HW18 c8 f8 c9 f9 c10 f10
  have HR18 : Hid (Blk (W18.setRow N (ckA ⟨x0, x1, x2, x3, x4, x5, x6, x7, x8, x9, x10⟩)) N 26 (ckA ⟨x0, x1, x2, x3, x4, x5, x6, x7, x8, x9, x10⟩) ∧ Below N w (W18.setRow N (ckA ⟨x0, x1, x2, x3, x4, x5, x6, x7, x8, x9, x10⟩))) :=
    ⟨setRow_heap W18 N _ _ _ _ HS18.out.res, below_setRow HS18.out.below (Nat.le_refl _) _⟩
  go_wp2_with (first
    | (refine wpList_load_row rfl 26 _ rfl (N + 1) rfl 26 (ckA ⟨x0, x1, x2, x3, x4, x5, x6, x7, x8, x9, x10⟩) (0, 0) _ HS18.out.blk Tryd.underlying26 rfl (ck_size _) ?_)
    | (refine wpList_store_row rfl 26 _ _ rfl N (ckA ⟨x0, x1, x2, x3, x4, x5, x6, x7, x8, x9, x10⟩) rfl rfl 26 (ckA zeroCK) HS18.out.res (ck_size _) rfl (ck_one _) ?_))
  refine bodyPost_ret (res_ck rfl _ _ N ⟨x0, x1, x2, x3, x4, x5, x6, x7, x8, x9, x10⟩ rfl HR18.out.1) rfl ?_
  refine ⟨?_, by rw [← HN.out]; exact HR18.out.2⟩
  rw [HG.out, HZ.out]
  rfl
end Go.Proofs.YtmbgjijajakgeaaDoor.Cok
