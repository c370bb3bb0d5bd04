/-
  Contracts of package mac, a block: mixed.
-/
import Derived.Test.YtmbgjijajakgeaaDoorMac2
set_option linter.unusedVariables false
set_option linter.unusedSimpArgs false
namespace Go.Proofs.YtmbgjijajakgeaaDoor.Sha
open Go.ChangeShapes Go.WideShapes Go.ChangeAt Go.RowKit Go.Proofs.YtmbgjijajakgeaaDoor.Words

/-- The two package variables, as their text lays them. -/
def Laid (w : World) : Prop := (∃ t fr, w.heap[0]? = some (.cells (U h0) t fr)) ∧ (∃ t fr, w.heap[1]? = some (.cells (U ks) t fr))
theorem Laid.size {w : World} (h : Laid w) : 2 ≤ w.heap.size := by
  obtain ⟨_, _, _, h⟩ := h
  have := (Array.getElem?_eq_some_iff.1 h).1
  omega
theorem Laid.below {w w' : World} {B : Nat} (h : Laid w) (hb : Below B w w') (hB : 2 ≤ B) : Laid w' := by
  obtain ⟨⟨t, fr, h1⟩, ⟨t', fr', h2⟩⟩ := h
  exact ⟨⟨t, fr, (hb.block 0 (by omega)).trans h1⟩, ⟨t', fr', (hb.block 1 (by omega)).trans h2⟩⟩
theorem not_u32 (a : Nat) (ha : a < 4294967296) : bits .xor .u32 IntKind.u32.max (a : Int) = ((4294967295 - a : Nat) : Int) := by
  have e : (4294967295 : Nat) ^^^ a = 4294967295 - a := by
    have h1 : (BitVec.ofNat 32 4294967295 ^^^ BitVec.ofNat 32 a) = ~~~ BitVec.ofNat 32 a := by
      rw [show BitVec.ofNat 32 4294967295 = BitVec.allOnes 32 by decide, BitVec.allOnes_xor]
    have h2 := congrArg BitVec.toNat h1
    rw [BitVec.toNat_xor, BitVec.toNat_not, BitVec.toNat_ofNat, BitVec.toNat_ofNat, Nat.mod_eq_of_lt (by omega), Nat.mod_eq_of_lt (by omega)] at h2
    rw [h2]
  rw [show IntKind.u32.max = ((4294967295 : Nat) : Int) by rfl, u32_xor_nat _ _ (by decide) ha, e]
/-- What a round reckons, as the walk spells it. -/
theorem oneU {x4 x5 x6 x7 k w : Nat} (h4 : x4 < 4294967296) (h5 : x5 < 4294967296) (h6 : x6 < 4294967296) : ∃ y p1 n p2 p3 o : Nat,
    (∀ W, Calls Tryd.prog 50 #[.int .u32 (x4 : Int), .int .i64 6, .int .i64 11, .int .i64 25] W fun e w' => e = .returned (.int .u32 (y : Int)) ∧ W = w') ∧
    bits .and .u32 (x4 : Int) (x5 : Int) = (p1 : Int) ∧ bits .xor .u32 IntKind.u32.max (x4 : Int) = (n : Int) ∧ bits .and .u32 (n : Int) (x6 : Int) = (p2 : Int) ∧ bits .xor .u32 (p1 : Int) (p2 : Int) = (p3 : Int) ∧
    ((x7 : Int) + (y : Int) + (p3 : Int) + (k : Int) + (w : Int)) % 4294967296 = (o : Int) ∧ o < 4294967296 ∧
    Hid (o = (x7 + sp x4 6 11 25 + ((x4 &&& x5) ^^^ ((4294967295 - x4) &&& x6)) + k + w) % 4294967296) := by
  refine ⟨_, _, _, _, _, _, spread_any x4 6 11 25 _ _ _ h4 (by simp [Rn]) (by simp [Rn]) (by simp [Rn]) rfl rfl rfl, u32_and_nat _ _ h4 h5, not_u32 _ h4, u32_and_nat _ _ (by omega) h6, u32_xor_nat _ _ (and_lt h5) (and_lt h6), ?_, Nat.mod_lt _ (by decide), rfl⟩
  simp only [Int.natCast_emod, Int.natCast_add]
  rfl
theorem twoU {x0 x1 x2 : Nat} (h0 : x0 < 4294967296) (h1 : x1 < 4294967296) (h2 : x2 < 4294967296) : ∃ y p1 p2 p3 p4 p5 o : Nat,
    (∀ W, Calls Tryd.prog 50 #[.int .u32 (x0 : Int), .int .i64 2, .int .i64 13, .int .i64 22] W fun e w' => e = .returned (.int .u32 (y : Int)) ∧ W = w') ∧
    bits .and .u32 (x0 : Int) (x1 : Int) = (p1 : Int) ∧ bits .and .u32 (x0 : Int) (x2 : Int) = (p2 : Int) ∧ bits .xor .u32 (p1 : Int) (p2 : Int) = (p3 : Int) ∧ bits .and .u32 (x1 : Int) (x2 : Int) = (p4 : Int) ∧ bits .xor .u32 (p3 : Int) (p4 : Int) = (p5 : Int) ∧
    ((y : Int) + (p5 : Int)) % 4294967296 = (o : Int) ∧ o < 4294967296 ∧
    Hid (o = (sp x0 2 13 22 + ((x0 &&& x1) ^^^ (x0 &&& x2) ^^^ (x1 &&& x2))) % 4294967296) := by
  refine ⟨_, _, _, _, _, _, _, spread_any x0 2 13 22 _ _ _ h0 (by simp [Rn]) (by simp [Rn]) (by simp [Rn]) rfl rfl rfl, u32_and_nat _ _ h0 h1, u32_and_nat _ _ h0 h2, u32_xor_nat _ _ (and_lt h1) (and_lt h2), u32_and_nat _ _ h1 h2, u32_xor_nat _ _ (xor_lt (and_lt h1) (and_lt h2)) (and_lt h2), ?_, Nat.mod_lt _ (by decide), rfl⟩
  simp only [Int.natCast_emod, Int.natCast_add]
  rfl
theorem U_step (x0 x1 x2 x3 x4 x5 x6 x7 k w o1 o2 : Nat)
    (h1 : o1 = (x7 + sp x4 6 11 25 + ((x4 &&& x5) ^^^ ((4294967295 - x4) &&& x6)) + k + w) % 4294967296)
    (h2 : o2 = (sp x0 2 13 22 + ((x0 &&& x1) ^^^ (x0 &&& x2) ^^^ (x1 &&& x2))) % 4294967296) :
    step [x0, x1, x2, x3, x4, x5, x6, x7] k w = [(o1 + o2) % 4294967296, x0, x1, x2, (x3 + o1) % 4294967296, x4, x5, x6] := by
  rw [step_eq]
  have e1 : one [x0, x1, x2, x3, x4, x5, x6, x7] k w = o1 := h1.symm
  have e2 : two [x0, x1, x2, x3, x4, x5, x6, x7] = o2 := h2.symm
  rw [e1, e2]
  rfl

abbrev U8 (x0 x1 x2 x3 x4 x5 x6 x7 : Nat) : List Nat := [x0, x1, x2, x3, x4, x5, x6, x7]
theorem copy_u8 {w : World} {g x0 x1 x2 x3 x4 x5 x6 x7 : Nat} {t : TypeId} (h : Blk w g t (U (U8 x0 x1 x2 x3 x4 x5 x6 x7))) (ty : TypeId) (c1 c2 : Nat) :
    (Builtin.copy_ #[50, 50] ty #[.slice (some ⟨g, 1, none⟩) 7 c1, .slice (some ⟨g, 0, none⟩) 7 c2]).run Tryd.prog w = .ok (goInt 7) (w.setRow g (U (U8 x0 x0 x1 x2 x3 x4 x5 x6))) := by
  have := run_copy_row (P := Tryd.prog) w 50 50 ty 23 g 1 7 c1 ⟨g, 0, none⟩ 7 c2 (U (U8 x0 x1 x2 x3 x4 x5 x6 x7)) t (u32s [x0, x1, x2, x3, x4, x5, x6]) Tryd.underlying50 (by kernel_rfl) h rfl
    (fun j v hv => by
      rw [h.cellAdd]
      match j, hv with
      | 0, hv => exact hv
      | 1, hv => exact hv
      | 2, hv => exact hv
      | 3, hv => exact hv
      | 4, hv => exact hv
      | 5, hv => exact hv
      | 6, hv => exact hv) (by simp [U_size, u32s]) (by intro v hv; simp [u32s] at hv; rcases hv with rfl | rfl | rfl | rfl | rfl | rfl | rfl <;> rfl)
  exact this
theorem WSt.shift {W wr : World} {g : Nat} {t : TypeId} {l m : List Nat} (h : WSt W wr g t l) (hg : g ≤ W.heap.size) : WSt W (wr.drew.setRow g (U m)) g t m :=
  ⟨setRow_heap wr.drew g _ _ _ _ h.1, below_setRow (h.drew 1).2 (Nat.le_refl _) _⟩

set_option maxHeartbeats 2000000 in
theorem mix_any (s : List Nat) (hs : W8 s) (l : List UInt8) (hl : l.length = 64) (w : World) (hK : Laid w) :
    Calls Tryd.prog 42 #[.agg (U s), .agg (V l)] w fun e w' => e = .returned (.agg (U (mix s l))) ∧ Below w.heap.size w w' := by
  have HL := Lib.hid hl
  have HW8 := Lib.hid hs
  have HK := Lib.hid hK
  clear hl hs hK
  obtain ⟨N, hN⟩ : ∃ N, N = w.heap.size := ⟨_, rfl⟩
  go_enter Tryd.func42, Tryd.ntmps42
  go_wp2_with (first
    | (with_reducible refine wpList_alloc_run _ rfl 80 rfl (alloc_w8 _) ?_)
    | (refine Great.wpList_boxTo rfl 80 _ rfl _ rfl N (by simpa using hN.symm) (U s) rfl ?_)
    | (refine Great.wpList_boxTo rfl 67 _ rfl _ rfl (N + 1) (by simpa using hN.symm) (V l) rfl ?_)
    | (refine wpList_load_row rfl 67 _ rfl (N + 1) rfl 67 (V l) (0, 0) _ (by subst hN; simpa [Blk] using (Blk.new (w.alloc (.cells (U s) 80)) 67 (V l)).alloc (.cells (U (Zs 8)) 80)) Tryd.underlying67 rfl (by rw [V_size, HL.out]; exact size_b64) ?_))
  obtain ⟨W0, hW0⟩ : ∃ W, W = ((w.alloc (.cells (U s) 80)).alloc (.cells (V l) 67)).alloc (.cells (U (Zs 8)) 80) := ⟨_, rfl⟩
  have HS0 : Hid (Blk W0 N 80 (U s)) := by
    show Blk _ _ _ _
    rw [hW0, hN]
    exact ((Blk.new w _ _).alloc _).alloc _
  have HR0 : Hid (Blk W0 (N + 1 + 1) 80 (U (Zs 8))) := by
    show Blk _ _ _ _
    rw [hW0, hN]
    simpa using Blk.new ((w.alloc (.cells (U s) 80)).alloc (.cells (V l) 67)) 80 (U (Zs 8))
  have HB0 : Hid (Below w.heap.size w W0) := by
    show Below _ _ _
    rw [hW0]; exact (((Below.refl _ _).alloc (Nat.le_refl _) _).alloc (by simp) _).alloc (by simp; omega) _
  have hsz0 : W0.heap.size = N + 3 := by rw [hW0, hN]; simp
  have HN := Lib.hid hN
  have hK0 : Hid (Laid W0) := HK.out.below HB0.out (HK.out.size)
  rw [← hW0, ← hN]
  clear hW0 hN
  refine (ext_any l HL.out W0).mono ?_
  rintro e W1 ⟨rfl, hb1⟩
  have hsz1 := hb1.size
  obtain ⟨G, hG⟩ : ∃ G, G = W1.heap.size := ⟨_, rfl⟩
  obtain ⟨ws, hws⟩ : ∃ ws, ws = extN 48 (words l) := ⟨_, rfl⟩
  have hlw : ws.length = 64 := by rw [hws, extN_length, words_length, HL.out]
  have HWS := Lib.hid hws
  have HLW := Lib.hid hlw
  have HS1 : Hid (Blk W1 N 80 (U s)) := HS0.out.below hb1 (by omega)
  have HR1 : Hid (Blk W1 (N + 1 + 1) 80 (U (Zs 8))) := HR0.out.below hb1 (by omega)
  have hK1 : Hid (Laid W1) := hK0.out.below hb1 (by omega)
  have HB1 : Hid (Below w.heap.size w W1) := HB0.out.trans (hb1.mono (by have := HN.out; omega))
  rw [← hws]
  clear hws hlw HS0 HR0 hK0 HB0 hb1
  have HL8 : Hid (s.length = 8) := HW8.out.1
  obtain ⟨Wa, hWa⟩ : ∃ W, W = (W1.alloc (.cells (U (Zs 64)) 91)).setRow G (U ws) := ⟨_, rfl⟩
  have HGa : Hid (Blk Wa G 91 (U ws)) := by
    show Blk _ _ _ _
    rw [hWa]
    exact setRow_heap _ G _ _ _ _ (by rw [hG]; exact Blk.new W1 _ _)
  have HBa : Hid (Below W1.heap.size W1 Wa) := by
    show Below _ _ _
    rw [hWa]; exact below_setRow ((Below.refl _ _).alloc (Nat.le_refl _) _) (by omega) _
  have hsza : Wa.heap.size = G + 1 := by rw [hWa, hG]; simp [World.setRow]
  have HSa : Hid (Blk Wa N 80 (U s)) := HS1.out.below HBa.out HS1.out.lt
  have hKa : Hid (Laid Wa) := hK1.out.below HBa.out hK1.out.size
  obtain ⟨W, hW⟩ : ∃ W, W = (Wa.alloc (.cells (U (Zs 8)) 80)).setRow (G + 1) (U s) := ⟨_, rfl⟩
  have HBw : Hid (Below Wa.heap.size Wa W) := by
    show Below _ _ _
    rw [hW]; exact below_setRow ((Below.refl _ _).alloc (Nat.le_refl _) _) (by omega) _
  have hKw : Hid (Laid W) := hKa.out.below HBw.out hKa.out.size
  obtain ⟨tk, frk, hk1⟩ := hKw.out.2
  have HK1 := Lib.hid hk1
  clear hk1 hKw
  have HGw : Hid (Blk W (G + 1) 80 (U s)) := by
    show Blk _ _ _ _
    rw [hW]
    exact setRow_heap _ (G + 1) _ _ _ _ (by rw [← hsza]; exact Blk.new Wa _ _)
  go_wp2_with (first
    | (with_reducible refine wpList_alloc_run _ rfl 91 rfl (alloc_w64 _) ?_)
    | (with_reducible refine wpList_alloc_run _ rfl 80 rfl (alloc_w8 _) ?_)
    | (refine wpList_store_row rfl 91 _ _ rfl W1.heap.size (U ws) rfl rfl 91 (U (Zs 64)) (Blk.new W1 _ _) (by rw [U_size, HLW.out]; exact size_w64) (by rw [U_size, U_size, HLW.out]; rfl) (U_one _) ?_; rw [← hG, ← hWa])
    | (refine wpList_store_row rfl 80 _ _ rfl (G + 1) (U s) (by rw [← hsza]; rfl) rfl 80 (U (Zs 8)) (by rw [← hsza]; exact Blk.new Wa _ _) (by rw [U_size, HL8.out]; exact size_w8) (by rw [U_size, U_size, HL8.out]; rfl) (U_one _) ?_; rw [← hW])
    | (refine wpList_load_row rfl 80 _ rfl N rfl 80 (U s) (0, 0) _ HSa.out Tryd.underlying80 rfl (by rw [U_size, HL8.out]; exact size_w8) ?_)
    | (refine wpList_load_row rfl 91 _ rfl 1 rfl tk (U ks) frk _ HK1.out Tryd.underlying91 rfl (by rw [U_size]; exact size_w64) ?_))
  rw [← hG, ← hWa, ← hW]
  have hszw : W.heap.size = G + 2 := by rw [hW]; simp [World.setRow, hsza]
  have HGs : Hid (Blk W G 91 (U ws)) := HGa.out.below HBw.out (by omega)
  have HRw : Hid (Blk W (N + 1 + 1) 80 (U (Zs 8))) := (HR1.out.below HBa.out HR1.out.lt).below HBw.out (by omega)
  have HSw : Hid (Blk W N 80 (U s)) := HSa.out.below HBw.out (by omega)
  have HBW : Hid (Below w.heap.size w W) := (HB1.out.trans (HBa.out.mono (by have := HN.out; omega))).trans (HBw.out.mono (by have := HN.out; omega))
  have hNG : N + 1 + 1 < G := by omega
  clear hW hWa hG HGa HBa HSa hKa HBw HK1 HS1 HR1 hK1 HB1 hsza hsz1 hsz0
  go_loopw [16] (fun i wr => ∃ k : Nat, k ≤ 64 ∧ i = .int .i64 (k : Int) ∧ Hid (WSt W wr (G + 1) 80 (rounds s (ks.take k) (ws.take k)))) (fun i _ => 64 - (intOf i).toNat)
  case atStart => exact ⟨0, Nat.zero_le _, rfl, HGw.out, Below.refl _ _⟩
  case round =>
    obtain ⟨k, hk, rfl, hs⟩ := hrel
    by_cases hlt : k < 64
    · have hix := fun w => ix_w64 (show ks.length = 64 by rfl) hlt w
      have hkk : ks[k]? = some (ks.getD k 0) := by rw [List.getD_eq_getElem?_getD, List.getElem?_eq_getElem hlt]; rfl
      have hwk : ws[k]? = some (ws.getD k 0) := by rw [List.getD_eq_getElem?_getD, List.getElem?_eq_getElem (by rw [HLW.out]; exact hlt)]; rfl
      have HT := Lib.hid (rounds_take (s := s) hkk hwk)
      obtain ⟨kk, hkd⟩ : ∃ x, x = ks.getD k 0 := ⟨_, rfl⟩
      obtain ⟨wk, hwd⟩ : ∃ x, x = ws.getD k 0 := ⟨_, rfl⟩
      rw [← hkd] at hix hkk HT
      rw [← hwd] at hwk HT
      have h8 := W8.rounds (ks.take k) (ws.take k) HW8.out
      obtain ⟨t, ht⟩ : ∃ t, t = rounds s (ks.take k) (ws.take k) := ⟨_, rfl⟩
      rw [← ht] at h8 hs HT
      clear ht hkd hwd hkk
      obtain ⟨x0, x1, x2, x3, x4, x5, x6, x7, rfl⟩ : ∃ x0 x1 x2 x3 x4 x5 x6 x7, t = [x0, x1, x2, x3, x4, x5, x6, x7] := by
        match t, h8.1 with
        | [a, b, c, d, e, f, g, h], _ => exact ⟨_, _, _, _, _, _, _, _, rfl⟩
      have b0 : x0 < 4294967296 := h8.lt 0
      have b1 : x1 < 4294967296 := h8.lt 1
      have b2 : x2 < 4294967296 := h8.lt 2
      have b3 : x3 < 4294967296 := h8.lt 3
      have b4 : x4 < 4294967296 := h8.lt 4
      have b5 : x5 < 4294967296 := h8.lt 5
      have b6 : x6 < 4294967296 := h8.lt 6
      have b7 : x7 < 4294967296 := h8.lt 7
      clear h8
      obtain ⟨y, p1, n, p2, p3, o1, r1, e1, e2, e3, e4, e5, bo1, HO1⟩ := oneU (k := kk) (w := wk) (x7 := x7) b4 b5 b6
      obtain ⟨z, q1, q2, q3, q4, q5, o2, r2, f1, f2, f3, f4, f5, f6, bo2, HO2⟩ := twoU b0 b1 b2
      have HU := Lib.hid (U_step x0 x1 x2 x3 x4 x5 x6 x7 kk wk o1 o2 HO1.out HO2.out)
      have cw := (HGs.out.below hs.out.2 (by omega)).cell k
      rw [U_get, hwk] at cw
      have c4 := hs.out.1.cell 4
      have c5 := hs.out.1.cell 5
      have c6 := hs.out.1.cell 6
      have c7 := hs.out.1.cell 7
      simp only [U_get, List.getElem?_cons_succ, List.getElem?_cons_zero, Option.map_some] at c4 c5 c6 c7 cw
      go_wp2
      go_quiet ((go_at_call 50; exact quiet_left (r1 _)))
      go_wp2
      obtain ⟨W2, hW2⟩ : ∃ V, V = wr.drewN nq := ⟨_, rfl⟩
      have HS2 : Hid (WSt W W2 (G + 1) 80 (U8 x0 x1 x2 x3 x4 x5 x6 x7)) := by rw [hW2]; exact hs.out.drew _
      rw [← hW2]
      clear hW2 hs c4 c5 c6 c7 cw r1 e1 e2 e3 e4 e5
      have c0 := HS2.out.1.cell 0
      have c1 := HS2.out.1.cell 1
      have c2 := HS2.out.1.cell 2
      simp only [U8, U_get, List.getElem?_cons_succ, List.getElem?_cons_zero, Option.map_some] at c0 c1 c2
      go_quiet ((go_at_call 50; exact quiet_left (r2 _)))
      go_wp2
      obtain ⟨W3, hW3⟩ : ∃ V, V = W2.drewN nq := ⟨_, rfl⟩
      have HS3 : Hid (WSt W W3 (G + 1) 80 (U8 x0 x1 x2 x3 x4 x5 x6 x7)) := by rw [hW3]; exact HS2.out.drew _
      rw [← hW3]
      have HF6 := Lib.hid f6
      clear hW3 HS2 c0 c1 c2 r2 f1 f2 f3 f4 f5 f6
      have hcp := copy_u8 (HS3.out.drew 1).1
      have HS4 := Lib.hid (HS3.out.shift (m := U8 x0 x0 x1 x2 x3 x4 x5 x6) (by omega))
      obtain ⟨W4, hW4⟩ : ∃ V, V = W3.drew.setRow (G + 1) (U (U8 x0 x0 x1 x2 x3 x4 x5 x6)) := ⟨_, rfl⟩
      rw [← hW4] at HS4
      have hcp2 : ∀ ty c1 c2, (Builtin.copy_ #[50, 50] ty #[.slice (some ⟨G + 1, 1, none⟩) 7 c1, .slice (some ⟨G + 1, 0, none⟩) 7 c2]).run Tryd.prog W3.drew = .ok (goInt 7) W4 := fun ty c1 c2 => by rw [hW4]; exact hcp ty c1 c2
      clear hcp
      clear hW4 HS3
      go_region
      obtain ⟨a4, ha4⟩ : ∃ a : Nat, a = (x3 + o1) % 4294967296 := ⟨_, rfl⟩
      obtain ⟨a0, ha0⟩ : ∃ a : Nat, a = (o1 + o2) % 4294967296 := ⟨_, rfl⟩
      have i4 : ((x3 : Int) + (o1 : Int)) % 4294967296 = (a4 : Int) := by omega
      have i0 : ((o1 : Int) + ((z : Int) + (q5 : Int))) % 4294967296 = (a0 : Int) := by have := HF6.out; omega
      have c4 := HS4.out.1.cell 4
      have c0 := HS4.out.1.cell 0
      simp only [U8, U_get, List.getElem?_cons_succ, List.getElem?_cons_zero, Option.map_some] at c4 c0
      have z4 := HS4.out.1.frozen 4
      have z0 := HS4.out.1.frozen 0
      have HE : Hid (WSt W ((W4.setCell ⟨G + 1, 4, none⟩ (.int .u32 (a4 : Int))).setCell ⟨G + 1, 0, none⟩ (.int .u32 (a0 : Int))) (G + 1) 80 (rounds s (ks.take (k + 1)) (ws.take (k + 1)))) := by
        rw [HT.out, HU.out, ← ha4, ← ha0]
        exact (HS4.out.set (by omega) 4 a4).set (by omega) 0 a0
      clear ha4 ha0
      go_wp2
      go_roundw
      case rel => exact ⟨k + 1, by omega, by go_num, HE⟩
      case measure => simp [intOf]; omega
    · obtain rfl : k = 64 := by omega
      obtain ⟨t, ht⟩ : ∃ t, t = rounds s ks ws := ⟨_, rfl⟩
      have h8 : W8 t := by rw [ht]; exact W8.rounds _ _ HW8.out
      have HS : Hid (WSt W wr (G + 1) 80 (addP t s 0)) := by
        have h := hs.out
        rw [show ks.take 64 = ks by rfl, show ws.take 64 = ws by rw [← HLW.out]; exact List.take_length, ← ht] at h
        rw [addP_zero]
        exact h
      have HT := Lib.hid ht
      clear hs ht
      go_wp2
      go_loopw [79] (fun i wr => ∃ j : Nat, j ≤ 8 ∧ i = .int .i64 (j : Int) ∧ Hid (WSt W wr (G + 1) 80 (addP t s j))) (fun i _ => 8 - (intOf i).toNat)
      case atStart => exact ⟨0, Nat.zero_le _, rfl, HS⟩
      case round =>
        obtain ⟨j, hj, rfl, hs⟩ := hrel
        by_cases hlt : j < 8
        · obtain ⟨e1, e2, e3, e4⟩ := addP_step (t := t) (s := s) (by rw [h8.1, HL8.out]) (i := j) (by rw [h8.1]; exact hlt)
          obtain ⟨x, hx⟩ : ∃ x, x = t.getD j 0 := ⟨_, rfl⟩
          obtain ⟨y, hy⟩ : ∃ x, x = s.getD j 0 := ⟨_, rfl⟩
          rw [← hx, ← hy] at e1
          rw [← hx] at e3
          rw [← hy] at e4
          have c1 := hs.out.1.cell j
          rw [U_get, e3] at c1
          have c2 := (HSw.out.below hs.out.2 (by omega)).cell j
          rw [U_get, e4] at c2
          simp only [Option.map_some] at c1 c2
          have hfz := hs.out.1.frozen j
          obtain ⟨v, hv⟩ : ∃ v : Nat, v = (x + y) % 4294967296 := ⟨_, rfl⟩
          have hvi : ((x : Int) + (y : Int)) % 4294967296 = (v : Int) := by omega
          have HE : Hid (WSt W (wr.setCell ⟨G + 1, j, none⟩ (.int .u32 (v : Int))).drew (G + 1) 80 (addP t s (j + 1))) := by
            rw [e1, ← hv]
            exact (hs.out.set (by omega) _ _).drew 1
          clear hx hy e1 e3 e4 hv
          go_wp2
          go_region
          go_wp2
          go_roundw
          case rel => exact ⟨j + 1, by omega, by go_num, HE⟩
          case measure => simp [intOf]; omega
        · obtain rfl : j = 8 := by omega
          have hm : addP t s 8 = mix s l := by
            rw [← h8.1, addP_all (by rw [h8.1, HL8.out]), HT.out, HWS.out]; rfl
          rw [hm] at hs
          obtain ⟨m, hmd⟩ : ∃ m, m = mix s l := ⟨_, rfl⟩
          have HM := Lib.hid hmd
          have hlm : m.length = 8 := by rw [hmd]; exact (W8.mix HW8.out l).1
          rw [← hmd] at hs
          have HLM := Lib.hid hlm
          clear hm hmd
          have HR : Hid (Blk wr (N + 1 + 1) 80 (U (Zs 8))) := HRw.out.below hs.out.2 (by omega)
          have HS1 := Lib.hid hs.out.1
          go_wp2_with (first
            | (refine wpList_load_row rfl 80 _ rfl (G + 1) rfl 80 (U m) (0, 0) _ HS1.out Tryd.underlying80 rfl (by rw [U_size, HLM.out]; exact size_w8) ?_)
            | (refine wpList_store_row rfl 80 _ _ rfl (N + 1 + 1) (U m) rfl rfl 80 (U (Zs 8)) HR.out (by rw [U_size, HLM.out]; exact size_w8) (by rw [U_size, U_size, HLM.out]; rfl) (U_one _) ?_))
          refine bodyPost_ret (results_cell_row Tryd.results42 _ _ (N + 1 + 1) 80 (U m) (0, 0) _ rfl (setRow_heap wr (N + 1 + 1) _ _ _ _ HR.out) Tryd.underlying80 rfl (by rw [U_size, HLM.out]; exact size_w8)) rfl ?_
          refine ⟨by rw [HM.out], ?_⟩
          exact below_setRow (HBW.out.trans (hs.out.2.mono (by have := HN.out; omega))) (by have := HN.out; omega) _
end Go.Proofs.YtmbgjijajakgeaaDoor.Sha
