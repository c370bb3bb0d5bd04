/-
  Contracts of package mac: ending.
-/
import Derived.Test.YtmbgjijajakgeaaDoorMac3
import Derived.Test.YtmbgjijajakgeaaDoorMacPl2
set_option linter.unusedVariables false
set_option linter.unusedSimpArgs false
namespace Go.Proofs.YtmbgjijajakgeaaDoor.Sha
open Go.ChangeShapes Go.WideShapes Go.ChangeAt Go.RowKit Go.Proofs.YtmbgjijajakgeaaDoor.Words

theorem wpList_make_run {P : Program} (w : World) {ops : Array Oper} {rest : List Oper} {o : Oper} {a : Act} {Q : Exit → Act → World → Prop} (hgd : o.guard = none) (t : TypeId) (x y : Operand) (ho : o.op = .makeSlice t x y) {vx vy v' : Value} {w' : World} (hx : a.eval x = vx) (hy : a.eval y = vy)
    (hr : (Instr.makeSlice t vx vy).run P w = .ok v' w') (h : wpList P ops Q rest (a.put o.dst v') w') : wpList P ops Q (o :: rest) a w :=
  wpList_plain hgd fun _ hK => by
    unfold Oper.wp execOp
    simp only [ho, hx, hy, Sem.run_bind, Sem.run_pure, Result.andThen_ok, hr]
    exact hK _ _ h
theorem cellV {w : World} {g : Nat} {t : TypeId} {l : List UInt8} (h : Blk w g t (V l)) {i : Nat} (hi : i < l.length) : w.cell? ⟨g, i, none⟩ = some (.int .u8 ((l.getD i 0).toNat : Int)) := by rw [h.cell, V_at hi]
theorem be8_at (n j : Nat) (hn : n ≤ 1000000) (hj : j < 8) : ∃ b : UInt8, (be8 (8 * n))[7 - j]? = some b ∧ (∀ d : Int, d = (2 : Int) ^ (8 * j) → (8 * (n : Int)) / d % 256 = (b.toNat : Int)) := by
  have hj : j = 0 ∨ j = 1 ∨ j = 2 ∨ j = 3 ∨ j = 4 ∨ j = 5 ∨ j = 6 ∨ j = 7 := by omega
  rcases hj with rfl | rfl | rfl | rfl | rfl | rfl | rfl | rfl <;> refine ⟨_, rfl, fun d hd => ?_⟩ <;> rw [UInt8.toNat_ofNat', hd] <;> omega

set_option maxHeartbeats 1000000 in
theorem stE {W wr : World} {g i n j : Nat} {b : UInt8} (h : Hid (Blk (wr.setCell ⟨g, i, none⟩ (.int .u8 (b.toNat : Int))) g 5 (V (endP n j)) ∧ Below W.heap.size W (wr.setCell ⟨g, i, none⟩ (.int .u8 (b.toNat : Int))))) (x : Int) (hx : x = (b.toNat : Int)) :
    Hid (Blk (wr.setCell ⟨g, i, none⟩ (.int .u8 x)) g 5 (V (endP n j)) ∧ Below W.heap.size W (wr.setCell ⟨g, i, none⟩ (.int .u8 x))) := by rw [hx]; exact h
set_option maxHeartbeats 1000000 in
/-- ending: a new block that holds just these bytes. -/
theorem end_any (n : Nat) (hn : n ≤ 1000000) (w : World) :
    Calls Tryd.prog 41 #[.int .u64 (n : Int)] w fun e w' => ∃ g m, e = .returned (.slice (some ⟨g, 0, none⟩) m m) ∧ m = (endL n).length ∧ w.heap.size ≤ g ∧ Blk w' g 5 (V (endL n)) ∧ Below w.heap.size w w' := by
  obtain ⟨i0, hi0, hz0, hz1, hz2⟩ := info_parts3 u8_info
  obtain ⟨z, hz⟩ : ∃ z, z = zerosN n := ⟨_, rfl⟩
  have hzl : z < 64 := by rw [hz]; exact Nat.mod_lt _ (by decide)
  obtain ⟨m, hm⟩ : ∃ m, m = z + 9 := ⟨_, rfl⟩
  have hA : 1 + -(((n : Int) + 1 + 8) % 64) % 64 + 8 = (m : Int) := by rw [hm, hz]; unfold zerosN; omega
  have hmk := run_make_rowN (P := Tryd.prog) 22 5 i0 _ Tryd.underlying22 hi0 hz0 .u64 .u64 m m (Nat.le_refl _) (by rw [hz2]; omega) (by omega) w
  have HZ := Lib.hid hz
  have hV : madeCells (Value.int .u8 0).cells (m * i0.size) = V (Zb m) := by
    rw [hz1, Nat.mul_one]
    apply Array.ext'
    show (madeCells #[.int .u8 0] m).toList = _
    rw [toList_madeCells_one]
    simp [V, u8s, Zb]
  rw [hV] at hmk
  have hm64 : (m : Int) < 18446744073709551616 := by omega
  have h0 : 9 ≤ m := by omega
  have h72 : m ≤ 72 := by omega
  have HM := Lib.hid hm
  have HA := Lib.hid hA
  obtain ⟨W1, hW1⟩ : ∃ W, W = w.alloc (.cells (V (Zb m)) 5) := ⟨_, rfl⟩
  obtain ⟨g, hg⟩ : ∃ g, g = w.heap.size := ⟨_, rfl⟩
  have HB1 : Hid (Blk W1 g 5 (V (Zb m))) := by rw [hW1, hg]; exact Blk.new w _ _
  have HW1 : Hid (Below w.heap.size w W1) := by rw [hW1]; exact (Below.refl _ _).alloc (Nat.le_refl _) _
  rw [← hW1, ← hg] at hmk
  have hZl : (Zb m).length = m := by simp [Zb]
  have c0 := cellV HB1.out (i := 0) (by rw [hZl]; omega)
  have z0 := HB1.out.frozen 0
  have HG := Lib.hid hg
  have HMK := Lib.hid hmk
  clear hmk hA hm hW1 hg hZl hz hV hi0 hz0 hz1 hz2
  go_enter Tryd.func41, Tryd.ntmps41
  go_wp2_with (refine wpList_make_run _ rfl 22 _ _ rfl (congrArg (Value.int .u64) HA.out) (congrArg (Value.int .u64) HA.out) HMK.out ?_)
  have H0 : Hid (Blk (W1.setCell ⟨g, 0, none⟩ (.int .u8 128)) g 5 (V (endP n 0)) ∧ Below w.heap.size w (W1.setCell ⟨g, 0, none⟩ (.int .u8 128))) := by
    have e : (Zb m).set 0 128 = endP n 0 := by
      rw [HM.out, HZ.out]
      simp [Zb, endP, be8, List.replicate_succ]
    rw [← e, ← V_set]
    exact ⟨HB1.out.set_ _ _, HW1.out.setCell (p := ⟨g, _, none⟩) (by rw [HG.out]; exact Nat.le_refl _) _⟩
  go_loopw [20] (fun i wr => ∃ j : Nat, j ≤ 8 ∧ i = .int .i64 (j : Int) ∧ Hid (Blk wr g 5 (V (endP n j)) ∧ Below w.heap.size w wr)) (fun i _ => 8 - (intOf i).toNat)
  case atStart => exact ⟨0, Nat.zero_le _, rfl, H0⟩
  case round =>
    obtain ⟨j, hj, rfl, hs⟩ := hrel
    by_cases hlt : j < 8
    · have h8 : j = 0 ∨ j = 1 ∨ j = 2 ∨ j = 3 ∨ j = 4 ∨ j = 5 ∨ j = 6 ∨ j = 7 := by omega
      rcases h8 with rfl | rfl | rfl | rfl | rfl | rfl | rfl | rfl
      · have c1 := cellV hs.out.1 (i := m - 1) (by rw [endP_length _ _ (by omega), ← HZ.out]; have := HM.out; omega)
        have z1 := hs.out.1.frozen (m - 1)
        obtain ⟨b, hb, hv⟩ := be8_at n 0 hn (by omega)
        have HE : Hid (Blk (wr.setCell ⟨g, m - 1, none⟩ (.int .u8 (b.toNat : Int))) g 5 (V (endP n (0 + 1))) ∧ Below w.heap.size w (wr.setCell ⟨g, m - 1, none⟩ (.int .u8 (b.toNat : Int)))) := by
          rw [endP_step n 0 (by omega) b hb, ← V_set, ← HZ.out, show 8 + z - 0 = m - 1 by have := HM.out; omega]
          exact ⟨hs.out.1.set_ _ _, hs.out.2.setCell (p := ⟨g, _, none⟩) (by rw [HG.out]; exact Nat.le_refl _) _⟩
        have HV := Lib.hid hv
        clear hv hb
        go_wp2
        go_roundw
        case rel => exact ⟨1, by omega, rfl, stE (g := g) (i := m - 1) (n := n) (j := 1) (W := w) (b := b) HE _ (by have h := HV.out 1 (by decide); omega)⟩
        case measure => simp [intOf]
      · have c1 := cellV hs.out.1 (i := m - 1 - 1) (by rw [endP_length _ _ (by omega), ← HZ.out]; have := HM.out; omega)
        have z1 := hs.out.1.frozen (m - 1 - 1)
        obtain ⟨b, hb, hv⟩ := be8_at n 1 hn (by omega)
        have HE : Hid (Blk (wr.setCell ⟨g, m - 1 - 1, none⟩ (.int .u8 (b.toNat : Int))) g 5 (V (endP n (1 + 1))) ∧ Below w.heap.size w (wr.setCell ⟨g, m - 1 - 1, none⟩ (.int .u8 (b.toNat : Int)))) := by
          rw [endP_step n 1 (by omega) b hb, ← V_set, ← HZ.out, show 8 + z - 1 = m - 1 - 1 by have := HM.out; omega]
          exact ⟨hs.out.1.set_ _ _, hs.out.2.setCell (p := ⟨g, _, none⟩) (by rw [HG.out]; exact Nat.le_refl _) _⟩
        have HV := Lib.hid hv
        clear hv hb
        go_wp2
        go_roundw
        case rel => exact ⟨2, by omega, rfl, stE (g := g) (i := m - 1 - 1) (n := n) (j := 2) (W := w) (b := b) HE _ (by have h := HV.out 256 (by decide); omega)⟩
        case measure => simp [intOf]
      · have c1 := cellV hs.out.1 (i := m - 1 - 2) (by rw [endP_length _ _ (by omega), ← HZ.out]; have := HM.out; omega)
        have z1 := hs.out.1.frozen (m - 1 - 2)
        obtain ⟨b, hb, hv⟩ := be8_at n 2 hn (by omega)
        have HE : Hid (Blk (wr.setCell ⟨g, m - 1 - 2, none⟩ (.int .u8 (b.toNat : Int))) g 5 (V (endP n (2 + 1))) ∧ Below w.heap.size w (wr.setCell ⟨g, m - 1 - 2, none⟩ (.int .u8 (b.toNat : Int)))) := by
          rw [endP_step n 2 (by omega) b hb, ← V_set, ← HZ.out, show 8 + z - 2 = m - 1 - 2 by have := HM.out; omega]
          exact ⟨hs.out.1.set_ _ _, hs.out.2.setCell (p := ⟨g, _, none⟩) (by rw [HG.out]; exact Nat.le_refl _) _⟩
        have HV := Lib.hid hv
        clear hv hb
        go_wp2
        go_roundw
        case rel => exact ⟨3, by omega, rfl, stE (g := g) (i := m - 1 - 2) (n := n) (j := 3) (W := w) (b := b) HE _ (by have h := HV.out 65536 (by decide); omega)⟩
        case measure => simp [intOf]
      · have c1 := cellV hs.out.1 (i := m - 1 - 3) (by rw [endP_length _ _ (by omega), ← HZ.out]; have := HM.out; omega)
        have z1 := hs.out.1.frozen (m - 1 - 3)
        obtain ⟨b, hb, hv⟩ := be8_at n 3 hn (by omega)
        have HE : Hid (Blk (wr.setCell ⟨g, m - 1 - 3, none⟩ (.int .u8 (b.toNat : Int))) g 5 (V (endP n (3 + 1))) ∧ Below w.heap.size w (wr.setCell ⟨g, m - 1 - 3, none⟩ (.int .u8 (b.toNat : Int)))) := by
          rw [endP_step n 3 (by omega) b hb, ← V_set, ← HZ.out, show 8 + z - 3 = m - 1 - 3 by have := HM.out; omega]
          exact ⟨hs.out.1.set_ _ _, hs.out.2.setCell (p := ⟨g, _, none⟩) (by rw [HG.out]; exact Nat.le_refl _) _⟩
        have HV := Lib.hid hv
        clear hv hb
        go_wp2
        go_roundw
        case rel => exact ⟨4, by omega, rfl, stE (g := g) (i := m - 1 - 3) (n := n) (j := 4) (W := w) (b := b) HE _ (by have h := HV.out 16777216 (by decide); omega)⟩
        case measure => simp [intOf]
      · have c1 := cellV hs.out.1 (i := m - 1 - 4) (by rw [endP_length _ _ (by omega), ← HZ.out]; have := HM.out; omega)
        have z1 := hs.out.1.frozen (m - 1 - 4)
        obtain ⟨b, hb, hv⟩ := be8_at n 4 hn (by omega)
        have HE : Hid (Blk (wr.setCell ⟨g, m - 1 - 4, none⟩ (.int .u8 (b.toNat : Int))) g 5 (V (endP n (4 + 1))) ∧ Below w.heap.size w (wr.setCell ⟨g, m - 1 - 4, none⟩ (.int .u8 (b.toNat : Int)))) := by
          rw [endP_step n 4 (by omega) b hb, ← V_set, ← HZ.out, show 8 + z - 4 = m - 1 - 4 by have := HM.out; omega]
          exact ⟨hs.out.1.set_ _ _, hs.out.2.setCell (p := ⟨g, _, none⟩) (by rw [HG.out]; exact Nat.le_refl _) _⟩
        have HV := Lib.hid hv
        clear hv hb
        go_wp2
        go_roundw
        case rel => exact ⟨5, by omega, rfl, stE (g := g) (i := m - 1 - 4) (n := n) (j := 5) (W := w) (b := b) HE _ (by have h := HV.out 4294967296 (by decide); omega)⟩
        case measure => simp [intOf]
      · have c1 := cellV hs.out.1 (i := m - 1 - 5) (by rw [endP_length _ _ (by omega), ← HZ.out]; have := HM.out; omega)
        have z1 := hs.out.1.frozen (m - 1 - 5)
        obtain ⟨b, hb, hv⟩ := be8_at n 5 hn (by omega)
        have HE : Hid (Blk (wr.setCell ⟨g, m - 1 - 5, none⟩ (.int .u8 (b.toNat : Int))) g 5 (V (endP n (5 + 1))) ∧ Below w.heap.size w (wr.setCell ⟨g, m - 1 - 5, none⟩ (.int .u8 (b.toNat : Int)))) := by
          rw [endP_step n 5 (by omega) b hb, ← V_set, ← HZ.out, show 8 + z - 5 = m - 1 - 5 by have := HM.out; omega]
          exact ⟨hs.out.1.set_ _ _, hs.out.2.setCell (p := ⟨g, _, none⟩) (by rw [HG.out]; exact Nat.le_refl _) _⟩
        have HV := Lib.hid hv
        clear hv hb
        go_wp2
        go_roundw
        case rel => exact ⟨6, by omega, rfl, stE (g := g) (i := m - 1 - 5) (n := n) (j := 6) (W := w) (b := b) HE _ (by have h := HV.out 1099511627776 (by decide); omega)⟩
        case measure => simp [intOf]
      · have c1 := cellV hs.out.1 (i := m - 1 - 6) (by rw [endP_length _ _ (by omega), ← HZ.out]; have := HM.out; omega)
        have z1 := hs.out.1.frozen (m - 1 - 6)
        obtain ⟨b, hb, hv⟩ := be8_at n 6 hn (by omega)
        have HE : Hid (Blk (wr.setCell ⟨g, m - 1 - 6, none⟩ (.int .u8 (b.toNat : Int))) g 5 (V (endP n (6 + 1))) ∧ Below w.heap.size w (wr.setCell ⟨g, m - 1 - 6, none⟩ (.int .u8 (b.toNat : Int)))) := by
          rw [endP_step n 6 (by omega) b hb, ← V_set, ← HZ.out, show 8 + z - 6 = m - 1 - 6 by have := HM.out; omega]
          exact ⟨hs.out.1.set_ _ _, hs.out.2.setCell (p := ⟨g, _, none⟩) (by rw [HG.out]; exact Nat.le_refl _) _⟩
        have HV := Lib.hid hv
        clear hv hb
        go_wp2
        go_roundw
        case rel => exact ⟨7, by omega, rfl, stE (g := g) (i := m - 1 - 6) (n := n) (j := 7) (W := w) (b := b) HE _ (by have h := HV.out 281474976710656 (by decide); omega)⟩
        case measure => simp [intOf]
      · have c1 := cellV hs.out.1 (i := m - 1 - 7) (by rw [endP_length _ _ (by omega), ← HZ.out]; have := HM.out; omega)
        have z1 := hs.out.1.frozen (m - 1 - 7)
        obtain ⟨b, hb, hv⟩ := be8_at n 7 hn (by omega)
        have HE : Hid (Blk (wr.setCell ⟨g, m - 1 - 7, none⟩ (.int .u8 (b.toNat : Int))) g 5 (V (endP n (7 + 1))) ∧ Below w.heap.size w (wr.setCell ⟨g, m - 1 - 7, none⟩ (.int .u8 (b.toNat : Int)))) := by
          rw [endP_step n 7 (by omega) b hb, ← V_set, ← HZ.out, show 8 + z - 7 = m - 1 - 7 by have := HM.out; omega]
          exact ⟨hs.out.1.set_ _ _, hs.out.2.setCell (p := ⟨g, _, none⟩) (by rw [HG.out]; exact Nat.le_refl _) _⟩
        have HV := Lib.hid hv
        clear hv hb
        go_wp2
        go_roundw
        case rel => exact ⟨8, by omega, rfl, stE (g := g) (i := m - 1 - 7) (n := n) (j := 8) (W := w) (b := b) HE _ (by have h := HV.out 72057594037927936 (by decide); omega)⟩
        case measure => simp [intOf]
    · obtain rfl : j = 8 := by omega
      go_wp2
      go_ret
      exact ⟨g, m, rfl, by rw [endL_length, ← HZ.out, HM.out]; omega, by rw [HG.out]; exact Nat.le_refl _, hs.out.1, hs.out.2⟩
end Go.Proofs.YtmbgjijajakgeaaDoor.Sha
