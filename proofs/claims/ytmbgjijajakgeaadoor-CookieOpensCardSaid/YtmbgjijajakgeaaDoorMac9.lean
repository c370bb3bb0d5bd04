/-
  Contracts of package mac: masked, Same.
-/
import Derived.Test.YtmbgjijajakgeaaDoorMac8
set_option linter.unusedVariables false
set_option linter.unusedSimpArgs false
namespace Go.Proofs.YtmbgjijajakgeaaDoor.Sha
open Go.ChangeShapes Go.WideShapes Go.ChangeAt Go.RowKit Go.Proofs.YtmbgjijajakgeaaDoor.Words

theorem slice_all64 (g : Nat) (w : World) : (Instr.sliceAt 67 (.pointer (some ⟨g, 0, none⟩)) none none none).run Tryd.prog w = .ok (.slice (some ⟨g, 0, none⟩) 64 64) w := by
  have hal : Tryd.prog.arrayLen 67 = 64 := by kernel_rfl
  have hel : Tryd.prog.elem 67 = 5 := by kernel_rfl
  have h := run_sliceAt_array_all (P := Tryd.prog) w 67 ⟨g, 0, none⟩ (by rw [hal, hel]; exact Tryd.underlying67)
  obtain ⟨i, hi, hz, hs, hb⟩ := info_parts3 u8_info
  rw [h, hal, hel]
  simp [sizeOf, typeInfo, hi, hs, slicedAt, Addr.add]
theorem slice_all32 (g : Nat) (w : World) : (Instr.sliceAt 41 (.pointer (some ⟨g, 0, none⟩)) none none none).run Tryd.prog w = .ok (.slice (some ⟨g, 0, none⟩) 32 32) w := by
  have hal : Tryd.prog.arrayLen 41 = 32 := by kernel_rfl
  have hel : Tryd.prog.elem 41 = 5 := by kernel_rfl
  have h := run_sliceAt_array_all (P := Tryd.prog) w 41 ⟨g, 0, none⟩ (by rw [hal, hel]; exact Tryd.underlying41)
  obtain ⟨i, hi, hz, hs, hb⟩ := info_parts3 u8_info
  rw [h, hal, hel]
  simp [sizeOf, typeInfo, hi, hs, slicedAt, Addr.add]
/-- The key while it is masked. -/
def maskP (m : UInt8) (k : List UInt8) (i : Nat) : List UInt8 := mask m (k.take i) ++ k.drop i
theorem maskP_step (m : UInt8) {k : List UInt8} {i : Nat} (hi : i < k.length) : maskP m k (i + 1) = (maskP m k i).set i (k.getD i 0 ^^^ m) ∧ (maskP m k i)[i]? = some (k.getD i 0) := by
  have hd : k.drop i = k[i] :: k.drop (i + 1) := List.drop_eq_getElem_cons hi
  have hl : (mask m (k.take i)).length = i := by simp [mask]; omega
  have hg : k.getD i 0 = k[i] := by rw [List.getD_eq_getElem?_getD, List.getElem?_eq_getElem hi]; rfl
  unfold maskP
  refine ⟨?_, ?_⟩
  · rw [List.take_succ_eq_append_getElem hi, List.set_append_right _ _ (by omega), hl, Nat.sub_self, hd, List.set_cons_zero, hg]
    simp only [mask, List.map_append, List.map_cons, List.map_nil, List.append_assoc, List.cons_append, List.nil_append]
  · rw [List.getElem?_append_right (by omega), hl, Nat.sub_self, hd, List.getElem?_cons_zero, hg]
theorem xor_u8 (a b : UInt8) : bits .xor .u8 (a.toNat : Int) (b.toNat : Int) = ((a ^^^ b).toNat : Int) := by
  rw [u8_xor_nat _ _ a.toNat_lt b.toNat_lt, UInt8.toNat_xor]
set_option maxRecDepth 20000 in
set_option maxHeartbeats 1000000 in
theorem masked_any (k : List UInt8) (hk : k.length = 64) (m : UInt8) (v : Int) (hv : v = (m.toNat : Int)) (w : World) :
    Calls Tryd.prog 30 #[.agg (V k), .int .u8 v] w fun e w' => ∃ g, e = .returned (.slice (some ⟨g, 0, none⟩) 64 64) ∧ g = w.heap.size ∧ Blk w' g 67 (V (mask m k)) ∧ Below w.heap.size w w' := by
  subst hv
  have HK := Lib.hid hk
  clear hk
  obtain ⟨N, hN⟩ : ∃ N, N = w.heap.size := ⟨_, rfl⟩
  obtain ⟨W1, hW1⟩ : ∃ Wn, Wn = w.alloc (.cells (V k) 67) := ⟨_, rfl⟩
  have hs0 : Hid (Blk W1 N 67 (V (maskP m k 0)) ∧ Below w.heap.size w W1) := by
    rw [hW1, hN]
    exact ⟨Blk.new w _ _, (Below.refl _ _).alloc (Nat.le_refl _) _⟩
  have HN := Lib.hid hN
  clear hN
  have hsl := fun W => slice_all64 N W
  have hmb := u8_bd m
  go_enter Tryd.func30, Tryd.ntmps30
  go_wp2
  rw [← hW1, ← HN.out]
  clear hW1
  go_loopw [6] (fun i wr => ∃ j : Nat, j ≤ 64 ∧ i = .int .i64 (j : Int) ∧ Hid (Blk wr N 67 (V (maskP m k j)) ∧ Below w.heap.size w wr)) (fun i _ => 64 - (intOf i).toNat)
  case atStart => exact ⟨0, Nat.zero_le _, rfl, hs0⟩
  case round =>
    obtain ⟨j, hj, rfl, hs⟩ := hrel
    by_cases hlt : j < 64
    · obtain ⟨h1, h2⟩ := maskP_step m (k := k) (i := j) (by rw [HK.out]; exact hlt)
      obtain ⟨b, hb⟩ : ∃ b, b = k.getD j 0 := ⟨_, rfl⟩
      rw [← hb] at h1 h2
      have c1 := hs.out.1.cell j
      rw [V_get, h2] at c1
      simp only [Option.map_some] at c1
      have z1 := hs.out.1.frozen j
      have hx := xor_u8 b m
      have hbb := u8_bd b
      obtain ⟨y, hy⟩ : ∃ y, y = b ^^^ m := ⟨_, rfl⟩
      rw [← hy] at hx h1
      have HE : Hid (Blk (wr.setCell ⟨N, j, none⟩ (.int .u8 (y.toNat : Int))) N 67 (V (maskP m k (j + 1))) ∧ Below w.heap.size w (wr.setCell ⟨N, j, none⟩ (.int .u8 (y.toNat : Int)))) := by
        rw [h1, ← V_set]
        exact ⟨hs.out.1.set_ _ _, hs.out.2.setCell (p := ⟨N, j, none⟩) (by rw [HN.out]; exact Nat.le_refl _) _⟩
      clear hy h1 h2 hb
      go_wp2
      go_roundw
      case rel => exact ⟨j + 1, by omega, by go_num, HE⟩
      case measure => simp [intOf]; omega
    · obtain rfl : j = 64 := by omega
      have hm : maskP m k 64 = mask m k := by unfold maskP; rw [List.take_of_length_le (by rw [HK.out]; exact Nat.le_refl _), List.drop_of_length_le (by rw [HK.out]; exact Nat.le_refl _), List.append_nil]
      rw [hm] at hs
      clear hm
      go_wp2
      go_ret
      exact ⟨N, rfl, HN.out, hs.out.1, hs.out.2⟩

/-- What two seals differ by, as far as byte i. -/
def diffP (a b : List UInt8) (i : Nat) : UInt8 := ((a.zip b).take i).foldl (fun d x => d ||| (x.1 ^^^ x.2)) 0
theorem or_zero {a b : UInt8} (h : a ||| b = 0) : a = 0 ∧ b = 0 := by
  have h1 := congrArg UInt8.toNat h
  rw [UInt8.toNat_or] at h1
  have h2 : a.toNat ||| b.toNat = 0 := h1
  obtain ⟨h3, h4⟩ := Nat.or_eq_zero_iff.1 h2
  exact ⟨UInt8.toNat_inj.1 h3, UInt8.toNat_inj.1 h4⟩
theorem xor_zero {a b : UInt8} (h : a ^^^ b = 0) : a = b := by
  have : a ^^^ b ^^^ b = 0 ^^^ b := by rw [h]
  rwa [UInt8.xor_assoc, UInt8.xor_self, UInt8.xor_zero, UInt8.zero_xor] at this
theorem fold_zero : ∀ (l : List (UInt8 × UInt8)) (d : UInt8), l.foldl (fun d x => d ||| (x.1 ^^^ x.2)) d = 0 ↔ d = 0 ∧ ∀ x ∈ l, x.1 = x.2
  | [], d => by simp
  | x :: l, d => by
    rw [List.foldl_cons, fold_zero l]
    constructor
    · rintro ⟨h1, h2⟩
      obtain ⟨h3, h4⟩ := or_zero h1
      exact ⟨h3, fun y hy => by rcases List.mem_cons.1 hy with rfl | hy; exact xor_zero h4; exact h2 y hy⟩
    · rintro ⟨rfl, h2⟩
      refine ⟨?_, fun y hy => h2 y (List.mem_cons_of_mem _ hy)⟩
      rw [h2 x (List.mem_cons_self ..), UInt8.xor_self]
      rfl
theorem zip_eq {a b : List UInt8} (h : a.length = b.length) : (∀ x ∈ a.zip b, x.1 = x.2) ↔ a = b := by
  constructor
  · intro hx
    apply List.ext_getElem h
    intro i h1 h2
    have hm : (a[i], b[i]) ∈ a.zip b := by
      have : (a.zip b)[i]? = some (a[i], b[i]) := by simp [List.getElem?_zip_eq_some, h1, h2]
      exact List.mem_of_getElem? this
    exact hx _ hm
  · rintro rfl x hx
    obtain ⟨i, hi⟩ := List.getElem?_of_mem hx
    rw [List.getElem?_zip_eq_some] at hi
    exact Option.some.inj (hi.1.symm.trans hi.2)
set_option maxRecDepth 20000 in
set_option maxHeartbeats 1000000 in
theorem same_any (a b : List UInt8) (ha : a.length = 32) (hb : b.length = 32) (w : World) :
    Calls Tryd.prog 16 #[.agg (V a), .agg (V b)] w fun e w' => e = .returned (.bool (decide (a = b))) ∧ Below w.heap.size w w' := by
  have HA := Lib.hid ha
  have HB := Lib.hid hb
  clear ha hb
  obtain ⟨N, hN⟩ : ∃ N, N = w.heap.size := ⟨_, rfl⟩
  obtain ⟨W1, hW1⟩ : ∃ Wn, Wn = (w.alloc (.cells (V a) 41)).alloc (.cells (V b) 41) := ⟨_, rfl⟩
  have hs0 : Hid (Blk W1 N 41 (V a) ∧ Blk W1 (N + 1) 41 (V b) ∧ Below w.heap.size w W1) := by
    rw [hW1, hN]
    exact ⟨(Blk.new w _ _).alloc _, by simpa using Blk.new (w.alloc (.cells (V a) 41)) 41 (V b), ((Below.refl _ _).alloc (Nat.le_refl _) _).alloc (by simp) _⟩
  have HN := Lib.hid hN
  clear hN
  go_enter Tryd.func16, Tryd.ntmps16
  go_wp2
  rw [← hW1, ← HN.out]
  clear hW1
  go_loopw [5, 7] (fun d i wr => ∃ j : Nat, j ≤ 32 ∧ i = .int .i64 (j : Int) ∧ d = .int .u8 ((diffP a b j).toNat : Int) ∧ Hid (Blk wr N 41 (V a) ∧ Blk wr (N + 1) 41 (V b) ∧ Below w.heap.size w wr)) (fun _ i _ => 32 - (intOf i).toNat)
  case atStart => exact ⟨0, Nat.zero_le _, rfl, rfl, hs0⟩
  case round =>
    obtain ⟨j, hj, rfl, rfl, hs⟩ := hrel
    by_cases hlt : j < 32
    · have c1 := cellV hs.out.1 (i := j) (by rw [HA.out]; exact hlt)
      have c2 := cellV hs.out.2.1 (i := j) (by rw [HB.out]; exact hlt)
      obtain ⟨x, hx⟩ : ∃ x, x = a.getD j 0 := ⟨_, rfl⟩
      obtain ⟨y, hy⟩ : ∃ x, x = b.getD j 0 := ⟨_, rfl⟩
      obtain ⟨d, hd⟩ : ∃ d, d = diffP a b j := ⟨_, rfl⟩
      have hst : Hid (diffP a b (j + 1) = d ||| (x ^^^ y)) := by
        have hz : (a.zip b)[j]? = some (x, y) := by
          rw [List.getElem?_zip_eq_some, hx, hy]
          simp [List.getD_eq_getElem?_getD, List.getElem?_eq_getElem (show j < a.length by rw [HA.out]; exact hlt), List.getElem?_eq_getElem (show j < b.length by rw [HB.out]; exact hlt)]
        obtain ⟨h1, h2⟩ := List.getElem?_eq_some_iff.1 hz
        show diffP a b (j + 1) = _
        unfold diffP
        rw [List.take_succ_eq_append_getElem h1, List.foldl_append, h2, hd]
        rfl
      rw [← hx] at c1
      rw [← hy] at c2
      rw [← hd]
      have e1 := xor_u8 x y
      obtain ⟨z, hz⟩ : ∃ z, z = x ^^^ y := ⟨_, rfl⟩
      rw [← hz] at e1 hst
      have e2 : bits .or .u8 (d.toNat : Int) (z.toNat : Int) = ((d ||| z).toNat : Int) := by rw [u8_or_nat _ _ d.toNat_lt z.toNat_lt, UInt8.toNat_or]
      obtain ⟨u, hu⟩ : ∃ u, u = d ||| z := ⟨_, rfl⟩
      rw [← hu] at e2 hst
      have hsd : Hid (Blk wr.drew N 41 (V a) ∧ Blk wr.drew (N + 1) 41 (V b) ∧ Below w.heap.size w wr.drew) := ⟨hs.out.1, hs.out.2.1, hs.out.2.2.os, hs.out.2.2.tape, hs.out.2.2.output, hs.out.2.2.size, hs.out.2.2.block⟩
      clear hx hy hd hz hu
      go_wp2
      go_region
      go_wp2
      go_roundw
      case rel => exact ⟨j + 1, by omega, by go_num, by rw [hst.out], hsd⟩
      case measure => simp [intOf]; omega
    · obtain rfl : j = 32 := by omega
      have hq : (decide (a = b)) = (((diffP a b 32).toNat : Int) == 0) := by
        have h1 : diffP a b 32 = 0 ↔ a = b := by
          unfold diffP
          rw [List.take_of_length_le (by simp [HA.out, HB.out]), fold_zero, ← zip_eq (by rw [HA.out, HB.out])]
          simp
        by_cases h : a = b
        · rw [decide_eq_true h, h1.2 h]
          rfl
        · rw [decide_eq_false h]
          have h2 : (diffP a b 32).toNat ≠ 0 := fun e => h (h1.1 (UInt8.toNat_inj.1 e))
          symm
          rw [beq_eq_false_iff_ne]
          omega
      have HQ := Lib.hid hq
      clear hq
      go_wp2
      go_ret
      exact ⟨ret_bool HQ.out.symm, hs.out.2.2⟩
end Go.Proofs.YtmbgjijajakgeaaDoor.Sha
