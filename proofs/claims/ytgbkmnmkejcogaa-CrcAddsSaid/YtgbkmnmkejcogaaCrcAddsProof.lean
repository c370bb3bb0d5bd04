/-
  PROVED: CrcAdds of flumelaw03 answers true for every input, and its arguments read afterwards as before. CONDITIONS: none beside the form's own.
-/
import Derived.Test.YtgbkmnmkejcogaaRows
import Derived.Test.YtgbkmnmkejcogaaCrcLaw
import Derived.Test.YtgbkmnmkejcogaaRegion
import Derived.WalkKit
import Derived.ProofKit
import Derived.OpenShut
import Derived.ShutString
import Derived.ChangeOld
import Derived.Below
namespace Go.Proofs.Ytgbkmnmkejcogaa.crcAdds
open Go.ChangeShapes Go.WideShapes Go.ChangeAt Go.RowKit
open Go.ChangeMaps (open_string shut_string)
set_option linter.unusedVariables false

theorem own : ownKnob Try.prog.godebug = none := by kernel_rfl
theorem laidOut : laidOutB Try.prog = true := by kernel_rfl

/-- What the walk is told of a slice of integers that came in. -/
def IsRow (k : IntKind) (w : World) (a : Option Addr) (len cap : Nat) (zs : List Int) : Prop :=
  (a = none ∧ len = 0 ∧ cap = 0 ∧ zs = []) ∨
  ∃ x, a = some x ∧ len ≤ cap ∧ cap ≤ maxLen ∧ zs.length = cap ∧ (∀ i, i < zs.length → w.cell? (x.add i) = some (.int k (zs.getD i 0))) ∧ ∀ n ∈ zs, (Lit.int k n).wf = true

/-! ### The walk -/
open Words Crc
set_option linter.unusedSimpArgs false
theorem mixed_cell {wr : World} {B g n k : Nat} {a m : List UInt8} (h : wr.ownsRow B 5 1 (.slice (some ⟨g, 0, none⟩) n n) n (u8s (mixed a m n k))) (hk : k < n) : (∃ q, wr.cell? ⟨g, k, none⟩ = some (.int .u8 q)) ∧ wr.frozen? ⟨g, k, none⟩ = false := by
  have hcell : wr.cell? ⟨g, k, none⟩ = (u8s (mixed a m n k))[k]? := h.cellAt k (by omega)
  rw [u8s_get, List.getElem?_eq_getElem (by rw [mixed_length]; exact hk)] at hcell
  exact ⟨⟨_, hcell⟩, h.frozenAt k⟩
theorem mixed_stored {wr : World} {B g n k : Nat} {a m : List UInt8} (h : wr.ownsRow B 5 1 (.slice (some ⟨g, 0, none⟩) n n) n (u8s (mixed a m n k))) (ha : k < a.length) (hm : k < m.length) :
    (wr.setCell ⟨g, k, none⟩ (.int .u8 (bits .xor .u8 (a[k].toNat : Int) (m[k].toNat : Int)))).ownsRow B 5 1 (.slice (some ⟨g, 0, none⟩) n n) n (u8s (mixed a m n (k + 1))) ∧ wr.grownBy (wr.setCell ⟨g, k, none⟩ (.int .u8 (bits .xor .u8 (a[k].toNat : Int) (m[k].toNat : Int)))) (some g) := by
  have e : bits .xor .u8 (a[k].toNat : Int) (m[k].toNat : Int) = ((a.getD k 0 ^^^ m.getD k 0).toNat : Int) := by
    rw [u8_xor_nat _ _ (u8_lt _) (u8_lt _), UInt8.toNat_xor, List.getD_eq_getElem?_getD, List.getElem?_eq_getElem ha, List.getD_eq_getElem?_getD, List.getElem?_eq_getElem hm]; rfl
  rw [e, mixed, ← u8s_set]
  exact h.stored k _
set_option maxHeartbeats 4000000 in
theorem walk (a0 : Option Addr) (len0 cap0 : Nat) (z0 : List Int) (a1 : Option Addr) (len1 cap1 : Nat) (z1 : List Int) (a2 : Option Addr) (len2 cap2 : Nat) (z2 : List Int) (w : World) (w0 : IsRow .u8 w a0 len0 cap0 z0) (w1 : IsRow .u8 w a1 len1 cap1 z1) (w2 : IsRow .u8 w a2 len2 cap2 z2) :
    Calls Try.prog 5 #[.slice a0 len0 cap0, .slice a1 len1 cap1, .slice a2 len2 cap2] w fun e w' => e = .returned (.bool true) ∧ Below w.heap.size w w' := by
  obtain ⟨la, hlen, hcap0, hc0, hby⟩ := bytes_of w0
  subst hlen
  have HA := Lib.hid hby
  clear hby
  obtain ⟨lb, hlen, hcap1, hc1, hby⟩ := bytes_of w1
  subst hlen
  have HB := Lib.hid hby
  clear hby
  obtain ⟨lm, hlen, hcap2, hc2, hby⟩ := bytes_of w2
  subst hlen
  have HM := Lib.hid hby
  clear hby w0 w1 w2
  obtain ⟨i0, hi0, hz0, hz1, hz2⟩ := info_parts3 u8_info
  obtain ⟨n, hn⟩ : ∃ n : Nat, n = min (min (min la.length lb.length) lm.length) 1000 := ⟨_, rfl⟩
  have hn0 : n ≤ la.length := by omega
  have hn1 : n ≤ lb.length := by omega
  have hn2 : n ≤ lm.length := by omega
  have hn3 : n ≤ 1000 := by omega
  have hmin : ∀ W : World, (Builtin.min_ #[3, 3, 3, 3] 3 #[.int .i64 (la.length : Int), .int .i64 (lb.length : Int), .int .i64 (lm.length : Int), .int .i64 1000]).run Try.prog W = .ok (.int .i64 (n : Int)) W := fun W => by
    rw [run_min_int4, show (n : Int) = min (min (min (la.length : Int) (lb.length : Int)) (lm.length : Int)) 1000 by omega]
  have hmk := fun W : World => run_make_rowN (P := Try.prog) 22 5 i0 (.int .u8 0) Try.underlying22 hi0 hz0 .i64 .i64 n n (Nat.le_refl _) (by rw [hz2]; omega) (by omega) W
  rw [hz1, Nat.mul_one] at hmk
  clear hn
  go_enter Try.func5, Try.ntmps5
  go_wp2_with fail
  refine (first_any w).mono ?_
  rintro e W1 ⟨rfl, hb1⟩
  have HB1 := Lib.hid hb1
  clear hb1
  go_wp2_with fail
  go_cut [8, 9] from 20 to 23 (fun s8 s9 wx => ∃ gx gy : Nat, s8 = .slice (some ⟨gx, 0, none⟩) n n ∧ s9 = .slice (some ⟨gy, 0, none⟩) n n ∧ gx ≠ gy ∧ w.heap.size ≤ gx ∧ w.heap.size ≤ gy ∧ Hid (wx.ownsRow w.heap.size 5 1 (.slice (some ⟨gx, 0, none⟩) n n) n (u8s (List.replicate n 0))) ∧ Hid (wx.ownsRow w.heap.size 5 1 (.slice (some ⟨gy, 0, none⟩) n n) n (u8s (List.replicate n 0))) ∧ Hid (Below w.heap.size w wx))
  case first =>
    have hs1 := HB1.out.size
    have O1 := Lib.hid ((own_zeros W1 w.heap.size n 5 hs1 (by unfold maxLen; omega)).alloc (.cells (madeCells #[.int .u8 0] n) 5))
    have O2 : Hid (((W1.alloc (.cells (madeCells #[.int .u8 0] n) 5)).alloc (.cells (madeCells #[.int .u8 0] n) 5)).ownsRow w.heap.size 5 1 (.slice (some ⟨W1.heap.size + 1, 0, none⟩) n n) n (u8s (List.replicate n 0))) := by
      have := own_zeros (W1.alloc (.cells (madeCells #[.int .u8 0] n) 5)) w.heap.size n 5 (by simp; omega) (by unfold maxLen; omega)
      have e : (W1.alloc (.cells (madeCells #[.int .u8 0] n) 5)).heap.size = W1.heap.size + 1 := by simp
      rw [e] at this
      exact this
    have O3 := Lib.hid (((HB1.out.alloc hs1 (.cells (madeCells #[.int .u8 0] n) 5)).alloc (by simp; omega) (.cells (madeCells #[.int .u8 0] n) 5)).drew)
    go_region
    all_goals
      go_wp2_with fail
      go_meet
      first
        | exact ⟨_, _, rfl, rfl, by omega, by omega, by omega, O1, O2, O3⟩
        | exact ⟨_, _, rfl, rfl, by omega, by omega, by omega, O2, O1, O3⟩
  case rest =>
    obtain ⟨gx, gy, rfl, rfl, hne, hgx, hgy, HOX, HOY, HB2⟩ := hcut
    clear hmk hmin
    go_wp2_with fail
    go_loopw [10, 25] (fun _ i wr => ∃ k : Nat, k ≤ n ∧ i = .int .i64 (k : Int) ∧ Hid (wr.ownsRow w.heap.size 5 1 (.slice (some ⟨gx, 0, none⟩) n n) n (u8s (mixed la lm n k))) ∧ Hid (wr.ownsRow w.heap.size 5 1 (.slice (some ⟨gy, 0, none⟩) n n) n (u8s (mixed lb lm n k))) ∧ Hid (Below w.heap.size w wr)) (fun _ i _ => n - (intOf i).toNat)
    case atStart => exact ⟨0, by omega, rfl, HOX, HOY, HB2⟩
    case round =>
      obtain ⟨k, hk, rfl, hox, hoy, hb⟩ := hrel
      by_cases hlt : k < n
      · obtain ⟨ada, rfl, _, hca⟩ := (HA.out.below hb.out).at_byte (k := k) (by omega)
        obtain ⟨adb, rfl, _, hcb⟩ := (HB.out.below hb.out).at_byte (k := k) (by omega)
        obtain ⟨adm, rfl, _, hcm⟩ := (HM.out.below hb.out).at_byte (k := k) (by omega)
        obtain ⟨⟨qx, hX⟩, hXf⟩ := mixed_cell hox.out hlt
        obtain ⟨⟨qy, hY⟩, hYf⟩ := mixed_cell hoy.out hlt
        go_wp2_with fail
        go_region
        go_wp2_with fail
        have hst := mixed_stored hox.out (show k < la.length by omega) (show k < lm.length by omega)
        obtain ⟨w2, hw2⟩ : ∃ w2, w2 = (wr.setCell ⟨gx, k, none⟩ (.int .u8 (bits .xor .u8 (la[k].toNat : Int) (lm[k].toNat : Int)))).drew := ⟨_, rfl⟩
        have HOX2 : Hid (w2.ownsRow w.heap.size 5 1 (.slice (some ⟨gx, 0, none⟩) n n) n (u8s (mixed la lm n (k + 1)))) := by rw [hw2]; exact hst.1
        have HOY2 : Hid (w2.ownsRow w.heap.size 5 1 (.slice (some ⟨gy, 0, none⟩) n n) n (u8s (mixed lb lm n k))) := by
          rw [hw2]
          have h5 : (wr.setCell ⟨gx, k, none⟩ (.int .u8 (bits .xor .u8 (la[k].toNat : Int) (lm[k].toNat : Int)))).ownsRow w.heap.size 5 1 (.slice (some ⟨gy, 0, none⟩) n n) n (u8s (mixed lb lm n k)) := hoy.out.kept hst.2 (.inr (by show some gy ≠ some gx; intro e; injection e with e; exact hne e.symm))
          exact h5
        have HB3 : Hid (Below w.heap.size w w2) := by rw [hw2]; exact (hb.out.setCell (p := ⟨gx, k, none⟩) hgx _).drew
        rw [← hw2]
        clear hw2 hst hca hcb hcm hX hXf hY hYf hox hoy hb
        obtain ⟨adb', hadb, _, hcb⟩ := (HB.out.below HB3.out).at_byte (k := k) (by omega)
        injection hadb with hadb
        subst hadb
        obtain ⟨adm', hadm, _, hcm⟩ := (HM.out.below HB3.out).at_byte (k := k) (by omega)
        injection hadm with hadm
        subst hadm
        obtain ⟨⟨qy, hY⟩, hYf⟩ := mixed_cell HOY2.out hlt
        go_region
        have hst := mixed_stored HOY2.out (show k < lb.length by omega) (show k < lm.length by omega)
        have HOY3 := Lib.hid hst.1
        have HOX3 := Lib.hid (HOX2.out.kept hst.2 (.inr (by show some gx ≠ some gy; intro e; injection e with e; exact hne e)))
        clear hst
        go_wp2_with fail
        go_roundw
        case rel => exact ⟨k + 1, by omega, by go_num, HOX3.out, HOY3.out, (HB3.out.setCell (p := ⟨gy, k, none⟩) hgy _).drew⟩
        case measure => simp [intOf]; omega
      · obtain rfl : k = n := by omega
        go_wp2_with fail
        have HSUM := Lib.hid (adds_mixed la lb lm k hn0 hn1)
        have lx := mixed_length la lm k k
        have ly := mixed_length lb lm k k
        obtain ⟨x, hx⟩ : ∃ x, x = mixed la lm k k := ⟨_, rfl⟩
        obtain ⟨y, hy⟩ : ∃ y, y = mixed lb lm k k := ⟨_, rfl⟩
        rw [← hx, ← hy] at HSUM
        rw [← hx] at hox lx
        rw [← hy] at hoy ly
        have BX : Byt wr wr.heap.size (some ⟨gx, 0, none⟩) x := by have := hox.out; rw [← lx] at this; exact Reads.of_own this
        have BY : Byt wr wr.heap.size (some ⟨gy, 0, none⟩) y := by have := hoy.out; rw [← ly] at this; exact Reads.of_own this
        have BA := ((HA.out.below hb.out).more hb.out.size).take_ k
        have BB := ((HB.out.below hb.out).more hb.out.size).take_ k
        have S1 := sumL_lt (la.take k)
        have S2 := sumL_lt (lb.take k)
        have S3 := sumL_lt x
        have S4 := sumL_lt y
        have CB := fun (A : Option Addr) (l : List UInt8) (hl : k = l.length) (hB : Byt wr wr.heap.size A l) (V : World) (g c : Nat) (hbV : Below wr.heap.size wr V) (hblk : Blk V g 22 #[.slice A k c]) => sum_any (some ⟨g, 0, none⟩) [l] 1 1 wr.heap.size V (by omega) (parts1 hblk hl (by omega) (hB.below hbV))
        have lta : (la.take k).length = k := by rw [List.length_take]; omega
        have ltb : (lb.take k).length = k := by rw [List.length_take]; omega
        have GA : Hid (∀ (V : World) (g c : Nat), Below wr.drew.heap.size wr.drew V → Blk V g 22 #[.slice a0 k c] → Calls Try.prog 9 #[.slice (some ⟨g, 0, none⟩) 1 1] V fun e w' => e = .returned (.int .u32 ((sumL (la.take k) : Nat) : Int)) ∧ V = w') := fun V g c h1 h2 => by have := CB a0 (la.take k) lta.symm BA V g c ⟨h1.os, h1.tape, h1.output, h1.size, h1.block⟩ h2; rwa [show [la.take k].flatten = la.take k by simp] at this
        have GB : Hid (∀ (V : World) (g c : Nat), Below wr.drew.heap.size wr.drew V → Blk V g 22 #[.slice a1 k c] → Calls Try.prog 9 #[.slice (some ⟨g, 0, none⟩) 1 1] V fun e w' => e = .returned (.int .u32 ((sumL (lb.take k) : Nat) : Int)) ∧ V = w') := fun V g c h1 h2 => by have := CB a1 (lb.take k) ltb.symm BB V g c ⟨h1.os, h1.tape, h1.output, h1.size, h1.block⟩ h2; rwa [show [lb.take k].flatten = lb.take k by simp] at this
        have GX : Hid (∀ (V : World) (g c : Nat), Below wr.drew.heap.size wr.drew V → Blk V g 22 #[.slice (some ⟨gx, 0, none⟩) k c] → Calls Try.prog 9 #[.slice (some ⟨g, 0, none⟩) 1 1] V fun e w' => e = .returned (.int .u32 ((sumL x : Nat) : Int)) ∧ V = w') := fun V g c h1 h2 => by have := CB (some ⟨gx, 0, none⟩) x lx.symm BX V g c ⟨h1.os, h1.tape, h1.output, h1.size, h1.block⟩ h2; rwa [show [x].flatten = x by simp] at this
        have GY : Hid (∀ (V : World) (g c : Nat), Below wr.drew.heap.size wr.drew V → Blk V g 22 #[.slice (some ⟨gy, 0, none⟩) k c] → Calls Try.prog 9 #[.slice (some ⟨g, 0, none⟩) 1 1] V fun e w' => e = .returned (.int .u32 ((sumL y : Nat) : Int)) ∧ V = w') := fun V g c h1 h2 => by have := CB (some ⟨gy, 0, none⟩) y ly.symm BY V g c ⟨h1.os, h1.tape, h1.output, h1.size, h1.block⟩ h2; rwa [show [y].flatten = y by simp] at this
        have hx1 := u32_xor_nat (sumL (la.take k)) (sumL (lb.take k)) S1 S2
        rw [HSUM.out] at hx1
        have hx2 := u32_xor_nat (sumL x) (sumL y) S3 S4
        have lst : ∀ (a : Option Addr) (c : Nat) (v : Value) (w w' : World), (∃ g, v = .slice (some ⟨g, 0, none⟩) 1 1 ∧ Blk w g 22 #[.slice a k c]) → Below w.heap.size w w' → ∃ g, v = .slice (some ⟨g, 0, none⟩) 1 1 ∧ Blk w' g 22 #[.slice a k c] := fun a c v w w' ⟨g, e, hg⟩ hb => ⟨g, e, hg.below hb hg.lt⟩
        have g0 : (k : Int) ≤ (cap0 : Int) := by omega
        have g1 : (k : Int) ≤ (cap1 : Int) := by omega
        have LST := Lib.hid lst
        have HBF := Lib.hid hb
        clear CB BA BB BX BY S1 S2 S3 S4 lx ly lta ltb lst hb hx hy
        refine wp_region_told [
            .exact (.slice a0 la.length cap0), .exact (.int .i64 (k : Int)), .exact (.slice a0 k cap0), .grows (fun v w' => ∃ g, v = .slice (some ⟨g, 0, none⟩) 1 1 ∧ Blk w' g 22 #[.slice a0 k cap0]), .exact (.int .u32 ((sumL (la.take k) : Nat) : Int)),
            .exact (.slice a1 lb.length cap1), .exact (.int .i64 (k : Int)), .exact (.slice a1 k cap1), .grows (fun v w' => ∃ g, v = .slice (some ⟨g, 0, none⟩) 1 1 ∧ Blk w' g 22 #[.slice a1 k cap1]), .exact (.int .u32 ((sumL (lb.take k) : Nat) : Int)),
            .exact (.int .u32 ((sumL x ^^^ sumL y : Nat) : Int)),
            .exact (.slice (some ⟨gx, 0, none⟩) k k), .grows (fun v w' => ∃ g, v = .slice (some ⟨g, 0, none⟩) 1 1 ∧ Blk w' g 22 #[.slice (some ⟨gx, 0, none⟩) k k]), .exact (.int .u32 ((sumL x : Nat) : Int)),
            .exact (.slice (some ⟨gy, 0, none⟩) k k), .grows (fun v w' => ∃ g, v = .slice (some ⟨g, 0, none⟩) 1 1 ∧ Blk w' g 22 #[.slice (some ⟨gy, 0, none⟩) k k]), .exact (.int .u32 ((sumL y : Nat) : Int)),
            .exact (.int .u32 ((sumL x ^^^ sumL y : Nat) : Int)), .exact (.bool true), .exact (.bool true)] (by kernel_rfl) (by kernel_rfl) rfl ?lasts ?walk
        case lasts => exact ⟨LST.out _ _, LST.out _ _, LST.out _ _, LST.out _ _, trivial⟩
        case walk =>
          refine growWalk_exact rfl (fun w5 hb5 hl5 => by go_simp; exact ⟨Below.refl _ _, rfl⟩) ?_
          simp only [Act.put, List.setIfInBounds_toArray, List.set_cons_zero, List.set_cons_succ, List.cons_append, List.nil_append]
          refine growWalk_exact rfl (fun w5 hb5 hl5 => by go_simp; exact ⟨Below.refl _ _, rfl⟩) ?_
          simp only [Act.put, List.setIfInBounds_toArray, List.set_cons_zero, List.set_cons_succ, List.cons_append, List.nil_append]
          refine growWalk_exact rfl (fun w5 hb5 hl5 => by go_simp; exact ⟨Below.refl _ _, rfl⟩) ?_
          simp only [Act.put, List.setIfInBounds_toArray, List.set_cons_zero, List.set_cons_succ, List.cons_append, List.nil_append]
          refine growWalk_grows rfl (fun w5 hb5 hl5 => by go_simp; exact ⟨(Below.refl _ _).alloc (Nat.le_refl _) _, _, rfl, Blk.new _ _ _⟩) (fun v3 => ?_)
          simp only [Act.put, List.setIfInBounds_toArray, List.set_cons_zero, List.set_cons_succ, List.cons_append, List.nil_append]
          refine growWalk_exact rfl (fun w5 hb5 hl5 => by
            obtain ⟨g, rfl, hblk⟩ := hl5.1 (by kernel_rfl)
            go_simp
            refine (GA.out _ _ _ hb5 hblk).mono ?_
            rintro e w6 ⟨rfl, rfl⟩
            exact ⟨_, rfl, Below.refl _ _, rfl⟩) ?_
          simp only [Act.put, List.setIfInBounds_toArray, List.set_cons_zero, List.set_cons_succ, List.cons_append, List.nil_append]
          refine growWalk_exact rfl (fun w5 hb5 hl5 => by go_simp; exact ⟨Below.refl _ _, rfl⟩) ?_
          simp only [Act.put, List.setIfInBounds_toArray, List.set_cons_zero, List.set_cons_succ, List.cons_append, List.nil_append]
          refine growWalk_exact rfl (fun w5 hb5 hl5 => by go_simp; exact ⟨Below.refl _ _, rfl⟩) ?_
          simp only [Act.put, List.setIfInBounds_toArray, List.set_cons_zero, List.set_cons_succ, List.cons_append, List.nil_append]
          refine growWalk_exact rfl (fun w5 hb5 hl5 => by go_simp; exact ⟨Below.refl _ _, rfl⟩) ?_
          simp only [Act.put, List.setIfInBounds_toArray, List.set_cons_zero, List.set_cons_succ, List.cons_append, List.nil_append]
          refine growWalk_grows rfl (fun w5 hb5 hl5 => by go_simp; exact ⟨(Below.refl _ _).alloc (Nat.le_refl _) _, _, rfl, Blk.new _ _ _⟩) (fun v8 => ?_)
          simp only [Act.put, List.setIfInBounds_toArray, List.set_cons_zero, List.set_cons_succ, List.cons_append, List.nil_append]
          refine growWalk_exact rfl (fun w5 hb5 hl5 => by
            obtain ⟨g, rfl, hblk⟩ := hl5.2.1 (by kernel_rfl)
            go_simp
            refine (GB.out _ _ _ hb5 hblk).mono ?_
            rintro e w6 ⟨rfl, rfl⟩
            exact ⟨_, rfl, Below.refl _ _, rfl⟩) ?_
          simp only [Act.put, List.setIfInBounds_toArray, List.set_cons_zero, List.set_cons_succ, List.cons_append, List.nil_append]
          refine growWalk_exact rfl (fun w5 hb5 hl5 => by go_simp; exact ⟨Below.refl _ _, rfl⟩) ?_
          simp only [Act.put, List.setIfInBounds_toArray, List.set_cons_zero, List.set_cons_succ, List.cons_append, List.nil_append]
          refine growWalk_exact rfl (fun w5 hb5 hl5 => by go_simp; exact ⟨Below.refl _ _, rfl⟩) ?_
          simp only [Act.put, List.setIfInBounds_toArray, List.set_cons_zero, List.set_cons_succ, List.cons_append, List.nil_append]
          refine growWalk_grows rfl (fun w5 hb5 hl5 => by go_simp; exact ⟨(Below.refl _ _).alloc (Nat.le_refl _) _, _, rfl, Blk.new _ _ _⟩) (fun v12 => ?_)
          simp only [Act.put, List.setIfInBounds_toArray, List.set_cons_zero, List.set_cons_succ, List.cons_append, List.nil_append]
          refine growWalk_exact rfl (fun w5 hb5 hl5 => by
            obtain ⟨g, rfl, hblk⟩ := hl5.2.2.1 (by kernel_rfl)
            go_simp
            refine (GX.out _ _ _ hb5 hblk).mono ?_
            rintro e w6 ⟨rfl, rfl⟩
            exact ⟨_, rfl, Below.refl _ _, rfl⟩) ?_
          simp only [Act.put, List.setIfInBounds_toArray, List.set_cons_zero, List.set_cons_succ, List.cons_append, List.nil_append]
          refine growWalk_exact rfl (fun w5 hb5 hl5 => by go_simp; exact ⟨Below.refl _ _, rfl⟩) ?_
          simp only [Act.put, List.setIfInBounds_toArray, List.set_cons_zero, List.set_cons_succ, List.cons_append, List.nil_append]
          refine growWalk_grows rfl (fun w5 hb5 hl5 => by go_simp; exact ⟨(Below.refl _ _).alloc (Nat.le_refl _) _, _, rfl, Blk.new _ _ _⟩) (fun v15 => ?_)
          simp only [Act.put, List.setIfInBounds_toArray, List.set_cons_zero, List.set_cons_succ, List.cons_append, List.nil_append]
          refine growWalk_exact rfl (fun w5 hb5 hl5 => by
            obtain ⟨g, rfl, hblk⟩ := hl5.2.2.2.1 (by kernel_rfl)
            go_simp
            refine (GY.out _ _ _ hb5 hblk).mono ?_
            rintro e w6 ⟨rfl, rfl⟩
            exact ⟨_, rfl, Below.refl _ _, rfl⟩) ?_
          simp only [Act.put, List.setIfInBounds_toArray, List.set_cons_zero, List.set_cons_succ, List.cons_append, List.nil_append]
          refine growWalk_exact rfl (fun w5 hb5 hl5 => by go_simp; exact ⟨Below.refl _ _, rfl⟩) ?_
          simp only [Act.put, List.setIfInBounds_toArray, List.set_cons_zero, List.set_cons_succ, List.cons_append, List.nil_append]
          refine growWalk_exact rfl (fun w5 hb5 hl5 => by go_simp; exact ⟨Below.refl _ _, rfl⟩) ?_
          simp only [Act.put, List.setIfInBounds_toArray, List.set_cons_zero, List.set_cons_succ, List.cons_append, List.nil_append]
          refine growWalk_exact rfl (fun w5 hb5 hl5 => by go_simp; exact ⟨Below.refl _ _, rfl⟩) ?_
          simp only [Act.put, List.setIfInBounds_toArray, List.set_cons_zero, List.set_cons_succ, List.cons_append, List.nil_append]
          refine growWalk_nil (fun w7 hb7 _ => ?_)
          go_wp2_with fail
          go_ret
          exact ⟨rfl, HBF.out.trans (Below.mono (Below.trans (Below.drew (Below.refl _ _)) hb7) HBF.out.size)⟩

/-! ### The row's step -/
set_option maxRecDepth 100000 in
theorem lifted (os : Os) (started : os.Started) (H : Type) (enc : TypeId × Value → H) :
    ReturnsInHanded {} Try.checked os 5 .any (Rows.crcAddsSpec.pre6 enc Try.prog Try.f5 Rows.crcAddsRow.domain false) (Rows.crcAddsSpec.post enc Try.prog Try.f5 false true false false) := by
  refine returnsInHanded_of_change (C := Try.checked) own started (by kernel_rfl) Try.func5
    (ChangeSpec.witness6 (enc := enc) (C := Try.checked) false ⟨#[], #[.slice none 0 0, .slice none 0 0, .slice none 0 0], []⟩ 8 (by kernel_rfl) (by kernel_rfl) (by kernel_rfl) (by kernel_rfl)) ?_
  intro W base args ds gs before hval0 hW hcnd _
  have hval : ∀ (j : Nat) t v, Try.f5.params[j]? = some t → args[j]? = some v → Value.okWide Try.prog W .any base t v := hval0
  have hW' := hW
  obtain ⟨p, q, hA0, hV, rfl, hfz, hnd⟩ := hW
  have hA : DataW.TrodAll enc Try.prog W 0 (fun _ => true) true Try.f5.params.toList args.toList ds p := hA0
  rw [Try.params5] at hA hval
  obtain ⟨v0, vs0, d0, ds0, p0, q0, hargs, rfl, rfl, h0, r0⟩ := trodAll_cons hA
  obtain ⟨v1, vs1, d1, ds1, p1, q1, rfl, rfl, rfl, h1, r1⟩ := trodAll_cons r0
  obtain ⟨v2, vs2, d2, ds2, p2, q2, rfl, rfl, rfl, h2, r2⟩ := trodAll_cons r1
  obtain ⟨rfl, rfl, rfl⟩ := trodAll_nil r2
  obtain rfl : args = #[v0, v1, v2] := by cases args; simp_all
  obtain ⟨rfl, rfl⟩ := trodVars_none hV
  obtain ⟨a0, len0, cap0, rfl⟩ := okWide_slice Try.underlying22 (hval 0 22 v0 rfl rfl)
  have k0 := h0
  have lt0 : ∀ x ∈ p0, x.block < W.heap.size := by obtain ⟨m, hm⟩ := k0; exact DataW.trod_lt m _ _ _ hm
  obtain ⟨z0, w0⟩ : ∃ zs, IsRow .u8 W a0 len0 cap0 zs := by
    obtain ⟨fuel, hf⟩ := h0
    rcases open_ints Try.underlying22 Try.underlying5 (by kernel_rfl) hf with ⟨hcs, _⟩ | ⟨x, l, c, zs, hcs, _, hl, hm, hz, _, hcell, hwz⟩
    · simp [Value.cells] at hcs
      obtain ⟨rfl, rfl, rfl⟩ := hcs
      exact ⟨[], .inl ⟨rfl, rfl, rfl, rfl⟩⟩
    · simp [Value.cells] at hcs
      obtain ⟨rfl, rfl, rfl⟩ := hcs
      exact ⟨zs, .inr ⟨_, rfl, hl, hm, by simpa using hz, hcell, hwz⟩⟩
  obtain ⟨a1, len1, cap1, rfl⟩ := okWide_slice Try.underlying22 (hval 1 22 v1 rfl rfl)
  have k1 := h1
  have lt1 : ∀ x ∈ p1, x.block < W.heap.size := by obtain ⟨m, hm⟩ := k1; exact DataW.trod_lt m _ _ _ hm
  obtain ⟨z1, w1⟩ : ∃ zs, IsRow .u8 W a1 len1 cap1 zs := by
    obtain ⟨fuel, hf⟩ := h1
    rcases open_ints Try.underlying22 Try.underlying5 (by kernel_rfl) hf with ⟨hcs, _⟩ | ⟨x, l, c, zs, hcs, _, hl, hm, hz, _, hcell, hwz⟩
    · simp [Value.cells] at hcs
      obtain ⟨rfl, rfl, rfl⟩ := hcs
      exact ⟨[], .inl ⟨rfl, rfl, rfl, rfl⟩⟩
    · simp [Value.cells] at hcs
      obtain ⟨rfl, rfl, rfl⟩ := hcs
      exact ⟨zs, .inr ⟨_, rfl, hl, hm, by simpa using hz, hcell, hwz⟩⟩
  obtain ⟨a2, len2, cap2, rfl⟩ := okWide_slice Try.underlying22 (hval 2 22 v2 rfl rfl)
  have k2 := h2
  have lt2 : ∀ x ∈ p2, x.block < W.heap.size := by obtain ⟨m, hm⟩ := k2; exact DataW.trod_lt m _ _ _ hm
  obtain ⟨z2, w2⟩ : ∃ zs, IsRow .u8 W a2 len2 cap2 zs := by
    obtain ⟨fuel, hf⟩ := h2
    rcases open_ints Try.underlying22 Try.underlying5 (by kernel_rfl) hf with ⟨hcs, _⟩ | ⟨x, l, c, zs, hcs, _, hl, hm, hz, _, hcell, hwz⟩
    · simp [Value.cells] at hcs
      obtain ⟨rfl, rfl, rfl⟩ := hcs
      exact ⟨[], .inl ⟨rfl, rfl, rfl, rfl⟩⟩
    · simp [Value.cells] at hcs
      obtain ⟨rfl, rfl, rfl⟩ := hcs
      exact ⟨zs, .inr ⟨_, rfl, hl, hm, by simpa using hz, hcell, hwz⟩⟩
  clear hA0 hval0
  refine (walk a0 len0 cap0 z0 a1 len1 cap1 z1 a2 len2 cap2 z2 W w0 w1 w2).mono fun e W' ⟨he, bel⟩ => ?_
  subst he
  exact ⟨_, rfl, _, _, _, [], _, [], hW', trodAll_mk1 (shut_bool Try.underlying4 _), (trodAll_cons_mk (Below.trod laidOut (by kernel_rfl) (of_decide_eq_true (by kernel_rfl)) k0 bel lt0) (trodAll_cons_mk (Below.trod laidOut (by kernel_rfl) (of_decide_eq_true (by kernel_rfl)) k1 bel lt1) (trodAll_cons_mk (Below.trod laidOut (by kernel_rfl) (of_decide_eq_true (by kernel_rfl)) k2 bel lt2) trodAll_mk0))), rfl, bel.frame _, fun h => by cases h⟩

theorem over : Rows.crcAddsRow.holds Try.pinned (OpenSpec.ofChange Rows.crcAddsSpec) :=
  OpenClaim.holds_of_wide 5 Try.f5 rfl rfl rfl rfl rfl rfl rfl ⟨rfl, rfl, rfl, rfl, rfl⟩ rfl rfl rfl rfl rfl (by kernel_rfl) Try.func5 (by kernel_rfl)
    (of_decide_eq_true (by kernel_rfl)) (by unfold Func.isWrapper; first | (rw [if_pos (by decide +kernel)]; kernel_rfl) | (rw [if_neg (by decide +kernel)]; exact ⟨rfl, rfl⟩))
    (fun os started H enc _ => lifted os started H enc)

theorem proved : Rows.CrcAddsSaid := over
#print axioms proved
end Go.Proofs.Ytgbkmnmkejcogaa.crcAdds
