/-
  What the laws of layer 4 share: what must be answered ahead of everything else.
-/
import Derived.Test.YtnnfjndbilapfaaOctW
import Derived.Lib.SlBytesConst
set_option linter.unusedVariables false
set_option linter.unusedSimpArgs false
namespace Go.Proofs.Ytnnfjndbilapfaa.Oct
open Go.ChangeShapes Go.WideShapes Go.ChangeAt Go.RowKit Go.Proofs.Ytnnfjndbilapfaa.Words

theorem rd_below {w0 w w' : World} {B p : Nat} (hb : Below B w0 w) (hB : B ≤ w0.heap.size) (hp : B ≤ p) (hf : Fr (At p) w w') : Below B w0 w' :=
  below_fr hb hf hB (fun x hx => by have : x = p := hx; omega)
theorem wr_below {w0 w w' : World} {B p : Nat} {v : Value} {l : List UInt8} (hb : Below B w0 w) (hB : B ≤ w0.heap.size) (hp : B ≤ p) (h : Wr w p B v l) (hf : Fr (AtW p v) w w') : Below B w0 w' :=
  below_fr hb hf hB (fun x hx => by
    rcases hx with hx | hx
    · omega
    · exact (h.own.lt x hx.symm).1)
theorem wr_zero (w : World) : Wr (w.alloc (.cells #[.slice none 0 0] 47)) w.heap.size w.heap.size (.slice none 0 0) [] := ⟨Blk.new w _ _, World.ownsRow_nil _ _ _ _⟩
/-- A reader at its end that is bad gives nothing any more. -/
theorem rd_take_end {w : World} {p G : Nat} {n : Int} (h : Rd w p G [] true) : Calls Try.prog 14 #[rptr p, .int .i64 n] w (RTook w p G [] [] true) := by
  by_cases h0 : n = 0
  · subst h0
    exact rd_take (n := 0) h (by simp) (by simp)
  · exact rd_take_no h (by simp; omega)
theorem padN_mod (len k : Nat) (h : 0 < k) : (len + padN len (k : Int)) % k = 0 := by
  by_cases h0 : len % k = 0
  · rw [padN_zero _ _ (.inr (by rw [Int.toNat_natCast]; exact h0)), Nat.add_zero]; exact h0
  · rw [padN_some _ _ h h0]
    have h1 := Nat.mod_lt len h
    have e : len + (k - len % k) = k * (len / k + 1) := by
      have := Nat.div_add_mod len k
      rw [Nat.mul_add]
      omega
    rw [e]
    exact Nat.mul_mod_right _ _
theorem padN_lt (len k : Nat) (h : 0 < k) : padN len (k : Int) < k := by
  unfold padN
  rw [if_pos (by omega), Int.toNat_natCast]
  exact Nat.mod_lt _ h
/-- A reader that NewReader made, of which the name of the list is another. -/
theorem Rd.as {w : World} {p G : Nat} {l l' : List UInt8} {bad : Bool} (h : Rd w p G l bad) (e : l = l') : Rd w p G l' bad := e ▸ h
theorem Wr.as {w : World} {p B : Nat} {v : Value} {l l' : List UInt8} (h : Wr w p B v l) (e : l = l') : Wr w p B v l' := e ▸ h
theorem own_len {w : World} {B : Nat} {v : Value} {l : List UInt8} {n : Nat} (h : Own w B v l) (e : n = l.length) : ∃ A c, v = .slice A n c ∧ Hid (Byt w w.heap.size A l) := by
  obtain ⟨A, c, h1, _, _, h2⟩ := own_as h e
  exact ⟨A, c, h1, h2⟩
set_option maxHeartbeats 4000000 in
theorem first_any (w : World) : Calls Try.prog 8 #[] w fun e w' => e = .returned (.bool true) ∧ Below w.heap.size w w' := by
  have kc : (convert 22 22 (.slice (some ⟨w.heap.size + 1, 0, none⟩) 3 3)).run Try.prog ((w.alloc (.cells #[.slice none 0 0] 47)).alloc (.cells #[.int .u8 97, .int .u8 98, .int .u8 99] 5)) = .ok (.slice (some ⟨w.heap.size + 1, 0, none⟩) 3 3) ((w.alloc (.cells #[.slice none 0 0] 47)).alloc (.cells #[.int .u8 97, .int .u8 98, .int .u8 99] 5 (3, 4))) := by
    have := Lib.run_convert_bytes_const (P := Try.prog) (w.alloc (.cells #[.slice none 0 0] 47)) 22 5 #[.int .u8 97, .int .u8 98, .int .u8 99] 3 3 Try.underlying22 Try.underlying5
    simpa using this
  go_enter Try.func8, Try.ntmps8
  go_wp2_with fail
  obtain ⟨w1, hw1⟩ : ∃ w1, w1 = (w.alloc (.cells #[.slice none 0 0] 47)).alloc (.cells #[.int .u8 97, .int .u8 98, .int .u8 99] 5 (3, 4)) := ⟨_, rfl⟩
  have hb1 : Below w.heap.size w w1 := by rw [hw1]; exact ((Below.refl _ _).alloc (Nat.le_refl _) _).alloc (by simp) _
  have hwr1 : Wr w1 w.heap.size w.heap.size (.slice none 0 0) [] := by rw [hw1]; exact (wr_zero w).grows ((Below.refl _ _).alloc (Nat.le_refl _) _)
  have hby1 : Byt w1 (w.heap.size + 2) (some ⟨w.heap.size + 1, 0, none⟩) [97, 98, 99] := by
    rw [hw1]
    exact byt_of_heap (by have := heap_alloc_new (w.alloc (.cells #[.slice none 0 0] 47)) (.cells #[.int .u8 97, .int .u8 98, .int .u8 99] 5 (3, 4)); simpa using this) (by omega) rfl
  rw [← hw1]
  have HB1 := Lib.hid hb1
  have HW1 := Lib.hid hwr1
  have HY1 := Lib.hid hby1
  clear hw1 hb1 hwr1 hby1 kc
  refine (wr_put HW1.out HB1.out.size (by simp) (by rfl) (by omega) HY1.out).mono ?_
  rintro e w2 ⟨v2, rfl, hwr2, hf2, _⟩
  have HW2 := Lib.hid (hwr2.as (l' := [97, 98, 99]) rfl)
  have HB2 := Lib.hid (wr_below HB1.out (Nat.le_refl _) (Nat.le_refl _) HW1.out hf2)
  clear hwr2 hf2
  go_wp2_with fail
  refine (wr_pad 4 HW2.out HB2.out.size (by simp) (by omega)).mono ?_
  rintro e w3 ⟨v3, rfl, hwr3, hf3, _⟩
  have HW3 := Lib.hid (hwr3.as (l' := [97, 98, 99, 0]) rfl)
  have HB3 := Lib.hid (wr_below HB2.out (Nat.le_refl _) (Nat.le_refl _) HW2.out hf3)
  clear hwr3 hf3
  go_wp2_with fail
  refine (wr_u16 258 (by omega) HW3.out HB3.out.size (by simp)).mono ?_
  rintro e w4 ⟨v4, rfl, hwr4, hf4, _⟩
  have HW4 := Lib.hid (hwr4.as (l' := [97, 98, 99, 0, 1, 2]) (by decide))
  have HB4 := Lib.hid (wr_below HB3.out (Nat.le_refl _) (Nat.le_refl _) HW3.out hf4)
  clear hwr4 hf4
  go_wp2_with fail
  refine (wr_out HW4.out (by simp)).mono ?_
  rintro e w5 ⟨⟨u5, rfl, ho5⟩, hb5⟩
  obtain ⟨A5, c5, rfl, HY5⟩ := own_len (n := 6) ho5 rfl
  have HW5 := Lib.hid (HW4.out.grows hb5)
  have HB5 := Lib.hid (HB4.out.trans (hb5.mono HB4.out.size))
  clear ho5 hb5
  go_wp2_with fail
  refine (newReader_any A5 [97, 98, 99, 0, 1, 2] 6 c5 w5 rfl (by simp) HY5.out).mono ?_
  rintro e w6 ⟨p, G, rfl, hr6, hG, hb6⟩
  have hG6 : w.heap.size ≤ p := by have := HB5.out.size; have := hr6.le; omega
  have HR6 := Lib.hid hr6
  have HW6 := Lib.hid (HW5.out.grows hb6)
  have HB6 := Lib.hid (HB5.out.trans (hb6.mono HB5.out.size))
  clear hr6 hb6 hG
  go_wp2_with fail
  refine (wr_out HW6.out (by simp)).mono ?_
  rintro e w7 ⟨⟨u7, rfl, ho7⟩, hb7⟩
  obtain ⟨A7, c7, rfl, HY7⟩ := own_len (n := 6) ho7 rfl
  have HR7 := Lib.hid (HR6.out.grows hb7)
  have HB7 := Lib.hid (HB6.out.trans (hb7.mono HB6.out.size))
  have hs7 := run_str (P := Try.prog) HY7.out 22 9 5 Try.underlying22 Try.underlying5 Try.underlying9 6 c7 rfl
  clear ho7 hb7
  go_wp2_with fail
  refine (rd_take (n := 3) HR7.out (by simp) (by simp)).mono ?_
  rintro e w8 ⟨v8, rfl, ho8, hr8, hf8⟩
  obtain ⟨A8, c8, rfl, HY8⟩ := own_len (n := 3) ho8 rfl
  have HR8 := Lib.hid (hr8.as (l' := [0, 1, 2]) rfl)
  have HB8 := Lib.hid (rd_below HB7.out (Nat.le_refl _) hG6 hf8)
  have hs8 := str_as (P := Try.prog) HY8.out (l' := [97, 98, 99]) rfl 22 9 5 Try.underlying22 Try.underlying5 Try.underlying9 3 c8 rfl
  clear ho8 hr8 hf8 hs7
  go_wp2_with fail
  refine (rd_u8 HR8.out (by simp)).mono ?_
  rintro e w9 ⟨he9, hr9, hf9⟩
  obtain rfl : e = .returned (.int .u8 0) := he9
  have HR9 := Lib.hid (hr9.as (l' := [1, 2]) rfl)
  have HB9 := Lib.hid (rd_below HB8.out (Nat.le_refl _) hG6 hf9)
  clear hr9 hf9 hs8
  go_wp2_with fail
  refine (rd_u16 HR9.out (by simp)).mono ?_
  rintro e w10 ⟨he10, hr10, hf10⟩
  obtain rfl : e = .returned (.int .u16 258) := he10
  have HR10 := Lib.hid (hr10.as (l' := []) rfl)
  have HB10 := Lib.hid (rd_below HB9.out (Nat.le_refl _) hG6 hf10)
  clear hr10 hf10
  go_wp2_with fail
  refine (rd_end HR10.out).mono ?_
  rintro e w11 ⟨he11, rfl⟩
  obtain rfl : e = .returned (.int .i64 0) := he11
  go_wp2_with fail
  refine (rd_u8_no HR10.out (by simp)).mono ?_
  rintro e w12 ⟨rfl, hr12, hf12⟩
  have HR12 := Lib.hid hr12
  have HB12 := Lib.hid (rd_below HB10.out (Nat.le_refl _) hG6 hf12)
  clear hr12 hf12
  go_wp2_with fail
  refine (rd_end HR12.out).mono ?_
  rintro e w13 ⟨he13, rfl⟩
  obtain rfl : e = .returned (.int .i64 40) := he13
  go_wp2_with fail
  go_ret
  exact ⟨rfl, HB12.out⟩
end Go.Proofs.Ytnnfjndbilapfaa.Oct
