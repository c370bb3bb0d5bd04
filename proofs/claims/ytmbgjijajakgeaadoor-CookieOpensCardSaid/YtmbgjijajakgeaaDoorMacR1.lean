/-
  Contracts of the document's answers for layer 8: turn, table.
-/
import Derived.Test.YtmbgjijajakgeaaDoorMac15
set_option linter.unusedVariables false
set_option linter.unusedSimpArgs false
namespace Go.Proofs.YtmbgjijajakgeaaDoor.Sha
open Go.ChangeShapes Go.WideShapes Go.ChangeAt Go.RowKit Go.Proofs.YtmbgjijajakgeaaDoor.Words

theorem rotV (x a b : Nat) (hx : x < 4294967296) : bits .or .u32 ((x : Int) / (b : Int)) ((x : Int) * (a : Int) % 4294967296) = ((x * a % 4294967296 ||| x / b : Nat) : Int) := by
  rw [show (x : Int) * (a : Int) % 4294967296 = ((x * a % 4294967296 : Nat) : Int) by rw [Int.natCast_emod, Int.natCast_mul]; rfl, show (x : Int) / (b : Int) = ((x / b : Nat) : Int) by rw [Int.natCast_ediv], Nat.or_comm]
  exact u32_or_nat _ _ (Nat.lt_of_le_of_lt (Nat.div_le_self _ _) hx) (Nat.mod_lt _ (by decide))
theorem turn_any (x n : Nat) (m : Int) (hx : x < 4294967296) (hn : Rn n) (hm : m = (n : Int)) (w : World) :
    Calls Tryd.prog 46 #[.int .u32 (x : Int), .int .u64 m] w fun e w' => e = .returned (.int .u32 ((rot x n : Nat) : Int)) ∧ w = w' := by
  simp only [Rn, List.mem_cons, List.not_mem_nil, or_false] at hn
  rcases hn with rfl | rfl | rfl | rfl | rfl | rfl | rfl | rfl | rfl | rfl
  · obtain rfl : m = 2 := hm
    go_enter Tryd.func46, Tryd.ntmps46
    go_wp2
    go_ret
    exact ⟨ret_int (rotV x 1073741824 4 hx), rfl⟩
  · obtain rfl : m = 6 := hm
    go_enter Tryd.func46, Tryd.ntmps46
    go_wp2
    go_ret
    exact ⟨ret_int (rotV x 67108864 64 hx), rfl⟩
  · obtain rfl : m = 7 := hm
    go_enter Tryd.func46, Tryd.ntmps46
    go_wp2
    go_ret
    exact ⟨ret_int (rotV x 33554432 128 hx), rfl⟩
  · obtain rfl : m = 11 := hm
    go_enter Tryd.func46, Tryd.ntmps46
    go_wp2
    go_ret
    exact ⟨ret_int (rotV x 2097152 2048 hx), rfl⟩
  · obtain rfl : m = 13 := hm
    go_enter Tryd.func46, Tryd.ntmps46
    go_wp2
    go_ret
    exact ⟨ret_int (rotV x 524288 8192 hx), rfl⟩
  · obtain rfl : m = 17 := hm
    go_enter Tryd.func46, Tryd.ntmps46
    go_wp2
    go_ret
    exact ⟨ret_int (rotV x 32768 131072 hx), rfl⟩
  · obtain rfl : m = 18 := hm
    go_enter Tryd.func46, Tryd.ntmps46
    go_wp2
    go_ret
    exact ⟨ret_int (rotV x 16384 262144 hx), rfl⟩
  · obtain rfl : m = 19 := hm
    go_enter Tryd.func46, Tryd.ntmps46
    go_wp2
    go_ret
    exact ⟨ret_int (rotV x 8192 524288 hx), rfl⟩
  · obtain rfl : m = 22 := hm
    go_enter Tryd.func46, Tryd.ntmps46
    go_wp2
    go_ret
    exact ⟨ret_int (rotV x 1024 4194304 hx), rfl⟩
  · obtain rfl : m = 25 := hm
    go_enter Tryd.func46, Tryd.ntmps46
    go_wp2
    go_ret
    exact ⟨ret_int (rotV x 128 33554432 hx), rfl⟩
theorem table_any (t : Nat) (ht : t < 64) (w : World) :
    Calls Tryd.prog 47 #[.int .i64 (t : Int)] w fun e w' => e = .returned (.int .u32 ((ks.getD t 0 : Nat) : Int)) ∧ Below w.heap.size w w' := by
  obtain ⟨W1, hW1⟩ : ∃ Wn, Wn = w.alloc (.cells (U ks) 23) := ⟨_, rfl⟩
  have HB : Hid (Blk W1 w.heap.size 23 (U ks)) := by show Blk _ _ _ _; rw [hW1]; exact Blk.new w _ _
  have HW : Hid (Below w.heap.size w W1) := by show Below _ _ _; rw [hW1]; exact below_new w _
  have hc := HB.out.cell t
  rw [U_at (show t < ks.length from ht)] at hc
  go_enter Tryd.func47, Tryd.ntmps47
  go_upto_region 2 with (fail)
  change Code.wp _ _ _ _ (w.alloc (.cells (U ks) 23))
  rw [← hW1]
  clear hW1
  go_wp2
  go_ret
  exact ⟨rfl, HW.out⟩
end Go.Proofs.YtmbgjijajakgeaaDoor.Sha
