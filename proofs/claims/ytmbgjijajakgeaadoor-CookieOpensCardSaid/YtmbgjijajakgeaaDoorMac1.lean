/-
  Contracts of package mac, the words: RotateLeft32, rotated, spread.
-/
import Derived.Test.YtmbgjijajakgeaaDoorBytes
import Derived.Test.YtmbgjijajakgeaaDoorMacPlain
set_option linter.unusedVariables false
set_option linter.unusedSimpArgs false
namespace Go.Proofs.YtmbgjijajakgeaaDoor.Sha
open Go.ChangeShapes Go.WideShapes Go.ChangeAt Go.RowKit Go.Proofs.YtmbgjijajakgeaaDoor.Words

theorem rot_lt {x : Nat} (hx : x < 4294967296) (n : Nat) : rot x n < 4294967296 :=
  Nat.or_lt_two_pow (n := 32) (Nat.mod_lt _ (by decide)) (Nat.lt_of_le_of_lt (Nat.div_le_self _ _) hx)
theorem xor_lt {a b : Nat} (ha : a < 4294967296) (hb : b < 4294967296) : a ^^^ b < 4294967296 := Nat.xor_lt_two_pow (n := 32) ha hb
theorem and_lt {a b : Nat} (hb : b < 4294967296) : a &&& b < 4294967296 := Nat.and_lt_two_pow (n := 32) _ hb
theorem sp_lt {x : Nat} (hx : x < 4294967296) (i j k : Nat) : sp x i j k < 4294967296 := xor_lt (xor_lt (rot_lt hx _) (rot_lt hx _)) (rot_lt hx _)
/-- The rotations that are asked for. -/
def Rn (n : Nat) : Prop := n ∈ [2, 6, 7, 11, 13, 17, 18, 19, 22, 25]

theorem rotU (x a b : Nat) (hx : x < 4294967296) : bits .or .u32 ((x : Int) * (a : Int) % 4294967296) ((x : Int) / (b : Int)) = ((x * a % 4294967296 ||| x / b : Nat) : Int) := by
  rw [show (x : Int) * (a : Int) % 4294967296 = ((x * a % 4294967296 : Nat) : Int) by rw [Int.natCast_emod, Int.natCast_mul]; rfl, show (x : Int) / (b : Int) = ((x / b : Nat) : Int) by rw [Int.natCast_ediv]]
  exact u32_or_nat _ _ (Nat.mod_lt _ (by decide)) (Nat.lt_of_le_of_lt (Nat.div_le_self _ _) hx)

theorem rl_any (x n : Nat) (m : Int) (hx : x < 4294967296) (hn : Rn n) (hm : m = -(n : Int)) (w : World) :
    Calls Tryd.prog 52 #[.int .u32 (x : Int), .int .i64 m] w fun e w' => e = .returned (.int .u32 ((rot x n : Nat) : Int)) ∧ w = w' := by
  simp only [Rn, List.mem_cons, List.not_mem_nil, or_false] at hn
  rcases hn with rfl | rfl | rfl | rfl | rfl | rfl | rfl | rfl | rfl | rfl
  · obtain rfl : m = -2 := hm
    have hb : bits .and .u64 (IntKind.u64.wrap (-2)) 31 = 30 := by decide +kernel
    go_enter Tryd.func52, Tryd.ntmps52
    go_wp2
    go_ret
    exact ⟨ret_int (rotU x 1073741824 4 hx), rfl⟩
  · obtain rfl : m = -6 := hm
    have hb : bits .and .u64 (IntKind.u64.wrap (-6)) 31 = 26 := by decide +kernel
    go_enter Tryd.func52, Tryd.ntmps52
    go_wp2
    go_ret
    exact ⟨ret_int (rotU x 67108864 64 hx), rfl⟩
  · obtain rfl : m = -7 := hm
    have hb : bits .and .u64 (IntKind.u64.wrap (-7)) 31 = 25 := by decide +kernel
    go_enter Tryd.func52, Tryd.ntmps52
    go_wp2
    go_ret
    exact ⟨ret_int (rotU x 33554432 128 hx), rfl⟩
  · obtain rfl : m = -11 := hm
    have hb : bits .and .u64 (IntKind.u64.wrap (-11)) 31 = 21 := by decide +kernel
    go_enter Tryd.func52, Tryd.ntmps52
    go_wp2
    go_ret
    exact ⟨ret_int (rotU x 2097152 2048 hx), rfl⟩
  · obtain rfl : m = -13 := hm
    have hb : bits .and .u64 (IntKind.u64.wrap (-13)) 31 = 19 := by decide +kernel
    go_enter Tryd.func52, Tryd.ntmps52
    go_wp2
    go_ret
    exact ⟨ret_int (rotU x 524288 8192 hx), rfl⟩
  · obtain rfl : m = -17 := hm
    have hb : bits .and .u64 (IntKind.u64.wrap (-17)) 31 = 15 := by decide +kernel
    go_enter Tryd.func52, Tryd.ntmps52
    go_wp2
    go_ret
    exact ⟨ret_int (rotU x 32768 131072 hx), rfl⟩
  · obtain rfl : m = -18 := hm
    have hb : bits .and .u64 (IntKind.u64.wrap (-18)) 31 = 14 := by decide +kernel
    go_enter Tryd.func52, Tryd.ntmps52
    go_wp2
    go_ret
    exact ⟨ret_int (rotU x 16384 262144 hx), rfl⟩
  · obtain rfl : m = -19 := hm
    have hb : bits .and .u64 (IntKind.u64.wrap (-19)) 31 = 13 := by decide +kernel
    go_enter Tryd.func52, Tryd.ntmps52
    go_wp2
    go_ret
    exact ⟨ret_int (rotU x 8192 524288 hx), rfl⟩
  · obtain rfl : m = -22 := hm
    have hb : bits .and .u64 (IntKind.u64.wrap (-22)) 31 = 10 := by decide +kernel
    go_enter Tryd.func52, Tryd.ntmps52
    go_wp2
    go_ret
    exact ⟨ret_int (rotU x 1024 4194304 hx), rfl⟩
  · obtain rfl : m = -25 := hm
    have hb : bits .and .u64 (IntKind.u64.wrap (-25)) 31 = 7 := by decide +kernel
    go_enter Tryd.func52, Tryd.ntmps52
    go_wp2
    go_ret
    exact ⟨ret_int (rotU x 128 33554432 hx), rfl⟩

theorem rot_any (x n : Nat) (m : Int) (hx : x < 4294967296) (hn : Rn n) (hm : m = (n : Int)) (w : World) :
    Calls Tryd.prog 51 #[.int .u32 (x : Int), .int .i64 m] w fun e w' => e = .returned (.int .u32 ((rot x n : Nat) : Int)) ∧ w = w' := by
  simp only [Rn, List.mem_cons, List.not_mem_nil, or_false] at hn
  rcases hn with rfl | rfl | rfl | rfl | rfl | rfl | rfl | rfl | rfl | rfl
  · obtain rfl : m = 2 := hm
    go_enter Tryd.func51, Tryd.ntmps51
    go_wp2_with (go_at_call 52; refine (rl_any x 2 _ hx (by simp [Rn]) rfl w).mono ?_; rintro e w1 ⟨rfl, rfl⟩)
    go_ret
    exact ⟨rfl, rfl⟩
  · obtain rfl : m = 6 := hm
    go_enter Tryd.func51, Tryd.ntmps51
    go_wp2_with (go_at_call 52; refine (rl_any x 6 _ hx (by simp [Rn]) rfl w).mono ?_; rintro e w1 ⟨rfl, rfl⟩)
    go_ret
    exact ⟨rfl, rfl⟩
  · obtain rfl : m = 7 := hm
    go_enter Tryd.func51, Tryd.ntmps51
    go_wp2_with (go_at_call 52; refine (rl_any x 7 _ hx (by simp [Rn]) rfl w).mono ?_; rintro e w1 ⟨rfl, rfl⟩)
    go_ret
    exact ⟨rfl, rfl⟩
  · obtain rfl : m = 11 := hm
    go_enter Tryd.func51, Tryd.ntmps51
    go_wp2_with (go_at_call 52; refine (rl_any x 11 _ hx (by simp [Rn]) rfl w).mono ?_; rintro e w1 ⟨rfl, rfl⟩)
    go_ret
    exact ⟨rfl, rfl⟩
  · obtain rfl : m = 13 := hm
    go_enter Tryd.func51, Tryd.ntmps51
    go_wp2_with (go_at_call 52; refine (rl_any x 13 _ hx (by simp [Rn]) rfl w).mono ?_; rintro e w1 ⟨rfl, rfl⟩)
    go_ret
    exact ⟨rfl, rfl⟩
  · obtain rfl : m = 17 := hm
    go_enter Tryd.func51, Tryd.ntmps51
    go_wp2_with (go_at_call 52; refine (rl_any x 17 _ hx (by simp [Rn]) rfl w).mono ?_; rintro e w1 ⟨rfl, rfl⟩)
    go_ret
    exact ⟨rfl, rfl⟩
  · obtain rfl : m = 18 := hm
    go_enter Tryd.func51, Tryd.ntmps51
    go_wp2_with (go_at_call 52; refine (rl_any x 18 _ hx (by simp [Rn]) rfl w).mono ?_; rintro e w1 ⟨rfl, rfl⟩)
    go_ret
    exact ⟨rfl, rfl⟩
  · obtain rfl : m = 19 := hm
    go_enter Tryd.func51, Tryd.ntmps51
    go_wp2_with (go_at_call 52; refine (rl_any x 19 _ hx (by simp [Rn]) rfl w).mono ?_; rintro e w1 ⟨rfl, rfl⟩)
    go_ret
    exact ⟨rfl, rfl⟩
  · obtain rfl : m = 22 := hm
    go_enter Tryd.func51, Tryd.ntmps51
    go_wp2_with (go_at_call 52; refine (rl_any x 22 _ hx (by simp [Rn]) rfl w).mono ?_; rintro e w1 ⟨rfl, rfl⟩)
    go_ret
    exact ⟨rfl, rfl⟩
  · obtain rfl : m = 25 := hm
    go_enter Tryd.func51, Tryd.ntmps51
    go_wp2_with (go_at_call 52; refine (rl_any x 25 _ hx (by simp [Rn]) rfl w).mono ?_; rintro e w1 ⟨rfl, rfl⟩)
    go_ret
    exact ⟨rfl, rfl⟩

theorem spread_any (x i j k : Nat) (a b c : Int) (hx : x < 4294967296) (hi : Rn i) (hj : Rn j) (hk : Rn k) (ha : a = (i : Int)) (hb : b = (j : Int)) (hc : c = (k : Int)) (w : World) :
    Calls Tryd.prog 50 #[.int .u32 (x : Int), .int .i64 a, .int .i64 b, .int .i64 c] w fun e w' => e = .returned (.int .u32 ((sp x i j k : Nat) : Int)) ∧ w = w' := by
  have r1 := rot_any x i a hx hi ha
  have r2 := rot_any x j b hx hj hb
  have r3 := rot_any x k c hx hk hc
  have l1 := rot_lt hx i
  have l2 := rot_lt hx j
  have l3 := rot_lt hx k
  have HS : Hid (sp x i j k = rot x i ^^^ rot x j ^^^ rot x k) := rfl
  obtain ⟨s0, hs0⟩ : ∃ y, y = sp x i j k := ⟨_, rfl⟩
  rw [← hs0] at HS ⊢
  obtain ⟨y1, h1⟩ : ∃ y, y = rot x i := ⟨_, rfl⟩
  obtain ⟨y2, h2⟩ : ∃ y, y = rot x j := ⟨_, rfl⟩
  obtain ⟨y3, h3⟩ : ∃ y, y = rot x k := ⟨_, rfl⟩
  rw [← h1] at r1 l1 HS
  rw [← h2] at r2 l2 HS
  rw [← h3] at r3 l3 HS
  clear h1 h2 h3 hs0 hi hj hk ha hb hc hx
  have x1 := u32_xor_nat _ _ l1 l2
  have x2 := u32_xor_nat _ _ (xor_lt l1 l2) l3
  go_enter Tryd.func50, Tryd.ntmps50
  go_wp2_with (first | (go_at_call 51; refine (r1 w).mono ?_; clear r1; rintro e w1 ⟨rfl, rfl⟩) | (go_at_call 51; refine (r2 w).mono ?_; clear r2; rintro e w1 ⟨rfl, rfl⟩) | (go_at_call 51; refine (r3 w).mono ?_; clear r3; rintro e w1 ⟨rfl, rfl⟩))
  go_ret
  exact ⟨ret_int (by rw [HS.out]), rfl⟩

end Go.Proofs.YtmbgjijajakgeaaDoor.Sha
