/-
  The document's answers of layer 4 (flumeref04): Text, Pad.
-/
import Derived.Test.YtmbgjijajakgeaaDoorOctPlain
import Derived.Test.YtmbgjijajakgeaaDoorBytes
set_option linter.unusedVariables false
set_option linter.unusedSimpArgs false
namespace Go.Proofs.YtmbgjijajakgeaaDoor.Oct
open Go.ChangeShapes Go.WideShapes Go.ChangeAt Go.RowKit Go.Proofs.YtmbgjijajakgeaaDoor.Words

theorem one_byt (w : World) (x : Int) (b : UInt8) (hx : x = (b.toNat : Int)) : Byt (w.alloc (.cells #[.int .u8 x] 5)) (w.heap.size + 1) (some ⟨w.heap.size, 0, none⟩) [b] := by
  subst hx
  exact (Blk.new w 5 #[.int .u8 (b.toNat : Int)]).byt (by omega) rfl
/-- An append onto a row of the call's own, behind an alloc: what it leaves, at the call's own base. -/
theorem grown_again {w wr w1 : World} {o : Obj} {A : Option Addr} {k c n : Nat} {v1 : Value} {xs ys : List Value} (hb : Below w.heap.size w wr) (ho : wr.ownsRow w.heap.size 5 1 (.slice A k c) k xs) (h : w1.ownsRow w.heap.size 5 1 v1 n ys) (hg : (wr.alloc o).grownBy w1 (Value.slice A k c).ownBlock) (hs : w.heap.size ≤ (wr.alloc o).heap.size) :
    ∃ A' c', v1 = .slice A' n c' ∧ w1.ownsRow w.heap.size 5 1 (.slice A' n c') n ys ∧ Hid (Below w.heap.size w w1) := by
  obtain ⟨A', c', rfl, _, _⟩ := own_slice h
  exact ⟨A', c', rfl, h, (hb.alloc hb.size o).grown hg hs (fun b e => (ho.lt b e).1)⟩
set_option maxHeartbeats 1000000 in
set_option maxRecDepth 100000 in
theorem text_any (v n : Nat) (hv : v < 18446744073709551616) (hn : n ≤ 8) (w : World) :
    Calls Tryd.prog 20 #[.int .u64 (v : Int), .int .i64 (n : Int)] w fun e w' => (∃ u, e = .returned u ∧ Own w' w.heap.size u (be v n)) ∧ Below w.heap.size w w' := by
  obtain ⟨i0, hi0, hz0, hz1, hz2⟩ := info_parts3 u8_info
  go_enter Tryd.func20, Tryd.ntmps20
  go_wp2_with fail
  go_loopw [5, 6] (fun b i wr => ∃ (k : Nat) (A : Option Addr) (c : Nat), k ≤ n ∧ i = .int .i64 ((n : Int) - 1 - (k : Int)) ∧ b = .slice A k c ∧ Hid (wr.ownsRow w.heap.size 5 1 (.slice A k c) k (u8s ((be v n).take k))) ∧ Hid (Below w.heap.size w wr)) (fun _ i _ => (intOf i + 1).toNat)
  case atStart => exact ⟨0, none, 0, by omega, by go_num, rfl, World.ownsRow_nil _ _ _ _, Below.refl _ _⟩
  case round =>
    obtain ⟨k, A, c, hk, rfl, rfl, ho, hb⟩ := hrel
    by_cases hlt : k < n
    · have HT := Lib.hid (be_take v n k hlt)
      obtain ⟨m, hm⟩ : ∃ m : Nat, m = n - 1 - k := ⟨_, rfl⟩
      have hmi : (n : Int) - 1 - (k : Int) = (m : Int) := by omega
      rw [← hm] at HT
      rw [hmi]
      have HM := Lib.hid hmi
      have hm7 : m ≤ 7 := by omega
      clear hm hmi
      have HX : Hid ((v : Int) / 2 ^ (8 * m) % 256 = ((byteAt v m).toNat : Int)) := byteAt_walk v m
      have hbs := hb.out.size
      go_wp2_with (at_builtin; refine wpList_append_any _ rfl (.tmp 13) (.tmp 20) _ rfl w.heap.size 5 i0 _ 1 1 Tryd.underlying22 hi0 hz0 hz1 hz2 rfl (by omega) (.slice A k c) k (u8s ((be v n).take k)) rfl (ho.out.alloc _) (wr.heap.size + 1) (some ⟨wr.heap.size, 0, none⟩) 1 1 (u8s [byteAt v m]) rfl (one_byt wr _ _ HX.out) (u8s_one _) (by simp only [maxLen]; omega) (by omega) (Nat.le_trans hbs (by simp)) ?_; intro v1 w1 hown1 hg1 hat1; obtain ⟨A', c', rfl, hown2, hbelow⟩ := grown_again hb.out ho.out hown1 hg1 (Nat.le_trans hbs (by simp)); clear hown1 hg1 hat1)
      go_roundw
      case rel =>
        refine ⟨k + 1, A', c', by omega, by rw [show ((n : Int) - 1 - ((k + 1 : Nat) : Int)) = (m : Int) - 1 by have := HM.out; omega], rfl, ?_, hbelow⟩
        rw [HT.out, u8s_append]
        exact hown2
      case measure => simp [intOf]
    · obtain rfl : k = n := by omega
      go_wp2_with fail
      go_ret
      refine ⟨⟨_, rfl, ?_⟩, hb.out⟩
      have := ho.out
      unfold Own
      rw [be_length]
      rwa [List.take_of_length_le (by rw [be_length]; exact Nat.le_refl _)] at this

theorem mod_step (len k r : Nat) (hr : len % k = r) (h1 : r < k) : (len + 1) % k = if r + 1 = k then 0 else r + 1 := by
  have e : len + 1 = k * (len / k) + (r + 1) := by rw [← hr]; have := Nat.div_add_mod len k; omega
  rw [e, Nat.mul_add_mod]
  split
  · rename_i h; rw [h, Nat.mod_self]
  · exact Nat.mod_eq_of_lt (by omega)
theorem padN_step (len : Nat) (n : Int) (h : 0 < n) (hm : len % n.toNat ≠ 0) : padN len n = padN (len + 1) n + 1 := by
  unfold padN
  rw [if_pos h, if_pos h]
  obtain ⟨k, rfl⟩ : ∃ k : Nat, n = (k : Int) := ⟨n.toNat, by omega⟩
  simp only [Int.toNat_natCast] at hm ⊢
  have hk : 0 < k := by omega
  have h1 := Nat.mod_lt len hk
  obtain ⟨r, hr⟩ : ∃ r, len % k = r := ⟨_, rfl⟩
  rw [hr] at h1 hm ⊢
  rw [mod_step len k r hr h1]
  split
  · rename_i h2
    rw [Nat.sub_zero, Nat.mod_self, Nat.mod_eq_of_lt (by omega)]
    omega
  · rw [Nat.mod_eq_of_lt (by omega), Nat.mod_eq_of_lt (by omega)]
    omega
theorem padN_none (len : Nat) (n : Int) (h : ¬ (0 < n ∧ len % n.toNat ≠ 0)) : padN len n = 0 := by
  unfold padN
  split
  · rename_i h0
    have : len % n.toNat = 0 := by omega
    rw [this, Nat.sub_zero, Nat.mod_self]
  · rfl
/-- What Pad leaves: the bytes with noughts behind them, in the row that it was handed or in a new one. -/
def Padded (w : World) (B : Nat) (v : Value) (l : List UInt8) (n : Int) (e : Ending) (w' : World) : Prop :=
  ∃ v', e = .returned v' ∧ Own w' B v' (l ++ List.replicate (padN l.length n) 0) ∧ w.grownBy w' v.ownBlock ∧ (v'.ownBlock = v.ownBlock ∨ ∃ g, v'.ownBlock = some g ∧ w.heap.size ≤ g)
