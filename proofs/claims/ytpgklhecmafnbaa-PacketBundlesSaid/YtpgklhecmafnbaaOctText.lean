/-
  The document's answers of layer 4 (flumeref04): Text, Pad.
-/
import Derived.Test.YtpgklhecmafnbaaOctPlain
import Derived.Test.YtpgklhecmafnbaaBytes
set_option linter.unusedVariables false
set_option linter.unusedSimpArgs false
namespace Go.Proofs.Ytpgklhecmafnbaa.Oct
open Go.ChangeShapes Go.WideShapes Go.ChangeAt Go.RowKit Go.Proofs.Ytpgklhecmafnbaa.Words

theorem one_byt (w : World) (x : Int) (b : UInt8) (hx : x = (b.toNat : Int)) : Byt (w.alloc (.cells #[.int .u8 x] 5)) (w.heap.size + 1) (some ⟨w.heap.size, 0, none⟩) [b] := by
  subst hx
  exact (Blk.new w 5 #[.int .u8 (b.toNat : Int)]).byt (by omega) rfl
/-- An append onto a row of the call's own, behind an alloc: what it leaves, at the call's own base. -/
theorem grown_again {w wr w1 : World} {o : Obj} {A : Option Addr} {k c n : Nat} {v1 : Value} {xs ys : List Value} (hb : Below w.heap.size w wr) (ho : wr.ownsRow w.heap.size 5 1 (.slice A k c) k xs) (h : w1.ownsRow w.heap.size 5 1 v1 n ys) (hg : (wr.alloc o).grownBy w1 (Value.slice A k c).ownBlock) (hs : w.heap.size ≤ (wr.alloc o).heap.size) :
    ∃ A' c', v1 = .slice A' n c' ∧ w1.ownsRow w.heap.size 5 1 (.slice A' n c') n ys ∧ Hid (Below w.heap.size w w1) := by
  obtain ⟨A', c', rfl, _, _⟩ := own_slice h
  exact ⟨A', c', rfl, h, (hb.alloc hb.size o).grown hg hs (fun b e => (ho.lt b e).1)⟩
set_option maxHeartbeats 1000000 in
set_option maxRecDepth 100000 in
theorem text_any (v n : Nat) (hv : v < 18446744073709551616) (hn : n ≤ 8) (w : World) :
    Calls Try.prog 56 #[.int .u64 (v : Int), .int .i64 (n : Int)] w fun e w' => (∃ u, e = .returned u ∧ Own w' w.heap.size u (be v n)) ∧ Below w.heap.size w w' := by
  obtain ⟨i0, hi0, hz0, hz1, hz2⟩ := info_parts3 u8_info
  go_enter Try.func56, Try.ntmps56
  go_wp2_with fail
  go_loopw [5, 6] (fun b i wr => ∃ (k : Nat) (A : Option Addr) (c : Nat), k ≤ n ∧ i = .int .i64 ((n : Int) - 1 - (k : Int)) ∧ b = .slice A k c ∧ Hid (wr.ownsRow w.heap.size 5 1 (.slice A k c) k (u8s ((be v n).take k))) ∧ Hid (Below w.heap.size w wr)) (fun _ i _ => (intOf i + 1).toNat)
  case atStart => exact ⟨0, none, 0, by omega, by go_num, rfl, World.ownsRow_nil _ _ _ _, Below.refl _ _⟩
  case round =>
    obtain ⟨k, A, c, hk, rfl, rfl, ho, hb⟩ := hrel
    by_cases hlt : k < n
    · have HT := Lib.hid (be_take v n k hlt)
      obtain ⟨m, hm⟩ : ∃ m : Nat, m = n - 1 - k := ⟨_, rfl⟩
      have hmi : (n : Int) - 1 - (k : Int) = (m : Int) := by omega
      rw [← hm] at HT
      rw [hmi]
      have HM := Lib.hid hmi
      have hm7 : m ≤ 7 := by omega
      clear hm hmi
      have HX : Hid ((v : Int) / 2 ^ (8 * m) % 256 = ((byteAt v m).toNat : Int)) := byteAt_walk v m
      have hbs := hb.out.size
      go_wp2_with (at_builtin; refine wpList_append_any _ rfl (.tmp 13) (.tmp 20) _ rfl w.heap.size 5 i0 _ 1 1 Try.underlying22 hi0 hz0 hz1 hz2 rfl (by omega) (.slice A k c) k (u8s ((be v n).take k)) rfl (ho.out.alloc _) (wr.heap.size + 1) (some ⟨wr.heap.size, 0, none⟩) 1 1 (u8s [byteAt v m]) rfl (one_byt wr _ _ HX.out) (u8s_one _) (by simp only [maxLen]; omega) (by omega) (Nat.le_trans hbs (by simp)) ?_; intro v1 w1 hown1 hg1 hat1; obtain ⟨A', c', rfl, hown2, hbelow⟩ := grown_again hb.out ho.out hown1 hg1 (Nat.le_trans hbs (by simp)); clear hown1 hg1 hat1)
      go_roundw
      case rel =>
        refine ⟨k + 1, A', c', by omega, by rw [show ((n : Int) - 1 - ((k + 1 : Nat) : Int)) = (m : Int) - 1 by have := HM.out; omega], rfl, ?_, hbelow⟩
        rw [HT.out, u8s_append]
        exact hown2
      case measure => simp [intOf]
    · obtain rfl : k = n := by omega
      go_wp2_with fail
      go_ret
      refine ⟨⟨_, rfl, ?_⟩, hb.out⟩
      have := ho.out
      unfold Own
      rw [be_length]
      rwa [List.take_of_length_le (by rw [be_length]; exact Nat.le_refl _)] at this

theorem mod_step (len k r : Nat) (hr : len % k = r) (h1 : r < k) : (len + 1) % k = if r + 1 = k then 0 else r + 1 := by
  have e : len + 1 = k * (len / k) + (r + 1) := by rw [← hr]; have := Nat.div_add_mod len k; omega
  rw [e, Nat.mul_add_mod]
  split
  · rename_i h; rw [h, Nat.mod_self]
  · exact Nat.mod_eq_of_lt (by omega)
theorem padN_step (len : Nat) (n : Int) (h : 0 < n) (hm : len % n.toNat ≠ 0) : padN len n = padN (len + 1) n + 1 := by
  unfold padN
  rw [if_pos h, if_pos h]
  obtain ⟨k, rfl⟩ : ∃ k : Nat, n = (k : Int) := ⟨n.toNat, by omega⟩
  simp only [Int.toNat_natCast] at hm ⊢
  have hk : 0 < k := by omega
  have h1 := Nat.mod_lt len hk
  obtain ⟨r, hr⟩ : ∃ r, len % k = r := ⟨_, rfl⟩
  rw [hr] at h1 hm ⊢
  rw [mod_step len k r hr h1]
  split
  · rename_i h2
    rw [Nat.sub_zero, Nat.mod_self, Nat.mod_eq_of_lt (by omega)]
    omega
  · rw [Nat.mod_eq_of_lt (by omega), Nat.mod_eq_of_lt (by omega)]
    omega
theorem padN_none (len : Nat) (n : Int) (h : ¬ (0 < n ∧ len % n.toNat ≠ 0)) : padN len n = 0 := by
  unfold padN
  split
  · rename_i h0
    have : len % n.toNat = 0 := by omega
    rw [this, Nat.sub_zero, Nat.mod_self]
  · rfl
/-- What Pad leaves: the bytes with noughts behind them, in the row that it was handed or in a new one. -/
def Padded (w : World) (B : Nat) (v : Value) (l : List UInt8) (n : Int) (e : Ending) (w' : World) : Prop :=
  ∃ v', e = .returned v' ∧ Own w' B v' (l ++ List.replicate (padN l.length n) 0) ∧ w.grownBy w' v.ownBlock ∧ (v'.ownBlock = v.ownBlock ∨ ∃ g, v'.ownBlock = some g ∧ w.heap.size ≤ g)

def lenOf : Value → Nat | .slice _ n _ => n | _ => 0
theorem own_lt {w : World} {B : Nat} {e : TypeId} {size n : Nat} {v : Value} {xs : List Value} (h : w.ownsRow B e size v n xs) : ∀ b, v.ownBlock = some b → B ≤ b ∧ b < w.heap.size := h.lt
/-- A row that grew out of another, behind an alloc and an append. -/
theorem grown_row {w wr w1 : World} {o : Obj} {v v1 v2 : Value} (hg : w.grownBy wr v.ownBlock) (hw : v1.ownBlock = v.ownBlock ∨ ∃ g, v1.ownBlock = some g ∧ w.heap.size ≤ g) (hg1 : (wr.alloc o).grownBy w1 v1.ownBlock) (hat : v2.ownBlock = v1.ownBlock ∨ v2.ownBlock = some (wr.alloc o).heap.size) :
    Hid (w.grownBy w1 v.ownBlock) ∧ Hid (v2.ownBlock = v.ownBlock ∨ ∃ g, v2.ownBlock = some g ∧ w.heap.size ≤ g) := by
  have hs : w.heap.size ≤ (wr.alloc o).heap.size := Nat.le_trans hg.size (by simp)
  constructor
  · refine ⟨hg1.os.trans hg.os, hg1.tape.trans hg.tape, hg1.output.trans hg.output, Nat.le_trans hs hg1.size, fun k hk hne => ?_⟩
    have h1 : some k ≠ v1.ownBlock := by
      rcases hw with e | ⟨g, e, hge⟩
      · rw [e]; exact hne
      · rw [e]; intro e2; injection e2; omega
    exact (hg1.block k (by omega) h1).trans ((Below.heap_alloc wr o k (Nat.lt_of_lt_of_le hk hg.size)).trans (hg.block k hk hne))
  · rcases hat with e | e
    · rw [Hid, e]; exact hw
    · exact .inr ⟨_, e, hs⟩
set_option maxHeartbeats 1000000 in
set_option maxRecDepth 100000 in
theorem pad_any (B : Nat) (v : Value) (l : List UInt8) (n : Int) (hn : -9223372036854775808 ≤ n ∧ n ≤ 1000) (w : World) (hl : l.length ≤ 1000000) (ho : Own w B v l) (hB : B ≤ w.heap.size) :
    Calls Try.prog 86 #[v, .int .i64 n] w (Padded w B v l n) := by
  obtain ⟨i0, hi0, hz0, hz1, hz2⟩ := info_parts3 u8_info
  obtain ⟨A, c, rfl, hc, hc2⟩ := own_slice ho
  have HO := Lib.hid ho
  clear ho
  by_cases hn0 : 0 < n
  · obtain ⟨m, rfl⟩ : ∃ m : Nat, n = (m : Int) := ⟨n.toNat, by omega⟩
    have hm0 : 0 < m := by omega
    have hm1 : m ≤ 1000 := by omega
    have hpl : padN l.length (m : Int) ≤ m := by
      unfold padN
      rw [if_pos hn0, Int.toNat_natCast]
      exact Nat.le_of_lt (Nat.mod_lt _ hm0)
    have HPL := Lib.hid hpl
    have hcase := own_lt HO.out
    have HCA := Lib.hid hcase
    clear hn hpl hcase
    go_enter Try.func86, Try.ntmps86
    go_wp2_with fail
    go_loopw [0] (fun b wr => ∃ (k q : Nat) (A' : Option Addr) (c' : Nat), b = .slice A' q c' ∧ Hid (q = l.length + k) ∧ q ≤ l.length + 1000 ∧ c' ≤ 9223372036854775807 ∧ q ≤ c' ∧ Hid (padN (l.length + k) (m : Int) + k = padN l.length (m : Int)) ∧ Hid (wr.ownsRow B 5 1 (.slice A' q c') q (u8s (l ++ List.replicate k 0))) ∧ Hid (w.grownBy wr (Value.slice A l.length c).ownBlock) ∧ Hid ((Value.slice A' q c').ownBlock = (Value.slice A l.length c).ownBlock ∨ ∃ g, (Value.slice A' q c').ownBlock = some g ∧ w.heap.size ≤ g)) (fun b _ => l.length + 1001 - lenOf b)
    case atStart => exact ⟨0, l.length, A, c, rfl, rfl, by omega, hc2, hc, rfl, by have := HO.out; unfold Own at this; rw [List.replicate_zero, List.append_nil]; exact this, World.grownBy.refl w _, .inl rfl⟩
    case round =>
      obtain ⟨k, q, A', c', rfl, HQ, hq, hc3, hc4, HP, ho, hg, hw⟩ := hrel
      have hk : k ≤ m := by have := HP.out; have := HPL.out; omega
      by_cases hz : q % m = 0
      · have hzz : ((q : Int) % (m : Int) != 0) = false := by simp; omega
        have hk0 : Hid (k = padN l.length (m : Int)) := by
          have := padN_none (l.length + k) (m : Int) (fun h => h.2 (by rw [Int.toNat_natCast, ← HQ.out]; exact hz))
          have := HP.out
          show k = _
          omega
        go_wp2_with fail
        go_ret
        refine ⟨_, rfl, ?_, hg.out, hw.out⟩
        have h5 := ho.out
        unfold Own
        rw [← hk0.out, List.length_append, List.length_replicate, ← HQ.out]
        exact h5
      · have hzz : ((q : Int) % (m : Int) != 0) = true := by simp; omega
        have HS : Hid (padN (l.length + k) (m : Int) = padN (l.length + (k + 1)) (m : Int) + 1) := padN_step (l.length + k) (m : Int) hn0 (by rw [Int.toNat_natCast, ← HQ.out]; exact hz)
        have hq2 : q ≤ l.length + 999 := by have := HQ.out; have := HP.out; have := HS.out; have := HPL.out; omega
        have hbs := hg.out.size
        go_wp2_with (at_builtin; refine wpList_append_any _ rfl (.tmp 14) (.tmp 15) _ rfl B 5 i0 _ 1 1 Try.underlying22 hi0 hz0 hz1 hz2 rfl (by omega) (.slice A' q c') q (u8s (l ++ List.replicate k 0)) rfl (ho.out.alloc _) (wr.heap.size + 1) (some ⟨wr.heap.size, 0, none⟩) 1 1 (u8s [0]) rfl (one_byt wr _ 0 rfl) (u8s_one _) (by simp only [maxLen]; omega) (by omega) (Nat.le_trans (Nat.le_trans hB hbs) (by simp)) ?_; intro v1 w1 hown1 hg1 hat1; obtain ⟨A2, c2, rfl, hc5, hc6⟩ := own_slice hown1; obtain ⟨hg2, hw2⟩ := grown_row hg.out hw.out hg1 hat1; have HO1 := Lib.hid hown1; clear hown1 hg1 hat1)
        go_roundw
        case rel =>
          refine ⟨k + 1, q + 1, A2, c2, rfl, ?_, by omega, hc6, hc5, ?_, ?_, hg2, hw2⟩
          · show q + 1 = _; have := HQ.out; omega
          · show padN (l.length + (k + 1)) (m : Int) + (k + 1) = _; have := HP.out; have := HS.out; omega
          · rw [List.replicate_succ', ← List.append_assoc, u8s_append]
            exact HO1.out
        case measure => simp [lenOf]; omega
  · go_enter Try.func86, Try.ntmps86
    go_wp2_with fail
    refine wp_loop_rounds 1 ?_
    rw [rounds_succ]
    go_wp2_with fail
    go_ret
    refine ⟨_, rfl, ?_, World.grownBy.refl w _, .inl rfl⟩
    have e : padN l.length n = 0 := padN_none _ _ (fun h => absurd h.1 (by omega))
    rw [e]
    simpa using HO.out
end Go.Proofs.Ytpgklhecmafnbaa.Oct
