/-
  The document's answers of layer 4 (flumeref04): Text, Pad.
-/
import Derived.Test.YtabkjgklmibagaaOctPlain
import Derived.Test.YtabkjgklmibagaaBytes
set_option linter.unusedVariables false
set_option linter.unusedSimpArgs false
namespace Go.Proofs.Ytabkjgklmibagaa.Oct
open Go.ChangeShapes Go.WideShapes Go.ChangeAt Go.RowKit Go.Proofs.Ytabkjgklmibagaa.Words

theorem one_byt (w : World) (x : Int) (b : UInt8) (hx : x = (b.toNat : Int)) : Byt (w.alloc (.cells #[.int .u8 x] 5)) (w.heap.size + 1) (some ⟨w.heap.size, 0, none⟩) [b] := by
  subst hx
  exact (Blk.new w 5 #[.int .u8 (b.toNat : Int)]).byt (by omega) rfl
/-- An append onto a row of the call's own, behind an alloc: what it leaves, at the call's own base. -/
theorem grown_again {w wr w1 : World} {o : Obj} {A : Option Addr} {k c n : Nat} {v1 : Value} {xs ys : List Value} (hb : Below w.heap.size w wr) (ho : wr.ownsRow w.heap.size 5 1 (.slice A k c) k xs) (h : w1.ownsRow w.heap.size 5 1 v1 n ys) (hg : (wr.alloc o).grownBy w1 (Value.slice A k c).ownBlock) (hs : w.heap.size ≤ (wr.alloc o).heap.size) :
    ∃ A' c', v1 = .slice A' n c' ∧ w1.ownsRow w.heap.size 5 1 (.slice A' n c') n ys ∧ Hid (Below w.heap.size w w1) := by
  obtain ⟨A', c', rfl, _, _⟩ := own_slice h
  exact ⟨A', c', rfl, h, (hb.alloc hb.size o).grown hg hs (fun b e => (ho.lt b e).1)⟩
theorem mod_step (len k r : Nat) (hr : len % k = r) (h1 : r < k) : (len + 1) % k = if r + 1 = k then 0 else r + 1 := by
  have e : len + 1 = k * (len / k) + (r + 1) := by rw [← hr]; have := Nat.div_add_mod len k; omega
  rw [e, Nat.mul_add_mod]
  split
  · rename_i h; rw [h, Nat.mod_self]
  · exact Nat.mod_eq_of_lt (by omega)
theorem padN_step (len : Nat) (n : Int) (h : 0 < n) (hm : len % n.toNat ≠ 0) : padN len n = padN (len + 1) n + 1 := by
  unfold padN
  rw [if_pos h, if_pos h]
  obtain ⟨k, rfl⟩ : ∃ k : Nat, n = (k : Int) := ⟨n.toNat, by omega⟩
  simp only [Int.toNat_natCast] at hm ⊢
  have hk : 0 < k := by omega
  have h1 := Nat.mod_lt len hk
  obtain ⟨r, hr⟩ : ∃ r, len % k = r := ⟨_, rfl⟩
  rw [hr] at h1 hm ⊢
  rw [mod_step len k r hr h1]
  split
  · rename_i h2
    rw [Nat.sub_zero, Nat.mod_self, Nat.mod_eq_of_lt (by omega)]
    omega
  · rw [Nat.mod_eq_of_lt (by omega), Nat.mod_eq_of_lt (by omega)]
    omega
theorem padN_none (len : Nat) (n : Int) (h : ¬ (0 < n ∧ len % n.toNat ≠ 0)) : padN len n = 0 := by
  unfold padN
  split
  · rename_i h0
    have : len % n.toNat = 0 := by omega
    rw [this, Nat.sub_zero, Nat.mod_self]
  · rfl
/-- What Pad leaves: the bytes with noughts behind them, in the row that it was handed or in a new one. -/
def Padded (w : World) (B : Nat) (v : Value) (l : List UInt8) (n : Int) (e : Ending) (w' : World) : Prop :=
  ∃ v', e = .returned v' ∧ Own w' B v' (l ++ List.replicate (padN l.length n) 0) ∧ w.grownBy w' v.ownBlock ∧ (v'.ownBlock = v.ownBlock ∨ ∃ g, v'.ownBlock = some g ∧ w.heap.size ≤ g)

def lenOf : Value → Nat | .slice _ n _ => n | _ => 0
theorem own_lt {w : World} {B : Nat} {e : TypeId} {size n : Nat} {v : Value} {xs : List Value} (h : w.ownsRow B e size v n xs) : ∀ b, v.ownBlock = some b → B ≤ b ∧ b < w.heap.size := h.lt
/-- A row that grew out of another, behind an alloc and an append. -/
theorem grown_row {w wr w1 : World} {o : Obj} {v v1 v2 : Value} (hg : w.grownBy wr v.ownBlock) (hw : v1.ownBlock = v.ownBlock ∨ ∃ g, v1.ownBlock = some g ∧ w.heap.size ≤ g) (hg1 : (wr.alloc o).grownBy w1 v1.ownBlock) (hat : v2.ownBlock = v1.ownBlock ∨ v2.ownBlock = some (wr.alloc o).heap.size) :
    Hid (w.grownBy w1 v.ownBlock) ∧ Hid (v2.ownBlock = v.ownBlock ∨ ∃ g, v2.ownBlock = some g ∧ w.heap.size ≤ g) := by
  have hs : w.heap.size ≤ (wr.alloc o).heap.size := Nat.le_trans hg.size (by simp)
  constructor
  · refine ⟨hg1.os.trans hg.os, hg1.tape.trans hg.tape, hg1.output.trans hg.output, Nat.le_trans hs hg1.size, fun k hk hne => ?_⟩
    have h1 : some k ≠ v1.ownBlock := by
      rcases hw with e | ⟨g, e, hge⟩
      · rw [e]; exact hne
      · rw [e]; intro e2; injection e2; omega
    exact (hg1.block k (by omega) h1).trans ((Below.heap_alloc wr o k (Nat.lt_of_lt_of_le hk hg.size)).trans (hg.block k hk hne))
  · rcases hat with e | e
    · rw [Hid, e]; exact hw
    · exact .inr ⟨_, e, hs⟩
end Go.Proofs.Ytabkjgklmibagaa.Oct
