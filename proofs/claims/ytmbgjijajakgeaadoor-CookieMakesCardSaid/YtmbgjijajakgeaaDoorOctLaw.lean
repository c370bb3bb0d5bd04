/-
  What the laws of layer 4 share: what must be answered ahead of everything else.
-/
import Derived.Test.YtmbgjijajakgeaaDoorOctW
import Derived.Lib.SlBytesConst
set_option linter.unusedVariables false
set_option linter.unusedSimpArgs false
namespace Go.Proofs.YtmbgjijajakgeaaDoor.Oct
open Go.ChangeShapes Go.WideShapes Go.ChangeAt Go.RowKit Go.Proofs.YtmbgjijajakgeaaDoor.Words

theorem rd_below {w0 w w' : World} {B p : Nat} (hb : Below B w0 w) (hB : B ≤ w0.heap.size) (hp : B ≤ p) (hf : Fr (At p) w w') : Below B w0 w' :=
  below_fr hb hf hB (fun x hx => by have : x = p := hx; omega)

theorem wr_below {w0 w w' : World} {B p : Nat} {v : Value} {l : List UInt8} (hb : Below B w0 w) (hB : B ≤ w0.heap.size) (hp : B ≤ p) (h : Wr w p B v l) (hf : Fr (AtW p v) w w') : Below B w0 w' :=
  below_fr hb hf hB (fun x hx => by
    rcases hx with hx | hx
    · omega
    · exact (h.own.lt x hx.symm).1)

theorem wr_zero (w : World) : Wr (w.alloc (.cells #[.slice none 0 0] 60)) w.heap.size w.heap.size (.slice none 0 0) [] := ⟨Blk.new w _ _, World.ownsRow_nil _ _ _ _⟩
/-- A reader at its end that is bad gives nothing any more. -/
theorem rd_take_end {w : World} {p G : Nat} {n : Int} (h : Rd w p G [] true) : Calls Tryd.prog 32 #[rptr p, .int .i64 n] w (RTook w p G [] [] true) := by
  by_cases h0 : n = 0
  · subst h0
    exact rd_take (n := 0) h (by simp) (by simp)
  · exact rd_take_no h (by simp; omega)

theorem padN_mod (len k : Nat) (h : 0 < k) : (len + padN len (k : Int)) % k = 0 := by
  by_cases h0 : len % k = 0
  · rw [padN_zero _ _ (.inr (by rw [Int.toNat_natCast]; exact h0)), Nat.add_zero]; exact h0
  · rw [padN_some _ _ h h0]
    have h1 := Nat.mod_lt len h
    have e : len + (k - len % k) = k * (len / k + 1) := by
      have := Nat.div_add_mod len k
      rw [Nat.mul_add]
      omega
    rw [e]
    exact Nat.mul_mod_right _ _

theorem padN_lt (len k : Nat) (h : 0 < k) : padN len (k : Int) < k := by
  unfold padN
  rw [if_pos (by omega), Int.toNat_natCast]
  exact Nat.mod_lt _ h

/-- A reader that NewReader made, of which the name of the list is another. -/
theorem Rd.as {w : World} {p G : Nat} {l l' : List UInt8} {bad : Bool} (h : Rd w p G l bad) (e : l = l') : Rd w p G l' bad := e ▸ h
theorem Wr.as {w : World} {p B : Nat} {v : Value} {l l' : List UInt8} (h : Wr w p B v l) (e : l = l') : Wr w p B v l' := e ▸ h
theorem own_len {w : World} {B : Nat} {v : Value} {l : List UInt8} {n : Nat} (h : Own w B v l) (e : n = l.length) : ∃ A c, v = .slice A n c ∧ Hid (Byt w w.heap.size A l) := by
  obtain ⟨A, c, h1, _, _, h2⟩ := own_as h e
  exact ⟨A, c, h1, h2⟩

end Go.Proofs.YtmbgjijajakgeaaDoor.Oct
