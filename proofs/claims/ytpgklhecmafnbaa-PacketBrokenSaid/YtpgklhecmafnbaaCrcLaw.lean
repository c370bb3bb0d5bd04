/-
  What the laws of layer 3 share: what must be answered ahead of everything else.
-/
import Derived.Test.YtpgklhecmafnbaaCrcSeal
set_option linter.unusedVariables false
set_option linter.unusedSimpArgs false
namespace Go.Proofs.Ytpgklhecmafnbaa.Crc
open Go.ChangeShapes Go.WideShapes Go.ChangeAt Go.RowKit Go.Proofs.Ytpgklhecmafnbaa.Words

theorem byt_of_heap {w : World} {B g : Nat} {t : TypeId} {fr : Nat × Nat} {cs : Array Value} (h : w.heap[g]? = some (.cells cs t fr)) (hB : g < B) {l : List UInt8} (hl : cs.toList.take l.length = u8s l) : Byt w B (some ⟨g, 0, none⟩) l := by
  refine ⟨by simp [u8s_length], fun _ => ⟨_, rfl, hB, fun j u hu => ?_⟩⟩
  have hj : j < l.length := by
    have := (List.getElem?_eq_some_iff.1 hu).1
    simpa [u8s_length] using this
  have hc : w.cell? ((⟨g, 0, none⟩ : Addr).add j) = cs[j]? := by
    rw [← cell_of_row w g j cs t fr h]
    unfold Addr.add
    split
    · rename_i e; rw [e]
    · simp
  rw [hc, ← hu, ← hl, List.getElem?_take, if_pos hj]
  simp
theorem heap_kept (w : World) (o : Obj) {g : Nat} {x : Obj} (h : w.heap[g]? = some x) : (w.alloc o).heap[g]? = some x := by
  have hlt : g < w.heap.size := by
    rcases Nat.lt_or_ge g w.heap.size with h1 | h1
    · exact h1
    · rw [Array.getElem?_eq_none h1] at h; cases h
  rw [Below.heap_alloc w o g hlt]; exact h
def abc : List UInt8 := [49, 50, 51, 52, 53, 54, 55, 56, 57]
theorem sum_abc : sumL abc = 3808858755 := by decide +kernel
theorem sum_nil : sumL [] = 0 := by decide +kernel

/-- A piece of what came in, copied: what every law begins with. -/
theorem copied {w W1 w1 : World} {q : Nat} {v : Value} {x : List UInt8} (hb : Below w.heap.size w W1) (h : w1.ownsRow W1.heap.size 5 1 v (0 + q) ([] ++ u8s x)) (hq : q = x.length)
    (hg : (W1.alloc (.cells #[] 5)).grownBy w1 (Value.slice (some ⟨W1.heap.size, 0, none⟩) 0 0).ownBlock) :
    ∃ n A c, v = .slice A n c ∧ Hid (n = x.length) ∧ n ≤ q ∧ n ≤ c ∧ c ≤ 9223372036854775807 ∧ Hid (w1.ownsRow w.heap.size 5 1 (.slice A n c) n (u8s x)) ∧ Hid (Below w.heap.size w w1) := by
  simp only [Nat.zero_add, List.nil_append] at h
  obtain ⟨A, c, rfl, h1, h2⟩ := own_slice h
  refine ⟨q, A, c, rfl, hq, Nat.le_refl _, h1, h2, own_mono h hb.size, ?_⟩
  refine (hb.alloc hb.size _).grown hg (Nat.le_trans hb.size (by simp)) (fun b e => ?_)
  have : some W1.heap.size = some b := e
  injection this with this
  have := hb.size
  omega
/-- A number laid into a range: int(uint(a) % uint(m)). -/
theorem u64rem (a m : Int) (hm : 0 < m) (h63 : m ≤ 9223372036854775807) : ∃ k : Nat, wrap64 ((IntKind.u64.wrap a).tmod m) = (k : Int) ∧ (k : Int) < m := by
  have h0 : 0 ≤ IntKind.u64.wrap a := by rw [IntKind.wrap_u64]; omega
  rw [Int.tmod_eq_emod_of_nonneg h0]
  have h1 := Int.emod_nonneg (IntKind.u64.wrap a) (show m ≠ 0 by omega)
  have h2 := Int.emod_lt_of_pos (IntKind.u64.wrap a) hm
  refine ⟨((IntKind.u64.wrap a) % m).toNat, ?_, by omega⟩
  rw [IntWalk.wrap64_in _ ⟨by omega, by omega⟩]
  omega
/-- The sum of two pieces that lie one behind the other. -/
theorem sum_two {w1 : World} {B : Nat} {A1 : Option Addr} {x : List UInt8} {k : Nat} (hx : x.length ≤ 1000000) (hB : B ≤ w1.heap.size) (hk : k ≤ x.length) (h : Byt w1 B A1 x) :
    ∀ (V : World) (g c1 : Nat) (A2 : Option Addr) (n2 c2 : Nat), Below w1.heap.size w1 V → Blk V g 22 #[.slice A1 k c1, .slice A2 n2 c2] → n2 = x.length - k → Byt w1 B A2 (x.drop k) →
      Calls Try.prog 103 #[.slice (some ⟨g, 0, none⟩) 2 2] V fun e w' => e = .returned (.int .u32 ((sumL x : Nat) : Int)) ∧ V = w' := by
  intro V g c1 A2 n2 c2 hb hblk hn h2
  have hb' : Below B w1 V := hb.mono hB
  have := sum_any (some ⟨g, 0, none⟩) [x.take k, x.drop k] 2 2 B V (by omega) (parts2 hblk (by simp; omega) (by simp [hn]) (by omega) (by omega) ((h.take_ k).below hb') (h2.below hb'))
  rwa [show [x.take k, x.drop k].flatten = x by simp] at this
/-- What Seal handed out, read as bytes. -/
theorem own_as {w : World} {B n : Nat} {v : Value} {y : List UInt8} (h : Own w B v y) (hn : n = y.length) : ∃ A c, v = .slice A n c ∧ n ≤ c ∧ c ≤ 9223372036854775807 ∧ Hid (Byt w w.heap.size A y) := by
  obtain ⟨A, c, rfl, h1, h2⟩ := own_slice h
  subst hn
  exact ⟨A, c, rfl, h1, h2, Reads.of_own h⟩
theorem byte_word (x0 x1 x2 x3 : Int) (h0 : 0 ≤ x0 ∧ x0 ≤ 255) (h1 : 0 ≤ x1 ∧ x1 ≤ 255) (h2 : 0 ≤ x2 ∧ x2 ≤ 255) (h3 : 0 ≤ x3 ∧ x3 ≤ 255) :
    ∃ s : Nat, x0 = ((byteOf s 0).toNat : Int) ∧ x1 = ((byteOf s 1).toNat : Int) ∧ x2 = ((byteOf s 2).toNat : Int) ∧ x3 = ((byteOf s 3).toNat : Int) := by
  refine ⟨x0.toNat + x1.toNat * 256 + x2.toNat * 65536 + x3.toNat * 16777216, ?_, ?_, ?_, ?_⟩
  all_goals
    rw [byteOf_nat]
    omega
theorem bit_of (t m : Nat) (ht : t < 4294967296) : bits .and .u32 ((t : Int) / 2 ^ m) 1 = ((B2 (t.testBit m) : Nat) : Int) := by
  have hd : t / 2 ^ m ≤ t := Nat.div_le_self _ _
  have e : (t : Int) / 2 ^ m = ((t / 2 ^ m : Nat) : Int) := by push_cast; rfl
  rw [e, show (1 : Int) = ((1 : Nat) : Int) by rfl, u32_and_nat _ _ (by omega) (by decide), nat_mask1, div_bit]
theorem turn_stored {wr : World} {B g cap n k t m : Nat} {s : List UInt8} (h : wr.ownsRow B 5 1 (.slice (some ⟨g, 0, none⟩) n cap) n (u8s (turned s k t m))) (hb : t.testBit m = true) (hm : (k + m) / 8 < (turned s k t m).length) :
    (wr.setCell ⟨g, (k + m) / 8, none⟩ (.int .u8 (bits .xor .u8 (((turned s k t m)[(k + m) / 8]).toNat : Int) (2 ^ ((k + m) % 8) % 256)))).ownsRow B 5 1 (.slice (some ⟨g, 0, none⟩) n cap) n (u8s (turned s k t (m + 1))) := by
  have e : turned s k t (m + 1) = flip (turned s k t m) (k + m) := by
    show (if t.testBit m = true then _ else _) = _
    rw [if_pos hb]
  have hj : (k + m) % 8 < 8 := by omega
  have hg : (turned s k t m)[(k + m) / 8] = (turned s k t m).getD ((k + m) / 8) 0 := by rw [List.getD_eq_getElem?_getD, List.getElem?_eq_getElem hm]; rfl
  generalize turned s k t m = r at *
  obtain ⟨j, hj2⟩ : ∃ j, j = (k + m) % 8 := ⟨_, rfl⟩
  have h2 : 2 ^ j < 2 ^ 8 := Nat.pow_lt_pow_right (by decide) (by omega)
  have hv : bits .xor .u8 ((r[(k + m) / 8]).toNat : Int) (2 ^ j % 256) = ((r.getD ((k + m) / 8) 0 ^^^ maskOf j).toNat : Int) := by
    have h3 : (2 : Int) ^ j % 256 = ((2 ^ j : Nat) : Int) := (by decide : ∀ j : Nat, j < 8 → (2 : Int) ^ j % 256 = ((2 ^ j : Nat) : Int)) j (by omega)
    rw [h3, u8_xor_nat _ _ (u8_lt _) h2, hg, UInt8.toNat_xor, maskOf_nat (by omega)]
  rw [hj2] at hv
  rw [hv, e]
  unfold flip
  rw [← u8s_set]
  exact (h.stored ((k + m) / 8) (.int .u8 ((r.getD ((k + m) / 8) 0 ^^^ maskOf ((k + m) % 8)).toNat : Int))).1
end Go.Proofs.Ytpgklhecmafnbaa.Crc
