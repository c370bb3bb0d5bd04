/-
  Contracts of Seal and Sealed, and of the document's Sum, Fits, Seal.
-/
import Derived.Test.YtabkjgklmibagaaCrc
set_option linter.unusedVariables false
set_option linter.unusedSimpArgs false
namespace Go.Proofs.Ytabkjgklmibagaa.Crc
open Go.ChangeShapes Go.WideShapes Go.ChangeAt Go.RowKit Go.Proofs.Ytabkjgklmibagaa.Words

theorem u8s_set (l : List UInt8) (i : Nat) (b : UInt8) : (u8s l).set i (.int .u8 (b.toNat : Int)) = u8s (l.set i b) := by simp [u8s, List.map_set]
theorem Own.byt {w : World} {B : Nat} {A : Option Addr} {c : Nat} {l : List UInt8} (h : Own w B (.slice A l.length c) l) : Byt w w.heap.size A l := Reads.of_own h

set_option maxHeartbeats 1000000 in
set_option maxRecDepth 100000 in
theorem seal_not (A : Option Addr) (n c : Nat) (k : Int) (w : World) (hn : n ≤ 9223372036854775807) (h : k < 0 ∨ (n : Int) < k + 4) (hk : k ≤ 9223372036854775807) :
    Calls Try.prog 23 #[.slice A n c, .int .i64 k] w fun e w' => e = .returned (.tuple #[.slice none 0 0, .bool false]) ∧ w = w' := by
  go_enter Try.func23, Try.ntmps23
  go_wp2_with (go_at_call 37; (with_reducible refine (fits_not A n c k w hn h hk).mono ?_); rintro e w' ⟨rfl, rfl⟩)
  go_ret2
  exact ⟨rfl, rfl⟩
theorem stored_byte {wr : World} {B g cap n k s m : Nat} {l : List UInt8} {x : Int} (h : wr.ownsRow B 5 1 (.slice (some ⟨g, 0, none⟩) n cap) n (u8s (laid l k s m))) (hx : x = ((byteOf s m).toNat : Int)) :
    (wr.setCell ⟨g, k + m, none⟩ (.int .u8 x)).ownsRow B 5 1 (.slice (some ⟨g, 0, none⟩) n cap) n (u8s (laid l k s (m + 1))) := by
  subst hx
  rw [laid, ← u8s_set]
  exact (h.stored (k + m) _).1
theorem own_mono {w : World} {B B' : Nat} {e : TypeId} {size n : Nat} {v : Value} {xs : List Value} (h : w.ownsRow B e size v n xs) (hB : B' ≤ B) : w.ownsRow B' e size v n xs := by
  refine ⟨h.1, ?_⟩
  rcases h.2 with h | ⟨g, cap, cur, h1, h2, h3⟩
  · exact .inl h
  · exact .inr ⟨g, cap, cur, h1, Nat.le_trans hB h2, h3⟩
/-- What Seal leaves. -/
def SealDone (w : World) (l : List UInt8) (k : Nat) (e : Ending) (w' : World) : Prop :=
  ∃ v, e = .returned (.tuple #[v, .bool true]) ∧ Own w' w.heap.size v (sealL l k) ∧ Below w.heap.size w w'
theorem byte_walk (s m : Nat) (p : Nat) (hp : p = 256 ^ m) : ((s : Int) / (p : Int)) % 256 = ((byteOf s m).toNat : Int) := by
  rw [byteOf_nat, hp]; omega
set_option maxHeartbeats 2000000 in
set_option maxRecDepth 100000 in
theorem seal_any (A : Option Addr) (l : List UInt8) (c k : Nat) (w : World) (hc : l.length ≤ c) (hc2 : c ≤ 9223372036854775807) (hl : l.length ≤ 1000000) (h : Byt w w.heap.size A l) (hk : k + 4 ≤ l.length) :
    Calls Try.prog 23 #[.slice A l.length c, .int .i64 (k : Int)] w (SealDone w l k) := by
  have C1 := Lib.hid (fits_any A l.length c k w (by omega) ⟨by omega, by omega⟩)
  have C2 := Lib.hid (around_any A l c k w hc hc2 h hk)
  have HB := Lib.hid h
  have hs := sumL_lt (zeroed l k)
  obtain ⟨s, hs2⟩ : ∃ s, s = sumL (zeroed l k) := ⟨_, rfl⟩
  have HF : Hid (laid l k s 4 = sealL l k) := by rw [hs2]; exact laid_four _ _ _ hk
  have HS := Lib.hid hs2
  rw [← hs2] at hs
  clear h hs2
  obtain ⟨n, hn⟩ : ∃ n, n = l.length := ⟨_, rfl⟩
  have HN := Lib.hid hn
  rw [← hn] at hc hl hk ⊢
  clear hn
  go_enter Try.func23, Try.ntmps23
  go_wp2_with fail
  refine Calls.mono (by have := C1.out; rw [← HN.out] at this; exact this) ?_
  rintro e w' ⟨rfl, rfl⟩
  go_wp2_with fail
  refine Calls.mono (by have := C2.out; rw [← HN.out, ← HS.out] at this; exact this) ?_
  rintro e w1 ⟨rfl, hb1⟩
  have HB1 := Lib.hid hb1
  clear hb1
  go_wp2_with fail
  refine Calls.mono (by have := clone_any A l c w1 (by rw [← HN.out]; exact hl) ((HB.out.below HB1.out).more HB1.out.size); rw [← HN.out] at this; exact this) ?_
  rintro e w2 ⟨⟨v, rfl, hown⟩, hb2⟩
  have HB2 : Hid (Below w.heap.size w w2) := HB1.out.trans (hb2.mono HB1.out.size)
  have hform := hown.form (by rw [← HN.out]; omega)
  obtain ⟨g, cap, rfl, hg1, hg2⟩ := hform
  have hgw : w.heap.size ≤ g := Nat.le_trans HB1.out.size hg1
  have hcap : n ≤ cap := by
    rcases hown.2 with ⟨h, _⟩ | ⟨g', cap', cur, h, _, _, h1, _⟩
    · cases h
    · injection h with _ _ h; subst h; rw [HN.out]; exact h1
  unfold Own at hown
  rw [← HN.out] at hown ⊢
  have HO := Lib.hid hown
  clear hown hb2 hg1 hg2
  go_wp2_with fail
  go_loopw [8, 18] (fun x i wr => ∃ m : Nat, m ≤ 4 ∧ i = .int .i64 m ∧ Hid (wr.ownsRow w1.heap.size 5 1 (.slice (some ⟨g, 0, none⟩) n cap) n (u8s (laid l k s m))) ∧ Below w.heap.size w wr) (fun _ i _ => 4 - (intOf i).toNat)
  case atStart => exact ⟨0, by omega, rfl, HO.out, HB2.out⟩
  case round =>
    obtain ⟨m, hm, rfl, ho, hb⟩ := hrel
    by_cases h4 : m < 4
    · have hcell : wr.cell? ⟨g, k + m, none⟩ = (u8s (laid l k s m))[k + m]? := ho.out.cellAt (k + m) (by omega)
      rw [u8s_get, List.getElem?_eq_getElem (by rw [laid_length, ← HN.out]; omega)] at hcell
      simp only [Option.map_some] at hcell
      obtain ⟨q, hq⟩ : ∃ q, q = (laid l k s m)[k + m]'(by rw [laid_length, ← HN.out]; omega) := ⟨_, rfl⟩
      rw [← hq] at hcell
      have hfr := ho.out.frozenAt (k + m)
      have HB := Lib.hid hb
      clear hq hb
      have hm4 : m = 0 ∨ m = 1 ∨ m = 2 ∨ m = 3 := by omega
      rcases hm4 with rfl | rfl | rfl | rfl
      · simp only [Nat.add_zero] at hcell hfr
        go_wp2
        go_roundw
        case rel => exact ⟨1, by omega, rfl, stored_byte ho.out (by simp only [byteOf_nat]; omega), HB.out.setCell (p := ⟨g, k, none⟩) hgw _⟩
        case measure => simp [intOf]
      · go_wp2
        go_roundw
        case rel => exact ⟨2, by omega, rfl, stored_byte ho.out (by simp only [byteOf_nat]; omega), HB.out.setCell (p := ⟨g, k + 1, none⟩) hgw _⟩
        case measure => simp [intOf]
      · go_wp2
        go_roundw
        case rel => exact ⟨3, by omega, rfl, stored_byte ho.out (by simp only [byteOf_nat]; omega), HB.out.setCell (p := ⟨g, k + 2, none⟩) hgw _⟩
        case measure => simp [intOf]
      · go_wp2
        go_roundw
        case rel => exact ⟨4, by omega, rfl, stored_byte ho.out (by simp only [byteOf_nat]; omega), HB.out.setCell (p := ⟨g, k + 3, none⟩) hgw _⟩
        case measure => simp [intOf]
    · obtain rfl : m = 4 := by omega
      have HB := Lib.hid hb
      clear hb
      go_wp2
      go_ret2
      refine ⟨_, rfl, ?_, HB.out⟩
      unfold Own
      rw [sealL_length _ _ (by rw [← HN.out]; exact hk), ← HF.out, ← HN.out]
      exact own_mono ho.out HB1.out.size
/-- The walk's spelling of one byte more of a word. -/
theorem or_word (a b : Nat) (i : Nat) (x : Int) (hx : x = ((b * 2 ^ i : Nat) : Int)) (ha : a < 2 ^ i) (hl : a < 4294967296) (hb : b * 2 ^ i < 4294967296) : bits .or .u32 (a : Int) x = ((a + b * 2 ^ i : Nat) : Int) := by
  subst hx
  rw [u32_or_nat _ _ hl hb, Nat.or_comm, nat_join i _ _ (Nat.mul_mod_left _ _) ha, Nat.add_comm]

def SealedDone (w : World) (l : List UInt8) (k : Nat) (e : Ending) (w' : World) : Prop :=
  e = .returned (.bool (sealedB l k)) ∧ Below w.heap.size w w'
/-! ### the document's answers -/
theorem bit_walk (x : UInt8) (y j : Nat) (hy : y < 4294967296) : bits .xor .u32 (bits .and .u32 ((x.toNat : Int) / 2 ^ j % 4294967296) 1) (bits .and .u32 (y : Int) 1) = ((B2 (x.toNat.testBit j) ^^^ y % 2 : Nat) : Int) := by
  have hx := u8_lt x
  have hd : x.toNat / 2 ^ j ≤ x.toNat := Nat.div_le_self _ _
  have e : (x.toNat : Int) / 2 ^ j % 4294967296 = ((x.toNat / 2 ^ j : Nat) : Int) := by
    rw [show (x.toNat : Int) / 2 ^ j = ((x.toNat / 2 ^ j : Nat) : Int) by push_cast; rfl]
    generalize x.toNat / 2 ^ j = q at hd
    omega
  have hb : B2 (x.toNat.testBit j) < 4294967296 := by unfold B2; split <;> decide
  rw [e, show (1 : Int) = ((1 : Nat) : Int) by rfl, u32_and_nat _ _ (by omega) (by decide), u32_and_nat _ _ hy (by decide), nat_mask1, nat_mask1, div_bit, u32_xor_nat _ _ hb (by omega)]
/-- What the document's Seal leaves. -/
def RSealDone (w : World) (l : List UInt8) (k : Nat) (e : Ending) (w' : World) : Prop :=
  ∃ v, e = .returned v ∧ Own w' w.heap.size v (sealL l k) ∧ Below w.heap.size w w'
theorem byte_zero (m : Nat) : (0 : Int) = ((byteOf 0 m).toNat : Int) := by rw [byteOf_nat]; simp
theorem laid_zero (l : List UInt8) (k : Nat) (hk : k + 4 ≤ l.length) : laid l k 0 4 = zeroed l k := by rw [laid_four _ _ _ hk]; rfl
theorem laid_seal (l : List UInt8) (k : Nat) (hk : k + 4 ≤ l.length) : laid (zeroed l k) k (sumL (zeroed l k)) 4 = sealL l k := by
  rw [laid_four _ _ _ (by rw [zeroed_length _ _ hk]; exact hk)]
  unfold sealL
  rw [show (zeroed l k).take k = l.take k from take_mid _ _ _ (by omega) _, show (zeroed l k).drop (k + 4) = l.drop (k + 4) from drop_mid _ _ _ (by omega) _ _ rfl]
theorem div_step (s m : Nat) : (((s / 256 ^ m : Nat) : Int)) / 256 = ((s / 256 ^ (m + 1) : Nat) : Int) := by
  rw [Nat.pow_succ, ← Nat.div_div_eq_div_mul]; omega
/-- A row whose bytes are laid one by one has a cell at each place. -/
theorem laid_cell {wr : World} {B g cap n k s m : Nat} {l : List UInt8} (h : wr.ownsRow B 5 1 (.slice (some ⟨g, 0, none⟩) n cap) n (u8s (laid l k s m))) (hn : n = l.length) (hk : k + m < n) : ∃ q, wr.cell? ⟨g, k + m, none⟩ = some (.int .u8 q) := by
  have hcell : wr.cell? ⟨g, k + m, none⟩ = (u8s (laid l k s m))[k + m]? := h.cellAt (k + m) (by omega)
  rw [u8s_get, List.getElem?_eq_getElem (by rw [laid_length]; omega)] at hcell
  exact ⟨_, hcell⟩
end Go.Proofs.Ytabkjgklmibagaa.Crc
