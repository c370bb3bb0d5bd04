/-
  Of the texts CrcPlain, ChOpen, Cks, ChRf2, Pk2, Crc, CrcSeal, Pk5: what the laws reach.
-/
import Derived.Test.YtioddokjogbmnaaRows
import Derived.Test.YtioddokjogbmnaaP6
import Derived.Test.YtioddokjogbmnaaP4
import Derived.Test.YtioddokjogbmnaaP5
import Derived.BigQuiet
import Derived.Test.YtioddokjogbmnaaP3
import Derived.Great.BuildSlice

set_option linter.unusedVariables false
set_option linter.unusedSimpArgs false
namespace Go.Proofs.Ytioddokjogbmnaa.Crc
/-- One step of the register. -/
def T (r : Nat) : Nat := r / 2 ^^^ (if r % 2 = 1 then 2197175160 else 0)
def Tn : Nat → Nat → Nat
  | 0, r => r
  | k + 1, r => T (Tn k r)
def feed1 (r : Nat) (b : UInt8) : Nat := Tn 8 (r ^^^ b.toNat)
def feedL (r : Nat) (l : List UInt8) : Nat := l.foldl feed1 r
def sumL (l : List UInt8) : Nat := 4294967295 - feedL 4294967295 l
theorem T_lt {r : Nat} (h : r < 4294967296) : T r < 4294967296 := by
  unfold T
  have : r / 2 < 2 ^ 32 := by omega
  refine Nat.xor_lt_two_pow (n := 32) this ?_
  split <;> decide
theorem Tn_lt (k : Nat) {r : Nat} (h : r < 4294967296) : Tn k r < 4294967296 := by
  induction k with
  | zero => exact h
  | succ k ih => exact T_lt ih
theorem u8_lt (b : UInt8) : b.toNat < 256 := b.toNat_lt
theorem feed1_lt {r : Nat} (h : r < 4294967296) (b : UInt8) : feed1 r b < 4294967296 :=
  Tn_lt 8 (Nat.xor_lt_two_pow (n := 32) h (by have := u8_lt b; omega))
theorem feedL_lt {r : Nat} (h : r < 4294967296) : ∀ l : List UInt8, feedL r l < 4294967296 := by
  intro l
  induction l generalizing r with
  | nil => exact h
  | cons b l ih => exact ih (feed1_lt h b)
theorem xor_left_comm (a b c : Nat) : a ^^^ (b ^^^ c) = b ^^^ (a ^^^ c) := by rw [← Nat.xor_assoc, Nat.xor_comm a b, Nat.xor_assoc]
theorem xor_zero_eq {a b : Nat} (h : a ^^^ b = 0) : a = b := by
  have h2 : (a ^^^ b) ^^^ b = 0 ^^^ b := by rw [h]
  rwa [Nat.xor_assoc, Nat.xor_self, Nat.xor_zero, Nat.zero_xor] at h2
theorem xor_mod2 (a b : Nat) : (a ^^^ b) % 2 = (a % 2 + b % 2) % 2 := by
  have h := Nat.xor_mod_two_pow (a := a) (b := b) (n := 1)
  simp only [Nat.pow_one] at h
  rw [h]
  rcases Nat.mod_two_eq_zero_or_one a with ha | ha <;> rcases Nat.mod_two_eq_zero_or_one b with hb | hb <;> rw [ha, hb] <;> rfl
theorem xor_div2 (a b : Nat) : (a ^^^ b) / 2 = a / 2 ^^^ b / 2 := by
  have h := Nat.xor_div_two_pow (a := a) (b := b) (n := 1)
  simpa only [Nat.pow_one] using h
theorem T_xor (a b : Nat) : T (a ^^^ b) = T a ^^^ T b := by
  unfold T
  rw [xor_mod2, xor_div2]
  rcases Nat.mod_two_eq_zero_or_one a with ha | ha <;> rcases Nat.mod_two_eq_zero_or_one b with hb | hb <;> rw [ha, hb] <;> simp [Nat.xor_assoc]
  · rw [Nat.xor_comm (b / 2)]
  · rw [xor_left_comm 2197175160, Nat.xor_self, Nat.xor_zero]
theorem T_zero : T 0 = 0 := by decide
theorem Tn_zero (k : Nat) : Tn k 0 = 0 := by
  induction k with
  | zero => rfl
  | succ k ih => show T _ = 0; rw [ih, T_zero]
theorem T_ne {r : Nat} (h : r < 4294967296) (h0 : r ≠ 0) : T r ≠ 0 := by
  unfold T
  intro e
  have e := xor_zero_eq e
  split at e <;> omega
theorem Tn_ne (k : Nat) {r : Nat} (h : r < 4294967296) (h0 : r ≠ 0) : Tn k r ≠ 0 := by
  induction k with
  | zero => exact h0
  | succ k ih => exact T_ne (Tn_lt k h) ih
/-- The register after n bits, each laid into its lowest place ahead of the step. -/
def B2 (b : Bool) : Nat := if b then 1 else 0
def P (r : Nat) (f : Nat → Bool) : Nat → Nat
  | 0 => r
  | n + 1 => T (P r f n ^^^ B2 (f n))
theorem B2_xor (a b : Bool) : B2 (a ^^ b) = B2 a ^^^ B2 b := by cases a <;> cases b <;> rfl
theorem P_xor (r s : Nat) (f g : Nat → Bool) (n : Nat) : P (r ^^^ s) (fun i => f i ^^ g i) n = P r f n ^^^ P s g n := by
  induction n with
  | zero => rfl
  | succ n ih =>
    show T _ = T _ ^^^ T _
    rw [ih, B2_xor, ← T_xor]
    congr 1
    simp only [Nat.xor_assoc, Nat.xor_comm, xor_left_comm]
theorem P_congr (r : Nat) {f g : Nat → Bool} (n : Nat) (h : ∀ i, i < n → f i = g i) : P r f n = P r g n := by
  induction n with
  | zero => rfl
  | succ n ih => show T _ = T _; rw [ih (fun i hi => h i (by omega)), h n (by omega)]
theorem P_zero (r : Nat) (n : Nat) : P r (fun _ => false) n = Tn n r := by
  induction n with
  | zero => rfl
  | succ n ih => show T _ = T _; rw [ih]; simp [B2]
theorem P_add (r : Nat) (f : Nat → Bool) (m n : Nat) : P r f (m + n) = P (P r f m) (fun i => f (m + i)) n := by
  induction n with
  | zero => rfl
  | succ n ih => show T (P r f (m + n) ^^^ B2 (f (m + n))) = T _; rw [ih]
theorem div_bit (c k : Nat) : c / 2 ^ k % 2 = B2 (c.testBit k) := by
  rw [Nat.testBit_eq_decide_div_mod_eq]
  unfold B2
  rcases Nat.mod_two_eq_zero_or_one (c / 2 ^ k) with h | h <;> simp [h]
/-- A word's bits one by one: what is not used up yet lies beside. -/
theorem P_word (r c : Nat) (n : Nat) : P r (fun i => c.testBit i) n = Tn n (r ^^^ c) ^^^ c / 2 ^ n := by
  induction n with
  | zero => show r = (r ^^^ c) ^^^ c / 1; rw [Nat.div_one, Nat.xor_assoc, Nat.xor_self, Nat.xor_zero]
  | succ n ih =>
    show T (_ ^^^ B2 (c.testBit n)) = T _ ^^^ _
    rw [ih, ← div_bit, Nat.pow_succ, ← Nat.div_div_eq_div_mul]
    generalize c / 2 ^ n = d
    rw [Nat.xor_assoc, T_xor]
    congr 1
    unfold T
    rw [xor_mod2, xor_div2]
    have e : (d % 2 + d % 2 % 2) % 2 = 0 := by omega
    have e2 : d % 2 / 2 = 0 := by omega
    rw [e, e2]
    simp
theorem feed1_P (r : Nat) (b : UInt8) : feed1 r b = P r (fun i => b.toNat.testBit i) 8 := by
  rw [P_word]
  have : b.toNat / 2 ^ 8 = 0 := by have := u8_lt b; omega
  rw [this, Nat.xor_zero]
  rfl
/-- The bits of bytes. -/
def bitAt (l : List UInt8) (i : Nat) : Bool := (l.getD (i / 8) 0).toNat.testBit (i % 8)
theorem feedL_P (r : Nat) (l : List UInt8) : feedL r l = P r (bitAt l) (8 * l.length) := by
  induction l generalizing r with
  | nil => rfl
  | cons b l ih =>
    show feedL (feed1 r b) l = _
    rw [ih, feed1_P, show 8 * (b :: l).length = 8 + 8 * l.length by simp; omega, P_add]
    have e1 : P r (fun i => b.toNat.testBit i) 8 = P r (bitAt (b :: l)) 8 := P_congr _ _ (fun i hi => by
      unfold bitAt
      rw [show i / 8 = 0 by omega, show i % 8 = i by omega]
      rfl)
    rw [e1]
    refine P_congr _ _ (fun i hi => ?_)
    unfold bitAt
    rw [show (8 + i) / 8 = i / 8 + 1 by omega, show (8 + i) % 8 = i % 8 by omega]
    rfl
/-- Bits that are turned within 32 in a row are told. -/
def burst (k turn i : Nat) : Bool := decide (k ≤ i) && decide (i < k + 32) && turn.testBit (i - k)
theorem P_burst (k turn n : Nat) (h0 : turn ≠ 0) (h32 : turn < 4294967296) (hn : k + 32 ≤ n) : P 0 (burst k turn) n ≠ 0 := by
  obtain ⟨m, rfl⟩ : ∃ m, n = k + (32 + m) := ⟨n - k - 32, by omega⟩
  rw [P_add, P_add]
  have e1 : P 0 (burst k turn) k = 0 := by
    rw [P_congr 0 (g := fun _ => false) k (fun i hi => by unfold burst; simp; omega), P_zero, Tn_zero]
  have e2 : P 0 (fun i => burst k turn (k + i)) 32 = Tn 32 turn := by
    rw [P_congr 0 (g := fun i => turn.testBit i) 32 (fun i hi => by unfold burst; rw [show k + i - k = i by omega]; simp; omega), P_word, Nat.zero_xor, show turn / 2 ^ 32 = 0 by omega, Nat.xor_zero]
  have e3 : ∀ r, P r (fun i => burst k turn (k + (32 + i))) m = Tn m r := fun r => by
    rw [P_congr r (g := fun _ => false) m (fun i hi => by unfold burst; simp; omega), P_zero]
  rw [e1, e2, e3]
  exact Tn_ne m (Tn_lt 32 h32) (Tn_ne 32 h32 h0)
theorem compl_inj {a b : Nat} (ha : a < 4294967296) (hb : b < 4294967296) (h : 4294967295 - a = 4294967295 - b) : a = b := by omega
theorem tells {x y : List UInt8} {k turn : Nat} (hl : x.length = y.length) (h0 : turn ≠ 0) (h32 : turn < 4294967296) (hk : k + 32 ≤ 8 * x.length)
    (h : ∀ i, i < 8 * x.length → bitAt y i = (bitAt x i ^^ burst k turn i)) : sumL x ≠ sumL y := by
  intro e
  have e := compl_inj (feedL_lt (by decide) x) (feedL_lt (by decide) y) e
  rw [feedL_P, feedL_P, ← hl, P_congr _ (g := fun i => bitAt x i ^^ burst k turn i) _ h] at e
  have hx := P_xor 4294967295 0 (bitAt x) (burst k turn) (8 * x.length)
  rw [Nat.xor_zero, ← e] at hx
  have := P_burst k turn (8 * x.length) h0 h32 hk
  apply this
  have h2 : P 4294967295 (bitAt x) (8 * x.length) ^^^ P 4294967295 (bitAt x) (8 * x.length) = P 4294967295 (bitAt x) (8 * x.length) ^^^ (P 4294967295 (bitAt x) (8 * x.length) ^^^ P 0 (burst k turn) (8 * x.length)) := by rw [← hx]
  rw [Nat.xor_self, ← Nat.xor_assoc, Nat.xor_self, Nat.zero_xor] at h2
  exact h2.symm
/-- The bytes with zeros in the sum's place. -/
def zeroed (l : List UInt8) (k : Nat) : List UInt8 := l.take k ++ [0, 0, 0, 0] ++ l.drop (k + 4)
def byteOf (s m : Nat) : UInt8 := UInt8.ofNat (s / 256 ^ m)
def le4 (s : Nat) : List UInt8 := [byteOf s 0, byteOf s 1, byteOf s 2, byteOf s 3]
def sealL (l : List UInt8) (k : Nat) : List UInt8 := l.take k ++ le4 (sumL (zeroed l k)) ++ l.drop (k + 4)
theorem mid_get (l m : List UInt8) (k i : Nat) (hk : k + m.length ≤ l.length) : (l.take k ++ m ++ l.drop (k + m.length))[i]? = if k ≤ i ∧ i < k + m.length then m[i - k]? else l[i]? := by
  have hl : (l.take k).length = k := by rw [List.length_take]; omega
  rw [List.append_assoc]
  by_cases h1 : i < k
  · rw [List.getElem?_append_left (by omega), if_neg (by omega), List.getElem?_take, if_pos h1]
  · rw [List.getElem?_append_right (by omega), hl]
    by_cases h2 : i < k + m.length
    · rw [List.getElem?_append_left (by omega), if_pos (by omega)]
    · rw [List.getElem?_append_right (by omega), if_neg (by omega), List.getElem?_drop]
      congr 1; omega
theorem zeroed_length (l : List UInt8) (k : Nat) (hk : k + 4 ≤ l.length) : (zeroed l k).length = l.length := by
  simp [zeroed, List.length_take, List.length_drop]; omega
/-- The word of m bytes from place k on. -/
def leW (l : List UInt8) (k : Nat) : Nat → Nat
  | 0 => 0
  | m + 1 => leW l k m + (l.getD (k + m) 0).toNat * 256 ^ m
def sealedB (l : List UInt8) (k : Nat) : Bool := leW l k 4 == sumL (zeroed l k)
theorem leW4 (l : List UInt8) (k : Nat) : leW l k 4 = (l.getD k 0).toNat + (l.getD (k + 1) 0).toNat * 256 + (l.getD (k + 2) 0).toNat * 65536 + (l.getD (k + 3) 0).toNat * 16777216 := by
  simp [leW]
theorem bit_lt {n m : Nat} (h : n < 256) (hm : 8 ≤ m) : n.testBit m = false :=
  Nat.testBit_lt_two_pow (Nat.lt_of_lt_of_le (show n < 2 ^ 8 from h) (Nat.pow_le_pow_right (by decide) hm))
theorem byte_ext {a b : UInt8} (h : ∀ m, m < 8 → a.toNat.testBit m = b.toNat.testBit m) : a = b := by
  apply UInt8.toNat_inj.1
  apply Nat.eq_of_testBit_eq
  intro m
  by_cases hm : m < 8
  · exact h m hm
  · rw [bit_lt (u8_lt a) (by omega), bit_lt (u8_lt b) (by omega)]
theorem byte_bits {l r : List UInt8} {j : Nat} (h : ∀ m, m < 8 → bitAt l (8 * j + m) = bitAt r (8 * j + m)) : l.getD j 0 = r.getD j 0 := by
  apply byte_ext
  intro m hm
  have := h m hm
  unfold bitAt at this
  rwa [show (8 * j + m) / 8 = j by omega, show (8 * j + m) % 8 = m by omega] at this
def maskOf (m : Nat) : UInt8 := UInt8.ofNat (2 ^ m)
theorem maskOf_nat {m : Nat} (h : m < 8) : (maskOf m).toNat = 2 ^ m := by
  have : 2 ^ m < 256 := Nat.pow_lt_pow_right (by decide) h
  simp only [maskOf, UInt8.toNat_ofNat']
  exact Nat.mod_eq_of_lt this
/-- The list with one bit turned. -/
def flip (l : List UInt8) (j : Nat) : List UInt8 := l.set (j / 8) (l.getD (j / 8) 0 ^^^ maskOf (j % 8))
theorem flip_length (l : List UInt8) (j : Nat) : (flip l j).length = l.length := by simp [flip]
theorem bitAt_flip (l : List UInt8) (j i : Nat) (hj : j < 8 * l.length) : bitAt (flip l j) i = (bitAt l i ^^ decide (i = j)) := by
  unfold bitAt flip
  rw [List.getD_eq_getElem?_getD, List.getElem?_set]
  by_cases h : j / 8 = i / 8
  · rw [if_pos h, if_pos (by omega)]
    simp only [Option.getD_some, UInt8.toNat_xor, Nat.testBit_xor]
    rw [maskOf_nat (by omega), Nat.testBit_two_pow, h]
    congr 1
    by_cases h2 : i = j
    · subst h2; simp
    · simp only [h2, decide_false, decide_eq_false_iff_not]; omega
  · rw [if_neg h]
    have : ¬ i = j := by omega
    simp only [this, decide_false, Bool.xor_false]
    rw [← List.getD_eq_getElem?_getD]
/-- The first n bits of t, turned from place k on. -/
def turned (l : List UInt8) (k t : Nat) : Nat → List UInt8
  | 0 => l
  | n + 1 => if t.testBit n then flip (turned l k t n) (k + n) else turned l k t n
theorem turned_length (l : List UInt8) (k t n : Nat) : (turned l k t n).length = l.length := by
  induction n with
  | zero => rfl
  | succ n ih => unfold turned; split; rw [flip_length, ih]; exact ih
theorem bitAt_turned (l : List UInt8) (k t n i : Nat) (h : k + n ≤ 8 * l.length) : bitAt (turned l k t n) i = (bitAt l i ^^ (decide (k ≤ i) && decide (i < k + n) && t.testBit (i - k))) := by
  induction n with
  | zero => simp only [turned]; rw [show (decide (k ≤ i) && decide (i < k + 0)) = false by simp]; simp
  | succ n ih =>
    have ih := ih (by omega)
    unfold turned
    by_cases hb : t.testBit n = true
    · rw [if_pos hb, bitAt_flip _ _ _ (by rw [turned_length]; omega), ih]
      by_cases hi : i = k + n
      · subst hi
        rw [show k + n - k = n by omega, hb]
        simp
      · have e1 : decide (i < k + n) = decide (i < k + (n + 1)) := by rw [Bool.eq_iff_iff]; simp; omega
        rw [e1]
        simp [hi]
    · rw [if_neg hb, ih]
      by_cases hi : i = k + n
      · subst hi
        rw [show k + n - k = n by omega]
        simp [hb]
      · have e1 : decide (i < k + n) = decide (i < k + (n + 1)) := by rw [Bool.eq_iff_iff]; simp; omega
        rw [e1]
theorem bitAt_zeroed (l : List UInt8) (k i : Nat) (hk : k + 4 ≤ l.length) : bitAt (zeroed l k) i = if 8 * k ≤ i ∧ i < 8 * k + 32 then false else bitAt l i := by
  unfold bitAt zeroed
  have := mid_get l [0, 0, 0, 0] k (i / 8) (by simpa using hk)
  rw [show k + ([0, 0, 0, 0] : List UInt8).length = k + 4 by rfl] at this
  rw [List.getD_eq_getElem?_getD, this]
  by_cases h : k ≤ i / 8 ∧ i / 8 < k + 4
  · rw [if_pos h, if_pos (by omega)]
    have hd : i / 8 - k = 0 ∨ i / 8 - k = 1 ∨ i / 8 - k = 2 ∨ i / 8 - k = 3 := by omega
    rcases hd with e | e | e | e <;> rw [e] <;> simp
  · rw [if_neg h, if_neg (by omega), ← List.getD_eq_getElem?_getD]
/-- A sealed packet with bits turned outside its seal is sealed no more. -/
theorem told {s : List UInt8} {a k t : Nat} (ha : a + 4 ≤ s.length) (hk : k + 32 ≤ 8 * s.length) (ht : t ≠ 0) (h32 : t < 4294967296) (hout : k + 31 < 8 * a ∨ 8 * a + 32 ≤ k) (hs : sealedB s a = true) :
    sealedB (turned s k t 32) a = false := by
  have hb := fun i => bitAt_turned s k t 32 i hk
  have hl := turned_length s k t 32
  generalize turned s k t 32 = r at hb hl
  have hw : leW r a 4 = leW s a 4 := by
    rw [leW4, leW4]
    have e : ∀ d, d < 4 → r.getD (a + d) 0 = s.getD (a + d) 0 := fun d hd => byte_bits (fun m hm => by
      rw [hb]
      have : (decide (k ≤ 8 * (a + d) + m) && decide (8 * (a + d) + m < k + 32)) = false := by simp; omega
      rw [this]; simp)
    have e0 := e 0 (by decide)
    rw [Nat.add_zero] at e0
    rw [e0, e 1 (by decide), e 2 (by decide), e 3 (by decide)]
  unfold sealedB at hs ⊢
  rw [hw, eq_of_beq hs, beq_eq_false_iff_ne]
  refine tells (k := k) (turn := t) (by rw [zeroed_length _ _ ha, zeroed_length _ _ (by omega), hl]) ht h32 (by rw [zeroed_length _ _ ha]; exact hk) (fun i hi => ?_)
  rw [bitAt_zeroed _ _ _ ha, bitAt_zeroed _ _ _ (by omega), hb]
  by_cases hi2 : 8 * a ≤ i ∧ i < 8 * a + 32
  · rw [if_pos hi2, if_pos hi2]
    unfold burst
    have : (decide (k ≤ i) && decide (i < k + 32)) = false := by simp; omega
    rw [this]; rfl
  · rw [if_neg hi2, if_neg hi2]; rfl
/-- The first k bytes of a and m laid over each other, n places in all. -/
def mixed (a m : List UInt8) (n : Nat) : Nat → List UInt8
  | 0 => List.replicate n 0
  | k + 1 => (mixed a m n k).set k (a.getD k 0 ^^^ m.getD k 0)
end Go.Proofs.Ytioddokjogbmnaa.Crc

set_option linter.unusedVariables false
set_option linter.unusedSimpArgs false
namespace Go.Proofs.Ytioddokjogbmnaa.Chk
open Go.ChangeShapes Go.WideShapes Go.ChangeAt Go.RowKit Go.Deep Go.Proofs.Ytioddokjogbmnaa.Words Go.Proofs.Ytioddokjogbmnaa.Oct Go.Proofs.Ytioddokjogbmnaa.Par
theorem flat_get {α : Type} {f : α → List Value} {m : Nat} (hf : ∀ x, (f x).length = m) : ∀ (l : List α) (k : Nat) (x : α) (j : Nat), l[k]? = some x → j < m → ((l.map f).flatten)[k * m + j]? = (f x)[j]? := by
  intro l
  induction l with
  | nil => intro k x j h; simp at h
  | cons y l ih =>
    intro k x j h hj
    cases k with
    | zero =>
      simp only [List.getElem?_cons_zero, Option.some.injEq] at h
      subst h
      rw [List.map_cons, List.flatten_cons, List.getElem?_append_left (by rw [hf]; omega), Nat.zero_mul, Nat.zero_add]
    | succ k =>
      rw [List.map_cons, List.flatten_cons, List.getElem?_append_right (by rw [hf, Nat.succ_mul]; omega), hf, show (k + 1) * m + j - m = k * m + j by rw [Nat.succ_mul]; omega]
      exact ih k x j (by simpa using h) hj
end Go.Proofs.Ytioddokjogbmnaa.Chk

set_option linter.unusedVariables false
set_option linter.unusedSimpArgs false
namespace Go.Proofs.Ytioddokjogbmnaa.Chk
open Go.ChangeShapes Go.WideShapes Go.ChangeAt Go.RowKit Go.Deep Go.Proofs.Ytioddokjogbmnaa.Words Go.Proofs.Ytioddokjogbmnaa.Oct Go.Proofs.Ytioddokjogbmnaa.Par
theorem run_loadVar_any {P : Program} (w : World) (a : Addr) (ty : TypeId) (cs : Array Value) (d : TypeDesc) (hc : ∀ j v, cs[j]? = some v → w.cell? (a.add j) = some v)
    (hu : P.underlying ty = some d) (hd : d.isRow = true) (hi : (P.info? ty).map (·.size) = some cs.size) : (loadVar ty a).run P w = .ok (.agg cs) w := by
  have hl : (loadCells a cs.size).run P w = .ok cs w := by
    have := run_loadCells_list (P := P) w a cs.toList (fun j v hv => hc j v (by simpa using hv))
    simpa using this
  cases hq : P.info? ty with
  | none => simp [hq] at hi
  | some i =>
    have hs : i.size = cs.size := by simpa [hq] using hi
    have hagg : (isAgg ty).run P w = .ok true w := by
      unfold isAgg
      rw [Sem.run_bind, run_underlying hu w]
      cases d <;> simp_all
    simp [loadVar, Sem.run_bind, hagg, sizeOf, typeInfo, hq, hs, hl]
theorem wpList_load_any {P : Program} {ops : Array Oper} {rest : List Oper} {o : Oper} {a : Act} {w : World} {Q : Exit → Act → World → Prop} (hgd : o.guard = none) (ty : TypeId) (x : Operand) (ho : o.op = .load ty x)
    (ad : Addr) (hx : a.eval x = .pointer (some ad)) (cs : Array Value) (d : TypeDesc) (hc : ∀ j v, cs[j]? = some v → w.cell? (ad.add j) = some v)
    (hu : P.underlying ty = some d) (hd : d.isRow = true) (hi : (P.info? ty).map (·.size) = some cs.size)
    (h : wpList P ops Q rest (a.put o.dst (.agg cs)) w) : wpList P ops Q (o :: rest) a w :=
  wpList_plain hgd fun _ hK => by
    unfold Oper.wp execOp
    simp only [ho, hx, Instr.loadAt, Instr.sureAddr, Sem.run_bind, Sem.run_pure, Result.andThen_ok, run_loadVar_any w ad ty cs d hc hu hd hi]
    exact hK _ _ h
/-- A slice of chunks that reads as the list ls, below block B. -/
def Cks (w : World) (B : Nat) (A : Option Addr) (ls : List Ck) : Prop :=
  ∀ k c, ls[k]? = some c → ∃ (ad : Addr) (cs : Array Value), A = some ad ∧ ad.block < B ∧ CkAt w B cs c ∧ ∀ j v, cs[j]? = some v → w.cell? ((ad.add (k * 19)).add j) = some v
section
variable {w w' : World} {B B' : Nat} {A : Option Addr} {ls : List Ck}
theorem Cks.keep (h : Cks w B A ls) (hk : ∀ p : Addr, p.block < B → w'.cell? p = w.cell? p) : Cks w' B A ls := fun k c hc => by
  obtain ⟨ad, cs, h1, h2, h3, h4⟩ := h k c hc
  exact ⟨ad, cs, h1, h2, h3.keep hk, fun j v hv => (hk _ (by rw [block_of_add, block_of_add]; exact h2)).trans (h4 j v hv)⟩
theorem Cks.more (h : Cks w B A ls) (hB : B ≤ B') : Cks w B' A ls := fun k c hc => by
  obtain ⟨ad, cs, h1, h2, h3, h4⟩ := h k c hc
  exact ⟨ad, cs, h1, by omega, h3.more hB, h4⟩
theorem Cks.below (h : Cks w B A ls) (hb : Below B w w') : Cks w' B A ls := h.keep fun _ hp => hb.cell hp
theorem Cks.drewN (h : Cks w B A ls) (n : Nat) : Cks (w.drewN n) B A ls := h.keep fun _ _ => rfl
theorem Cks.nil (w : World) (B : Nat) (A : Option Addr) : Cks w B A [] := fun k c hc => by simp at hc
theorem Cks.ok (h : Cks w B A ls) : ∀ c ∈ ls, c.ok := fun c hc => by
  obtain ⟨k, hk, rfl⟩ := List.mem_iff_getElem.1 hc
  obtain ⟨_, _, _, _, h3, _⟩ := h k _ (List.getElem?_eq_getElem hk)
  exact h3.ok
end
instance : Inhabited Ck := ⟨zeroC 0⟩
end Go.Proofs.Ytioddokjogbmnaa.Chk

set_option linter.unusedVariables false
set_option linter.unusedSimpArgs false
namespace Go.Proofs.Ytioddokjogbmnaa.Chk
open Go.ChangeShapes Go.WideShapes Go.ChangeAt Go.RowKit Go.Deep Go.Proofs.Ytioddokjogbmnaa.Words Go.Proofs.Ytioddokjogbmnaa.Oct Go.Proofs.Ytioddokjogbmnaa.Par
/-- Where Strip stands: the chunk's variable, the result's; the result's lists lie elsewhere. -/
structure StS (ea : Bool) (w V : World) (g0 g1 g2 : Nat) (cs : Array Value) (d : Ck) : Prop where
  b0 : CkBlk V g0 cs
  ex : ∃ g dd s p b : Hd, CkBlk V g1 (ckArr d (g.v d.gaps.length) (dd.v d.dups.length) (s.v d.skips.length) (p.v d.ps.length) (b.v d.body.length)) ∧ d.ok ∧ (∀ V' : World, (∀ q : Addr, q.block ≠ g1 → q.block ≠ g2 → V'.cell? q = V.cell? q) → Lists V' V.heap.size d g dd s p b) ∧ (ea = true → s = ⟨none, 0⟩)
  below : Below w.heap.size w V
  ne : g0 ≠ g1
  lo : w.heap.size ≤ g1
  lo0 : w.heap.size ≤ g0
  b2 : CkBlk V g2 zeroA
  ne2 : g2 ≠ g1
  ne3 : g2 ≠ g0
  lo2 : w.heap.size ≤ g2
/-- Where Strip stands in the loop over what is skipped. -/
structure SkS (w V : World) (g0 g1 g2 : Nat) (cs : Array Value) (kd tsn : Nat) (vg vd vp vb : Value) (A : Option Addr) (n cp : Nat) (l : List Skp) : Prop where
  b0 : CkBlk V g0 cs
  b1 : CkBlk V g1 (ckArr { zeroC kd with tsn := tsn } vg vd (.slice A n cp) vp vb)
  own : V.ownsRow w.heap.size 53 3 (.slice A n cp) n (skC l)
  len : n = l.length
  below : Below w.heap.size w V
  b2 : CkBlk V g2 zeroA
section
variable {w V V' : World} {g0 g1 g2 : Nat} {cs : Array Value} {kd tsn : Nat} {vg vd vp vb : Value} {A A' : Option Addr} {n cp cp' : Nat} {l : List Skp} {v' : Value}
theorem SkS.grows (h : SkS w V g0 g1 g2 cs kd tsn vg vd vp vb A n cp l) (k : Below V.heap.size V V') : SkS w V' g0 g1 g2 cs kd tsn vg vd vp vb A n cp l :=
  ⟨h.b0.below k h.b0.lt, h.b1.below k h.b1.lt, (Fr.of_below k).own h.own (fun g hg hi => by have := (h.own.lt g hg).2; omega), h.len, h.below.trans (k.mono h.below.size), h.b2.below k h.b2.lt⟩
/-- Behind the append and its store. -/
theorem SkS.more {s : Skp} {n' : Nat} (h : SkS w V g0 g1 g2 cs kd tsn vg vd vp vb A n cp l) (ho : V'.ownsRow w.heap.size 53 3 (.slice A' n' cp') n' (skC l ++ [.int .u16 (s.1 : Int), .bool s.2.1, .int .u32 (s.2.2 : Int)])) (hn : n' = n + 1) (hg : V.grownBy V' (Value.slice A n cp).ownBlock) (ne : g0 ≠ g1) (ne2 : g2 ≠ g1) (lo : w.heap.size ≤ g1) :
    SkS w (V'.setCell ⟨g1, 16, none⟩ (.slice A' n' cp')) g0 g1 g2 cs kd tsn vg vd vp vb A' n' cp' (l ++ [s]) := by
  have f0 := Blk.grown h.b0 hg (own_blk_ne h.own h.b0 (by decide)).symm
  have f1 := Blk.grown h.b1 hg (own_blk_ne h.own h.b1 (by decide)).symm
  have f2 := Blk.grown h.b2 hg (own_blk_ne h.own h.b2 (by decide)).symm
  have hb := h.below.grown hg h.below.size (fun g hg => (h.own.lt g hg).1)
  refine ⟨Blk.far f0 (p := ⟨g1, 16, none⟩) ne _, Blk.set_ f1 16 _, ?_, by rw [List.length_append, ← h.len]; exact hn, hb.setCell (p := ⟨g1, 16, none⟩) lo _, Blk.far f2 (p := ⟨g1, 16, none⟩) ne2 _⟩
  rw [skC_snoc]
  exact ((Fr.refl (fun k => k = g1) V').setCell (p := ⟨g1, 16, none⟩) (.inl rfl) _).own ho (fun g hg e => own_blk_ne ho f1 (by decide) (by rw [hg, e]))
end
end Go.Proofs.Ytioddokjogbmnaa.Chk

set_option linter.unusedVariables false
set_option linter.unusedSimpArgs false
namespace Go.Proofs.Ytioddokjogbmnaa.Chk
open Go.ChangeShapes Go.WideShapes Go.ChangeAt Go.RowKit Go.Deep Go.Proofs.Ytioddokjogbmnaa.Words Go.Proofs.Ytioddokjogbmnaa.Oct Go.Proofs.Ytioddokjogbmnaa.Par
/-- Two lists that are the same but for fields that their kinds have not. -/
structure Alikes (l1 l2 : List Ck) : Prop where
  len : l1.length = l2.length
  strips : ∀ k (h1 : k < l1.length) (h2 : k < l2.length), strip l1[k] = strip l2[k]
  known1 : ∀ c ∈ l1, known c.kind = true ∧ c.skips.length ≤ 500000
  known2 : ∀ c ∈ l2, known c.kind = true ∧ c.skips.length ≤ 500000
end Go.Proofs.Ytioddokjogbmnaa.Chk

set_option linter.unusedVariables false
set_option linter.unusedSimpArgs false
namespace Go.Proofs.Ytioddokjogbmnaa.Crc
open Go.ChangeShapes Go.WideShapes Go.ChangeAt Go.RowKit Go.Proofs.Ytioddokjogbmnaa.Words
/-- A slice of slices of bytes. -/
def Parts (w : World) (B : Nat) (A : Option Addr) (n : Nat) (ls : List (List UInt8)) : Prop :=
  ls.length = n ∧ ∀ j l, ls[j]? = some l → ∃ ad a c, A = some ad ∧ w.cell? (ad.add j) = some (.slice a l.length c) ∧ l.length ≤ 9223372036854775807 ∧ Byt w B a l
theorem Parts.nil (w : World) (B : Nat) : Parts w B none 0 [] := ⟨rfl, fun j l h => by simp at h⟩
theorem flat_take (ls : List (List UInt8)) (k : Nat) (l : List UInt8) (h : ls[k]? = some l) : (ls.take (k + 1)).flatten = (ls.take k).flatten ++ l := by
  obtain ⟨hk, rfl⟩ := List.getElem?_eq_some_iff.1 h
  rw [List.take_succ_eq_append_getElem hk, List.flatten_append]
  simp only [List.flatten_cons, List.flatten_nil, List.append_nil]
theorem u8_info : (Try.prog.info? 5).map (fun i => (i.zero, i.size, i.bytes)) = some (some (.int .u8 0), 1, 1) := by kernel_rfl
/-- A row of bytes of the call's own. -/
abbrev Own (w : World) (B : Nat) (v : Value) (l : List UInt8) : Prop := w.ownsRow B 5 1 v l.length (u8s l)
end Go.Proofs.Ytioddokjogbmnaa.Crc

set_option linter.unusedVariables false
set_option linter.unusedSimpArgs false
namespace Go.Proofs.Ytioddokjogbmnaa.Crc
open Go.ChangeShapes Go.WideShapes Go.ChangeAt Go.RowKit Go.Proofs.Ytioddokjogbmnaa.Words
theorem Own.byt {w : World} {B : Nat} {A : Option Addr} {c : Nat} {l : List UInt8} (h : Own w B (.slice A l.length c) l) : Byt w w.heap.size A l := Reads.of_own h
theorem own_mono {w : World} {B B' : Nat} {e : TypeId} {size n : Nat} {v : Value} {xs : List Value} (h : w.ownsRow B e size v n xs) (hB : B' ≤ B) : w.ownsRow B' e size v n xs := by
  refine ⟨h.1, ?_⟩
  rcases h.2 with h | ⟨g, cap, cur, h1, h2, h3⟩
  · exact .inl h
  · exact .inr ⟨g, cap, cur, h1, Nat.le_trans hB h2, h3⟩
end Go.Proofs.Ytioddokjogbmnaa.Crc

set_option linter.unusedVariables false
set_option linter.unusedSimpArgs false
namespace Go.Proofs.Ytioddokjogbmnaa.Chk
open Go.ChangeShapes Go.WideShapes Go.ChangeAt Go.RowKit Go.Deep Go.Proofs.Ytioddokjogbmnaa.Words Go.Proofs.Ytioddokjogbmnaa.Oct Go.Proofs.Ytioddokjogbmnaa.Par
open Go.Proofs.Ytioddokjogbmnaa.Crc (sealL)
theorem chunk_info3 : (Try.prog.info? 41).map (fun i => (i.zero, i.size, i.bytes)) = some (some (.agg zeroA), 19, 160) := by kernel_rfl
def OwnCks (w : World) (B : Nat) (v : Value) (ls : List Ck) : Prop :=
  ∃ xs, w.ownsRow B 41 19 v ls.length xs ∧ ∀ k c, ls[k]? = some c → c.ok ∧ ∃ cs : Array Value, (∀ j u, cs[j]? = some u → xs[k * 19 + j]? = some u) ∧ CkOwn w B cs c
theorem CkOwn.size {w : World} {B : Nat} {cs : Array Value} {c : Ck} (h : CkOwn w B cs c) : cs.size = 19 := by obtain ⟨_, _, _, _, _, rfl, _⟩ := h; rfl
section
variable {w w' : World} {B B' : Nat} {v v' : Value} {ls : List Ck} {c : Ck} {cs : Array Value}
theorem ownPs_beside {e : TypeId} {size n : Nat} {vp : Value} {ps : List Prm} {xs : List Value} (h : OwnPs w B vp ps) (hx : w.ownsRow B' e size v n xs) (h1 : 186 ≠ e) (h2 : 5 ≠ e) (k : w.grownBy w' v.ownBlock) : OwnPs w' B vp ps := by
  obtain ⟨ys, h3, h4⟩ := h
  refine ⟨ys, own_beside h3 hx h1 k, fun i p hp => ?_⟩
  obtain ⟨q1, a, c, q2, q3, q4, q5, q6⟩ := h4 i p hp
  exact ⟨q1, a, c, q2, q3, q4, q5, own_beside q6 hx h2 k⟩
theorem CkOwn.beside {n : Nat} {xs : List Value} (h : CkOwn w B cs c) (hx : w.ownsRow B' 41 19 v n xs) (k : w.grownBy w' v.ownBlock) : CkOwn w' B cs c := by
  obtain ⟨gv, dv, sv, pv, bv, e, h1, h2, h3, h4, h5⟩ := h
  exact ⟨gv, dv, sv, pv, bv, e, own_beside h1 hx (by decide) k, own_beside h2 hx (by decide) k, own_beside h3 hx (by decide) k, ownPs_beside h4 hx (by decide) (by decide) k, own_beside h5 hx (by decide) k⟩
theorem OwnCks.nil (w : World) (B : Nat) : OwnCks w B (.slice none 0 0) [] := ⟨[], World.ownsRow_nil _ _ _ _, fun k p h => by simp at h⟩
theorem OwnCks.fr {S : Nat → Prop} (h : OwnCks w B v ls) (k : Fr S w w') (hS : ∀ i, S i → i < w.heap.size → i < B) : OwnCks w' B v ls := by
  obtain ⟨xs, h1, h2⟩ := h
  refine ⟨xs, k.own h1 (fun g hg hi => by have := h1.lt g hg; have := hS g hi this.2; omega), fun i p hp => ?_⟩
  obtain ⟨h3, cs, h4, h5⟩ := h2 i p hp
  exact ⟨h3, cs, h4, h5.fr k hS⟩
theorem OwnCks.grows (h : OwnCks w B v ls) (k : Below w.heap.size w w') : OwnCks w' B v ls := h.fr (Fr.of_below k) (fun i hi hlt => by omega)
theorem OwnCks.mono (h : OwnCks w B v ls) (hB : B' ≤ B) : OwnCks w B' v ls := by
  obtain ⟨xs, h1, h2⟩ := h
  refine ⟨xs, own_mono h1 hB, fun i p hp => ?_⟩
  obtain ⟨h3, cs, h4, h5⟩ := h2 i p hp
  exact ⟨h3, cs, h4, h5.mono hB⟩
theorem OwnCks.slice (h : OwnCks w B v ls) : ∃ A c, v = .slice A ls.length c ∧ ls.length ≤ c ∧ c ≤ 9223372036854775807 := by
  obtain ⟨xs, h1, _⟩ := h
  exact own_slice h1
theorem OwnCks.snoc {n : Nat} {xs : List Value} (hx : w.ownsRow B 41 19 v ls.length xs) (hxs : ∀ k c, ls[k]? = some c → c.ok ∧ ∃ cs : Array Value, (∀ j u, cs[j]? = some u → xs[k * 19 + j]? = some u) ∧ CkOwn w B cs c)
    (hg : w.grownBy w' v.ownBlock) (ho : w'.ownsRow B 41 19 v' n (xs ++ cs.toList)) (hn : n = ls.length + 1) (hc : CkOwn w B cs c) (ok : c.ok) : OwnCks w' B v' (ls ++ [c]) := by
  have hl := hx.1
  refine ⟨_, by rw [List.length_append, List.length_singleton, ← hn]; exact ho, fun k q hq => ?_⟩
  by_cases hk : k < ls.length
  · rw [List.getElem?_append_left hk] at hq
    obtain ⟨h3, cs', h4, h5⟩ := hxs k q hq
    refine ⟨h3, cs', fun j u hu => ?_, h5.beside hx hg⟩
    have hj : j < 19 := by have := (Array.getElem?_eq_some_iff.1 hu).1; rw [h5.size] at this; exact this
    rw [List.getElem?_append_left (by omega)]
    exact h4 j u hu
  · rw [List.getElem?_append_right (by omega)] at hq
    have hk0 : k - ls.length = 0 := by
      have := (List.getElem?_eq_some_iff.1 hq).1
      simp at this
      omega
    rw [hk0] at hq
    simp only [List.getElem?_cons_zero, Option.some.injEq] at hq
    subst hq
    have hkl : k = ls.length := by omega
    subst hkl
    refine ⟨ok, cs, fun j u hu => ?_, hc.beside hx hg⟩
    rw [List.getElem?_append_right (by omega), show ls.length * 19 + j - xs.length = j by omega]
    simpa using hu
end
theorem fill_ck (c : Ck) (gv dv sv pv bv : Value) : Instr.fill (fun i => some (i * 19, 19)) ((Array.range (1 * 19)).map ((Value.agg zeroA).cells[· % (Value.agg zeroA).cells.size]!)) [(0, .agg (ckArr c gv dv sv pv bv))] = some (ckArr c gv dv sv pv bv) := by kernel_rfl
theorem CkAt.arr {w : World} {B : Nat} {cs : Array Value} {c : Ck} (h : CkAt w B cs c) : ∃ c gv dv sv pv bv, cs = ckArr c gv dv sv pv bv := by
  obtain ⟨_, g, d, s, p, b, e, _⟩ := h
  exact ⟨_, _, _, _, _, _, e⟩
theorem CkOwn.arr {w : World} {B : Nat} {cs : Array Value} {c : Ck} (h : CkOwn w B cs c) : ∃ c gv dv sv pv bv, cs = ckArr c gv dv sv pv bv := by
  obtain ⟨gv, dv, sv, pv, bv, e, _⟩ := h
  exact ⟨_, _, _, _, _, _, e⟩
theorem ck_cells1 {cs : Array Value} (h : ∃ c gv dv sv pv bv, cs = ckArr c gv dv sv pv bv) (h1 : cs.all (·.oneCell') = true) : ∀ u ∈ cs.toList, u.oneCell' = true := by
  intro u hu
  have := Array.all_eq_true'.1 h1 u (by simpa using hu)
  exact this
end Go.Proofs.Ytioddokjogbmnaa.Chk
