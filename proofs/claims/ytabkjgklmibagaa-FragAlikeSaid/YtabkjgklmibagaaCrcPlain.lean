/-
  Plain facts on the check sum of layer 3: one step, a byte, bytes, bits; that they add up; that a turned piece of at most 32 bits is told.
-/
import Derived.Test.YtabkjgklmibagaaRows
set_option linter.unusedVariables false
set_option linter.unusedSimpArgs false
namespace Go.Proofs.Ytabkjgklmibagaa.Crc

/-- One step of the register. -/
def T (r : Nat) : Nat := r / 2 ^^^ (if r % 2 = 1 then 2197175160 else 0)
def Tn : Nat → Nat → Nat
  | 0, r => r
  | k + 1, r => T (Tn k r)
def feed1 (r : Nat) (b : UInt8) : Nat := Tn 8 (r ^^^ b.toNat)
def feedL (r : Nat) (l : List UInt8) : Nat := l.foldl feed1 r
def sumL (l : List UInt8) : Nat := 4294967295 - feedL 4294967295 l

theorem T_lt {r : Nat} (h : r < 4294967296) : T r < 4294967296 := by
  unfold T
  have : r / 2 < 2 ^ 32 := by omega
  refine Nat.xor_lt_two_pow (n := 32) this ?_
  split <;> decide
theorem Tn_lt (k : Nat) {r : Nat} (h : r < 4294967296) : Tn k r < 4294967296 := by
  induction k with
  | zero => exact h
  | succ k ih => exact T_lt ih
theorem u8_lt (b : UInt8) : b.toNat < 256 := b.toNat_lt
theorem feed1_lt {r : Nat} (h : r < 4294967296) (b : UInt8) : feed1 r b < 4294967296 :=
  Tn_lt 8 (Nat.xor_lt_two_pow (n := 32) h (by have := u8_lt b; omega))
theorem feedL_lt {r : Nat} (h : r < 4294967296) : ∀ l : List UInt8, feedL r l < 4294967296 := by
  intro l
  induction l generalizing r with
  | nil => exact h
  | cons b l ih => exact ih (feed1_lt h b)
theorem feedL_append (r : Nat) (a b : List UInt8) : feedL r (a ++ b) = feedL (feedL r a) b := by unfold feedL; rw [List.foldl_append]
theorem feedL_snoc (r : Nat) (a : List UInt8) (b : UInt8) : feedL r (a ++ [b]) = feed1 (feedL r a) b := by rw [feedL_append]; rfl
theorem sumL_lt (l : List UInt8) : sumL l < 4294967296 := by unfold sumL; omega

theorem xor_left_comm (a b c : Nat) : a ^^^ (b ^^^ c) = b ^^^ (a ^^^ c) := by rw [← Nat.xor_assoc, Nat.xor_comm a b, Nat.xor_assoc]
theorem xor_zero_eq {a b : Nat} (h : a ^^^ b = 0) : a = b := by
  have h2 : (a ^^^ b) ^^^ b = 0 ^^^ b := by rw [h]
  rwa [Nat.xor_assoc, Nat.xor_self, Nat.xor_zero, Nat.zero_xor] at h2
theorem xor_mod2 (a b : Nat) : (a ^^^ b) % 2 = (a % 2 + b % 2) % 2 := by
  have h := Nat.xor_mod_two_pow (a := a) (b := b) (n := 1)
  simp only [Nat.pow_one] at h
  rw [h]
  rcases Nat.mod_two_eq_zero_or_one a with ha | ha <;> rcases Nat.mod_two_eq_zero_or_one b with hb | hb <;> rw [ha, hb] <;> rfl
theorem xor_div2 (a b : Nat) : (a ^^^ b) / 2 = a / 2 ^^^ b / 2 := by
  have h := Nat.xor_div_two_pow (a := a) (b := b) (n := 1)
  simpa only [Nat.pow_one] using h
theorem T_xor (a b : Nat) : T (a ^^^ b) = T a ^^^ T b := by
  unfold T
  rw [xor_mod2, xor_div2]
  rcases Nat.mod_two_eq_zero_or_one a with ha | ha <;> rcases Nat.mod_two_eq_zero_or_one b with hb | hb <;> rw [ha, hb] <;> simp [Nat.xor_assoc]
  · rw [Nat.xor_comm (b / 2)]
  · rw [xor_left_comm 2197175160, Nat.xor_self, Nat.xor_zero]
theorem Tn_xor (k a b : Nat) : Tn k (a ^^^ b) = Tn k a ^^^ Tn k b := by
  induction k with
  | zero => rfl
  | succ k ih => show T _ = _; rw [ih, T_xor]; rfl
theorem T_zero : T 0 = 0 := by decide
theorem Tn_zero (k : Nat) : Tn k 0 = 0 := by
  induction k with
  | zero => rfl
  | succ k ih => show T _ = 0; rw [ih, T_zero]
theorem T_ne {r : Nat} (h : r < 4294967296) (h0 : r ≠ 0) : T r ≠ 0 := by
  unfold T
  intro e
  have e := xor_zero_eq e
  split at e <;> omega
theorem Tn_ne (k : Nat) {r : Nat} (h : r < 4294967296) (h0 : r ≠ 0) : Tn k r ≠ 0 := by
  induction k with
  | zero => exact h0
  | succ k ih => exact T_ne (Tn_lt k h) ih

/-- The register after n bits, each laid into its lowest place ahead of the step. -/
def B2 (b : Bool) : Nat := if b then 1 else 0
def P (r : Nat) (f : Nat → Bool) : Nat → Nat
  | 0 => r
  | n + 1 => T (P r f n ^^^ B2 (f n))
theorem B2_xor (a b : Bool) : B2 (a ^^ b) = B2 a ^^^ B2 b := by cases a <;> cases b <;> rfl
theorem P_xor (r s : Nat) (f g : Nat → Bool) (n : Nat) : P (r ^^^ s) (fun i => f i ^^ g i) n = P r f n ^^^ P s g n := by
  induction n with
  | zero => rfl
  | succ n ih =>
    show T _ = T _ ^^^ T _
    rw [ih, B2_xor, ← T_xor]
    congr 1
    simp only [Nat.xor_assoc, Nat.xor_comm, xor_left_comm]
theorem P_congr (r : Nat) {f g : Nat → Bool} (n : Nat) (h : ∀ i, i < n → f i = g i) : P r f n = P r g n := by
  induction n with
  | zero => rfl
  | succ n ih => show T _ = T _; rw [ih (fun i hi => h i (by omega)), h n (by omega)]
theorem P_zero (r : Nat) (n : Nat) : P r (fun _ => false) n = Tn n r := by
  induction n with
  | zero => rfl
  | succ n ih => show T _ = T _; rw [ih]; simp [B2]
theorem P_add (r : Nat) (f : Nat → Bool) (m n : Nat) : P r f (m + n) = P (P r f m) (fun i => f (m + i)) n := by
  induction n with
  | zero => rfl
  | succ n ih => show T (P r f (m + n) ^^^ B2 (f (m + n))) = T _; rw [ih]
theorem P_lt {r : Nat} (h : r < 4294967296) (f : Nat → Bool) (n : Nat) : P r f n < 4294967296 := by
  induction n with
  | zero => exact h
  | succ n ih => exact T_lt (Nat.xor_lt_two_pow (n := 32) ih (by unfold B2; split <;> decide))
theorem div_bit (c k : Nat) : c / 2 ^ k % 2 = B2 (c.testBit k) := by
  rw [Nat.testBit_eq_decide_div_mod_eq]
  unfold B2
  rcases Nat.mod_two_eq_zero_or_one (c / 2 ^ k) with h | h <;> simp [h]
/-- A word's bits one by one: what is not used up yet lies beside. -/
theorem P_word (r c : Nat) (n : Nat) : P r (fun i => c.testBit i) n = Tn n (r ^^^ c) ^^^ c / 2 ^ n := by
  induction n with
  | zero => show r = (r ^^^ c) ^^^ c / 1; rw [Nat.div_one, Nat.xor_assoc, Nat.xor_self, Nat.xor_zero]
  | succ n ih =>
    show T (_ ^^^ B2 (c.testBit n)) = T _ ^^^ _
    rw [ih, ← div_bit, Nat.pow_succ, ← Nat.div_div_eq_div_mul]
    generalize c / 2 ^ n = d
    rw [Nat.xor_assoc, T_xor]
    congr 1
    unfold T
    rw [xor_mod2, xor_div2]
    have e : (d % 2 + d % 2 % 2) % 2 = 0 := by omega
    have e2 : d % 2 / 2 = 0 := by omega
    rw [e, e2]
    simp
theorem feed1_P (r : Nat) (b : UInt8) : feed1 r b = P r (fun i => b.toNat.testBit i) 8 := by
  rw [P_word]
  have : b.toNat / 2 ^ 8 = 0 := by have := u8_lt b; omega
  rw [this, Nat.xor_zero]
  rfl
/-- The bits of bytes. -/
def bitAt (l : List UInt8) (i : Nat) : Bool := (l.getD (i / 8) 0).toNat.testBit (i % 8)
theorem feedL_P (r : Nat) (l : List UInt8) : feedL r l = P r (bitAt l) (8 * l.length) := by
  induction l generalizing r with
  | nil => rfl
  | cons b l ih =>
    show feedL (feed1 r b) l = _
    rw [ih, feed1_P, show 8 * (b :: l).length = 8 + 8 * l.length by simp; omega, P_add]
    have e1 : P r (fun i => b.toNat.testBit i) 8 = P r (bitAt (b :: l)) 8 := P_congr _ _ (fun i hi => by
      unfold bitAt
      rw [show i / 8 = 0 by omega, show i % 8 = i by omega]
      rfl)
    rw [e1]
    refine P_congr _ _ (fun i hi => ?_)
    unfold bitAt
    rw [show (8 + i) / 8 = i / 8 + 1 by omega, show (8 + i) % 8 = i % 8 by omega]
    rfl

/-- Bits that are turned within 32 in a row are told. -/
def burst (k turn i : Nat) : Bool := decide (k ≤ i) && decide (i < k + 32) && turn.testBit (i - k)
theorem P_burst (k turn n : Nat) (h0 : turn ≠ 0) (h32 : turn < 4294967296) (hn : k + 32 ≤ n) : P 0 (burst k turn) n ≠ 0 := by
  obtain ⟨m, rfl⟩ : ∃ m, n = k + (32 + m) := ⟨n - k - 32, by omega⟩
  rw [P_add, P_add]
  have e1 : P 0 (burst k turn) k = 0 := by
    rw [P_congr 0 (g := fun _ => false) k (fun i hi => by unfold burst; simp; omega), P_zero, Tn_zero]
  have e2 : P 0 (fun i => burst k turn (k + i)) 32 = Tn 32 turn := by
    rw [P_congr 0 (g := fun i => turn.testBit i) 32 (fun i hi => by unfold burst; rw [show k + i - k = i by omega]; simp; omega), P_word, Nat.zero_xor, show turn / 2 ^ 32 = 0 by omega, Nat.xor_zero]
  have e3 : ∀ r, P r (fun i => burst k turn (k + (32 + i))) m = Tn m r := fun r => by
    rw [P_congr r (g := fun _ => false) m (fun i hi => by unfold burst; simp; omega), P_zero]
  rw [e1, e2, e3]
  exact Tn_ne m (Tn_lt 32 h32) (Tn_ne 32 h32 h0)
theorem compl_inj {a b : Nat} (ha : a < 4294967296) (hb : b < 4294967296) (h : 4294967295 - a = 4294967295 - b) : a = b := by omega
theorem tells {x y : List UInt8} {k turn : Nat} (hl : x.length = y.length) (h0 : turn ≠ 0) (h32 : turn < 4294967296) (hk : k + 32 ≤ 8 * x.length)
    (h : ∀ i, i < 8 * x.length → bitAt y i = (bitAt x i ^^ burst k turn i)) : sumL x ≠ sumL y := by
  intro e
  have e := compl_inj (feedL_lt (by decide) x) (feedL_lt (by decide) y) e
  rw [feedL_P, feedL_P, ← hl, P_congr _ (g := fun i => bitAt x i ^^ burst k turn i) _ h] at e
  have hx := P_xor 4294967295 0 (bitAt x) (burst k turn) (8 * x.length)
  rw [Nat.xor_zero, ← e] at hx
  have := P_burst k turn (8 * x.length) h0 h32 hk
  apply this
  have h2 : P 4294967295 (bitAt x) (8 * x.length) ^^^ P 4294967295 (bitAt x) (8 * x.length) = P 4294967295 (bitAt x) (8 * x.length) ^^^ (P 4294967295 (bitAt x) (8 * x.length) ^^^ P 0 (burst k turn) (8 * x.length)) := by rw [← hx]
  rw [Nat.xor_self, ← Nat.xor_assoc, Nat.xor_self, Nat.zero_xor] at h2
  exact h2.symm
theorem compl_xor {a b : Nat} (ha : a < 4294967296) (hb : b < 4294967296) : (4294967295 - a) ^^^ (4294967295 - b) = a ^^^ b := by
  apply Nat.eq_of_testBit_eq
  intro i
  have e : ∀ c, c < 4294967296 → (4294967295 - c).testBit i = (decide (i < 32) && !c.testBit i) := fun c hc => by
    have := Nat.testBit_two_pow_sub_succ (x := c) (n := 32) (by omega) i
    rw [← this, show 4294967295 - c = 2 ^ 32 - (c + 1) by omega]
  have z : ∀ c, c < 4294967296 → ¬ i < 32 → c.testBit i = false := fun c hc hi => Nat.testBit_lt_two_pow (Nat.lt_of_lt_of_le (show c < 2 ^ 32 from hc) (Nat.pow_le_pow_right (by decide) (by omega)))
  rw [Nat.testBit_xor, Nat.testBit_xor, e a ha, e b hb]
  by_cases hi : i < 32
  · simp [hi]
  · simp [hi, z a ha hi, z b hb hi]
/-- Sums add up. -/
theorem adds {a b x y : List UInt8} (h1 : a.length = b.length) (h2 : x.length = a.length) (h3 : y.length = a.length)
    (h : ∀ i, i < 8 * a.length → (bitAt a i ^^ bitAt b i) = (bitAt x i ^^ bitAt y i)) : sumL a ^^^ sumL b = sumL x ^^^ sumL y := by
  unfold sumL
  have hF : (4294967295 : Nat) < 4294967296 := by decide
  rw [compl_xor (feedL_lt hF a) (feedL_lt hF b), compl_xor (feedL_lt hF x) (feedL_lt hF y), feedL_P, feedL_P, feedL_P, feedL_P, ← h1, h2, h3, ← P_xor, ← P_xor]
  exact P_congr _ _ h

/-! ### the sum's place -/
/-- The bytes with zeros in the sum's place. -/
def zeroed (l : List UInt8) (k : Nat) : List UInt8 := l.take k ++ [0, 0, 0, 0] ++ l.drop (k + 4)
def byteOf (s m : Nat) : UInt8 := UInt8.ofNat (s / 256 ^ m)
/-- The first m bytes of s laid from place k on. -/
def laid (l : List UInt8) (k s : Nat) : Nat → List UInt8
  | 0 => l
  | m + 1 => (laid l k s m).set (k + m) (byteOf s m)
theorem laid_length (l : List UInt8) (k s m : Nat) : (laid l k s m).length = l.length := by
  induction m with
  | zero => rfl
  | succ m ih => simp [laid, ih]
theorem laid_get (l : List UInt8) (k s m i : Nat) : (laid l k s m)[i]? = if k ≤ i ∧ i < k + m ∧ i < l.length then some (byteOf s (i - k)) else l[i]? := by
  induction m with
  | zero => rw [if_neg (by omega)]; rfl
  | succ m ih =>
    rw [laid, List.getElem?_set, ih, laid_length]
    by_cases h : k + m = i
    · subst h
      rw [if_pos rfl]
      by_cases hl : k + m < l.length
      · rw [if_pos hl, if_pos (by omega), show k + m - k = m by omega]
      · rw [if_neg hl, if_neg (by omega), List.getElem?_eq_none (by omega)]
    · rw [if_neg h]
      by_cases h2 : k ≤ i ∧ i < k + m ∧ i < l.length
      · rw [if_pos h2, if_pos (by omega)]
      · rw [if_neg h2, if_neg (by omega)]
def le4 (s : Nat) : List UInt8 := [byteOf s 0, byteOf s 1, byteOf s 2, byteOf s 3]
def sealL (l : List UInt8) (k : Nat) : List UInt8 := l.take k ++ le4 (sumL (zeroed l k)) ++ l.drop (k + 4)
theorem mid_get (l m : List UInt8) (k i : Nat) (hk : k + m.length ≤ l.length) : (l.take k ++ m ++ l.drop (k + m.length))[i]? = if k ≤ i ∧ i < k + m.length then m[i - k]? else l[i]? := by
  have hl : (l.take k).length = k := by rw [List.length_take]; omega
  rw [List.append_assoc]
  by_cases h1 : i < k
  · rw [List.getElem?_append_left (by omega), if_neg (by omega), List.getElem?_take, if_pos h1]
  · rw [List.getElem?_append_right (by omega), hl]
    by_cases h2 : i < k + m.length
    · rw [List.getElem?_append_left (by omega), if_pos (by omega)]
    · rw [List.getElem?_append_right (by omega), if_neg (by omega), List.getElem?_drop]
      congr 1; omega
theorem laid_four (l : List UInt8) (k s : Nat) (hk : k + 4 ≤ l.length) : laid l k s 4 = l.take k ++ le4 s ++ l.drop (k + 4) := by
  apply List.ext_getElem?
  intro i
  rw [laid_get]
  have := mid_get l (le4 s) k i hk
  rw [show (le4 s).length = 4 by rfl] at this
  rw [this]
  by_cases h : k ≤ i ∧ i < k + 4
  · rw [if_pos (by omega), if_pos h]
    obtain ⟨d, rfl⟩ : ∃ d, i = k + d := ⟨i - k, by omega⟩
    rw [show k + d - k = d by omega]
    have hd : d = 0 ∨ d = 1 ∨ d = 2 ∨ d = 3 := by omega
    rcases hd with rfl | rfl | rfl | rfl <;> rfl
  · rw [if_neg (by omega), if_neg h]
theorem sealL_length (l : List UInt8) (k : Nat) (hk : k + 4 ≤ l.length) : (sealL l k).length = l.length := by
  rw [sealL, ← laid_four _ _ _ hk, laid_length]
theorem zeroed_length (l : List UInt8) (k : Nat) (hk : k + 4 ≤ l.length) : (zeroed l k).length = l.length := by
  simp [zeroed, List.length_take, List.length_drop]; omega
theorem take_mid (l m : List UInt8) (k : Nat) (hk : k ≤ l.length) (r : List UInt8) : (l.take k ++ m ++ r).take k = l.take k := by
  rw [List.append_assoc, List.take_append_of_le_length (by rw [List.length_take]; omega), List.take_take, Nat.min_self]
theorem drop_mid (l m : List UInt8) (k : Nat) (hk : k ≤ l.length) (r : List UInt8) (n : Nat) (hn : n = k + m.length) : (l.take k ++ m ++ r).drop n = r := by
  rw [List.drop_append_of_le_length (by simp [List.length_take]; omega), List.drop_of_length_le (by simp [List.length_take]; omega)]; rfl
/-- What stood in the sum's place doesn't matter. -/
theorem zeroed_mid (l m : List UInt8) (k : Nat) (hk : k + 4 ≤ l.length) (hm : m.length = 4) : zeroed (l.take k ++ m ++ l.drop (k + 4)) k = zeroed l k := by
  unfold zeroed
  rw [take_mid _ _ _ (by omega), drop_mid _ _ _ (by omega) _ _ (by omega)]
theorem sealL_mid (l m : List UInt8) (k : Nat) (hk : k + 4 ≤ l.length) (hm : m.length = 4) : sealL (l.take k ++ m ++ l.drop (k + 4)) k = sealL l k := by
  unfold sealL
  rw [zeroed_mid _ _ _ hk hm, take_mid _ _ _ (by omega), drop_mid _ _ _ (by omega) _ _ (by omega)]
/-- The word of m bytes from place k on. -/
def leW (l : List UInt8) (k : Nat) : Nat → Nat
  | 0 => 0
  | m + 1 => leW l k m + (l.getD (k + m) 0).toNat * 256 ^ m
theorem leW_lt (l : List UInt8) (k m : Nat) : leW l k m < 256 ^ m := by
  induction m with
  | zero => simp [leW]
  | succ m ih =>
    have := u8_lt (l.getD (k + m) 0)
    rw [leW, Nat.pow_succ]
    have h2 : (l.getD (k + m) 0).toNat * 256 ^ m ≤ 255 * 256 ^ m := Nat.mul_le_mul_right _ (by omega)
    omega
def sealedB (l : List UInt8) (k : Nat) : Bool := leW l k 4 == sumL (zeroed l k)
theorem leW4 (l : List UInt8) (k : Nat) : leW l k 4 = (l.getD k 0).toNat + (l.getD (k + 1) 0).toNat * 256 + (l.getD (k + 2) 0).toNat * 65536 + (l.getD (k + 3) 0).toNat * 16777216 := by
  simp [leW]
theorem byteOf_nat (s m : Nat) : (byteOf s m).toNat = s / 256 ^ m % 256 := by simp [byteOf]
theorem mid_getD (l m : List UInt8) (k d : Nat) (hk : k + m.length ≤ l.length) (hd : d < m.length) : (l.take k ++ m ++ l.drop (k + m.length)).getD (k + d) 0 = m.getD d 0 := by
  rw [List.getD_eq_getElem?_getD, mid_get _ _ _ _ hk, if_pos (by omega), show k + d - k = d by omega, List.getD_eq_getElem?_getD]
theorem leW_le4 (l : List UInt8) (k s : Nat) (hk : k + 4 ≤ l.length) (hs : s < 4294967296) : leW (l.take k ++ le4 s ++ l.drop (k + 4)) k 4 = s := by
  rw [leW4]
  have h0 := mid_getD l (le4 s) k 0 hk (by rw [show (le4 s).length = 4 by rfl]; omega)
  have h1 := mid_getD l (le4 s) k 1 hk (by rw [show (le4 s).length = 4 by rfl]; omega)
  have h2 := mid_getD l (le4 s) k 2 hk (by rw [show (le4 s).length = 4 by rfl]; omega)
  have h3 := mid_getD l (le4 s) k 3 hk (by rw [show (le4 s).length = 4 by rfl]; omega)
  rw [show (le4 s).length = 4 by rfl] at h0 h1 h2 h3
  have h0 : (List.take k l ++ le4 s ++ List.drop (k + 4) l).getD k 0 = (le4 s).getD 0 0 := h0
  rw [h0, h1, h2, h3]
  simp only [le4, List.getD_cons_zero, List.getD_cons_succ, byteOf_nat]
  omega
theorem sealed_seal (l : List UInt8) (k : Nat) (hk : k + 4 ≤ l.length) : sealedB (sealL l k) k = true := by
  unfold sealedB sealL
  rw [leW_le4 _ _ _ hk (sumL_lt _), zeroed_mid _ _ _ hk rfl]
  simp
theorem le4_leW (l : List UInt8) (k : Nat) (hk : k + 4 ≤ l.length) : l.take k ++ le4 (leW l k 4) ++ l.drop (k + 4) = l := by
  apply List.ext_getElem?
  intro i
  have := mid_get l (le4 (leW l k 4)) k i hk
  rw [show (le4 (leW l k 4)).length = 4 by rfl] at this
  rw [this]
  by_cases h : k ≤ i ∧ i < k + 4
  · rw [if_pos h]
    obtain ⟨d, rfl⟩ : ∃ d, i = k + d := ⟨i - k, by omega⟩
    have hlt : k + d < l.length := by omega
    rw [show k + d - k = d by omega, List.getElem?_eq_getElem hlt]
    have e : ∀ d, k + d < l.length → l.getD (k + d) 0 = l[k + d]?.getD 0 := fun d hd => List.getD_eq_getElem?_getD
    have hw := leW4 l k
    have b0 := u8_lt (l.getD k 0)
    have b1 := u8_lt (l.getD (k + 1) 0)
    have b2 := u8_lt (l.getD (k + 2) 0)
    have b3 := u8_lt (l.getD (k + 3) 0)
    have g : l[k + d] = l.getD (k + d) 0 := by rw [List.getD_eq_getElem?_getD, List.getElem?_eq_getElem hlt]; rfl
    rw [g]
    have hd : d = 0 ∨ d = 1 ∨ d = 2 ∨ d = 3 := by omega
    rcases hd with rfl | rfl | rfl | rfl
    all_goals
      simp only [le4, List.getElem?_cons_zero, List.getElem?_cons_succ, Option.some.injEq, Nat.add_zero]
      apply UInt8.toNat_inj.1
      rw [byteOf_nat, hw]
      omega
  · rw [if_neg h]
theorem sealed_iff (l : List UInt8) (k : Nat) (hk : k + 4 ≤ l.length) : sealedB l k = true ↔ l = sealL l k := by
  constructor
  · intro h
    unfold sealedB at h
    have h := eq_of_beq h
    unfold sealL
    rw [← h, le4_leW _ _ hk]
  · intro h
    have := sealed_seal l k hk
    rwa [← h] at this
theorem T_bit (r : Nat) (b : Bool) : T (r ^^^ B2 b) = if (B2 b ^^^ r % 2) = 1 then r / 2 ^^^ 2197175160 else r / 2 := by
  unfold T
  rw [xor_mod2, xor_div2]
  rcases Nat.mod_two_eq_zero_or_one r with h | h <;> cases b <;> rw [h] <;> simp [B2]

/-! ### bits that are turned -/
theorem bit_lt {n m : Nat} (h : n < 256) (hm : 8 ≤ m) : n.testBit m = false :=
  Nat.testBit_lt_two_pow (Nat.lt_of_lt_of_le (show n < 2 ^ 8 from h) (Nat.pow_le_pow_right (by decide) hm))
theorem byte_ext {a b : UInt8} (h : ∀ m, m < 8 → a.toNat.testBit m = b.toNat.testBit m) : a = b := by
  apply UInt8.toNat_inj.1
  apply Nat.eq_of_testBit_eq
  intro m
  by_cases hm : m < 8
  · exact h m hm
  · rw [bit_lt (u8_lt a) (by omega), bit_lt (u8_lt b) (by omega)]
theorem byte_bits {l r : List UInt8} {j : Nat} (h : ∀ m, m < 8 → bitAt l (8 * j + m) = bitAt r (8 * j + m)) : l.getD j 0 = r.getD j 0 := by
  apply byte_ext
  intro m hm
  have := h m hm
  unfold bitAt at this
  rwa [show (8 * j + m) / 8 = j by omega, show (8 * j + m) % 8 = m by omega] at this
def maskOf (m : Nat) : UInt8 := UInt8.ofNat (2 ^ m)
theorem maskOf_nat {m : Nat} (h : m < 8) : (maskOf m).toNat = 2 ^ m := by
  have : 2 ^ m < 256 := Nat.pow_lt_pow_right (by decide) h
  simp only [maskOf, UInt8.toNat_ofNat']
  exact Nat.mod_eq_of_lt this
/-- The list with one bit turned. -/
def flip (l : List UInt8) (j : Nat) : List UInt8 := l.set (j / 8) (l.getD (j / 8) 0 ^^^ maskOf (j % 8))
theorem flip_length (l : List UInt8) (j : Nat) : (flip l j).length = l.length := by simp [flip]
theorem bitAt_flip (l : List UInt8) (j i : Nat) (hj : j < 8 * l.length) : bitAt (flip l j) i = (bitAt l i ^^ decide (i = j)) := by
  unfold bitAt flip
  rw [List.getD_eq_getElem?_getD, List.getElem?_set]
  by_cases h : j / 8 = i / 8
  · rw [if_pos h, if_pos (by omega)]
    simp only [Option.getD_some, UInt8.toNat_xor, Nat.testBit_xor]
    rw [maskOf_nat (by omega), Nat.testBit_two_pow, h]
    congr 1
    by_cases h2 : i = j
    · subst h2; simp
    · simp only [h2, decide_false, decide_eq_false_iff_not]; omega
  · rw [if_neg h]
    have : ¬ i = j := by omega
    simp only [this, decide_false, Bool.xor_false]
    rw [← List.getD_eq_getElem?_getD]
/-- The first n bits of t, turned from place k on. -/
def turned (l : List UInt8) (k t : Nat) : Nat → List UInt8
  | 0 => l
  | n + 1 => if t.testBit n then flip (turned l k t n) (k + n) else turned l k t n
theorem turned_length (l : List UInt8) (k t n : Nat) : (turned l k t n).length = l.length := by
  induction n with
  | zero => rfl
  | succ n ih => unfold turned; split; rw [flip_length, ih]; exact ih
theorem bitAt_turned (l : List UInt8) (k t n i : Nat) (h : k + n ≤ 8 * l.length) : bitAt (turned l k t n) i = (bitAt l i ^^ (decide (k ≤ i) && decide (i < k + n) && t.testBit (i - k))) := by
  induction n with
  | zero => simp only [turned]; rw [show (decide (k ≤ i) && decide (i < k + 0)) = false by simp]; simp
  | succ n ih =>
    have ih := ih (by omega)
    unfold turned
    by_cases hb : t.testBit n = true
    · rw [if_pos hb, bitAt_flip _ _ _ (by rw [turned_length]; omega), ih]
      by_cases hi : i = k + n
      · subst hi
        rw [show k + n - k = n by omega, hb]
        simp
      · have e1 : decide (i < k + n) = decide (i < k + (n + 1)) := by rw [Bool.eq_iff_iff]; simp; omega
        rw [e1]
        simp [hi]
    · rw [if_neg hb, ih]
      by_cases hi : i = k + n
      · subst hi
        rw [show k + n - k = n by omega]
        simp [hb]
      · have e1 : decide (i < k + n) = decide (i < k + (n + 1)) := by rw [Bool.eq_iff_iff]; simp; omega
        rw [e1]
theorem bitAt_zeroed (l : List UInt8) (k i : Nat) (hk : k + 4 ≤ l.length) : bitAt (zeroed l k) i = if 8 * k ≤ i ∧ i < 8 * k + 32 then false else bitAt l i := by
  unfold bitAt zeroed
  have := mid_get l [0, 0, 0, 0] k (i / 8) (by simpa using hk)
  rw [show k + ([0, 0, 0, 0] : List UInt8).length = k + 4 by rfl] at this
  rw [List.getD_eq_getElem?_getD, this]
  by_cases h : k ≤ i / 8 ∧ i / 8 < k + 4
  · rw [if_pos h, if_pos (by omega)]
    have hd : i / 8 - k = 0 ∨ i / 8 - k = 1 ∨ i / 8 - k = 2 ∨ i / 8 - k = 3 := by omega
    rcases hd with e | e | e | e <;> rw [e] <;> simp
  · rw [if_neg h, if_neg (by omega), ← List.getD_eq_getElem?_getD]
/-- A sealed packet with bits turned outside its seal is sealed no more. -/
theorem told {s : List UInt8} {a k t : Nat} (ha : a + 4 ≤ s.length) (hk : k + 32 ≤ 8 * s.length) (ht : t ≠ 0) (h32 : t < 4294967296) (hout : k + 31 < 8 * a ∨ 8 * a + 32 ≤ k) (hs : sealedB s a = true) :
    sealedB (turned s k t 32) a = false := by
  have hb := fun i => bitAt_turned s k t 32 i hk
  have hl := turned_length s k t 32
  generalize turned s k t 32 = r at hb hl
  have hw : leW r a 4 = leW s a 4 := by
    rw [leW4, leW4]
    have e : ∀ d, d < 4 → r.getD (a + d) 0 = s.getD (a + d) 0 := fun d hd => byte_bits (fun m hm => by
      rw [hb]
      have : (decide (k ≤ 8 * (a + d) + m) && decide (8 * (a + d) + m < k + 32)) = false := by simp; omega
      rw [this]; simp)
    have e0 := e 0 (by decide)
    rw [Nat.add_zero] at e0
    rw [e0, e 1 (by decide), e 2 (by decide), e 3 (by decide)]
  unfold sealedB at hs ⊢
  rw [hw, eq_of_beq hs, beq_eq_false_iff_ne]
  refine tells (k := k) (turn := t) (by rw [zeroed_length _ _ ha, zeroed_length _ _ (by omega), hl]) ht h32 (by rw [zeroed_length _ _ ha]; exact hk) (fun i hi => ?_)
  rw [bitAt_zeroed _ _ _ ha, bitAt_zeroed _ _ _ (by omega), hb]
  by_cases hi2 : 8 * a ≤ i ∧ i < 8 * a + 32
  · rw [if_pos hi2, if_pos hi2]
    unfold burst
    have : (decide (k ≤ i) && decide (i < k + 32)) = false := by simp; omega
    rw [this]; rfl
  · rw [if_neg hi2, if_neg hi2]; rfl

/-! ### two lists, byte by byte -/
/-- The first k bytes of a and m laid over each other, n places in all. -/
def mixed (a m : List UInt8) (n : Nat) : Nat → List UInt8
  | 0 => List.replicate n 0
  | k + 1 => (mixed a m n k).set k (a.getD k 0 ^^^ m.getD k 0)
theorem mixed_length (a m : List UInt8) (n k : Nat) : (mixed a m n k).length = n := by
  induction k with
  | zero => simp [mixed]
  | succ k ih => simp [mixed, ih]
theorem mixed_get (a m : List UInt8) (n k i : Nat) (hi : i < n) (hk : i < k) : (mixed a m n k).getD i 0 = a.getD i 0 ^^^ m.getD i 0 := by
  induction k with
  | zero => omega
  | succ k ih =>
    rw [mixed, List.getD_eq_getElem?_getD, List.getElem?_set]
    by_cases h : k = i
    · subst h
      rw [if_pos rfl, if_pos (by rw [mixed_length]; exact hi)]; rfl
    · rw [if_neg h, ← List.getD_eq_getElem?_getD]
      exact ih (by omega)
theorem bitAt_mixed (a m : List UInt8) (n i : Nat) (hi : i < 8 * n) : bitAt (mixed a m n n) i = (bitAt a i ^^ bitAt m i) := by
  unfold bitAt
  rw [mixed_get _ _ _ _ _ (by omega) (by omega), UInt8.toNat_xor, Nat.testBit_xor]
theorem bitAt_take (a : List UInt8) (n i : Nat) (hi : i < 8 * n) : bitAt (a.take n) i = bitAt a i := by
  unfold bitAt
  rw [List.getD_eq_getElem?_getD, List.getElem?_take, if_pos (by omega), ← List.getD_eq_getElem?_getD]
theorem adds_mixed (a b m : List UInt8) (n : Nat) (ha : n ≤ a.length) (hb : n ≤ b.length) : sumL (a.take n) ^^^ sumL (b.take n) = sumL (mixed a m n n) ^^^ sumL (mixed b m n n) := by
  have la : (a.take n).length = n := by rw [List.length_take]; omega
  have lb : (b.take n).length = n := by rw [List.length_take]; omega
  refine adds (by rw [la, lb]) (by rw [mixed_length, la]) (by rw [mixed_length, la]) (fun i hi => ?_)
  rw [la] at hi
  rw [bitAt_take _ _ _ hi, bitAt_take _ _ _ hi, bitAt_mixed _ _ _ _ hi, bitAt_mixed _ _ _ _ hi]
  cases bitAt a i <;> cases bitAt b i <;> cases bitAt m i <;> rfl
end Go.Proofs.Ytabkjgklmibagaa.Crc
