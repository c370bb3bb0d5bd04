/-
  SHA-256 and HMAC on lists of bytes and words as numbers, so laid that the kernel can compute them.
-/
import Derived.Test.YtmbgjijajakgeaaDoorRows
import Derived.Laws.BitsAllLaws
set_option linter.unusedVariables false
set_option linter.unusedSimpArgs false
namespace Go.Proofs.YtmbgjijajakgeaaDoor.Sha

/-- The continuation at a number that has been reckoned. -/
def force {α : Type} (n : Nat) (k : Nat → α) : α :=
  match n with
  | 0 => k 0
  | m + 1 => k (m + 1)
theorem force_eq {α : Type} (n : Nat) (k : Nat → α) : force n k = k n := by cases n <;> rfl
def forceL {α : Type} : List Nat → (List Nat → α) → α
  | [], k => k []
  | x :: l, k => force x fun y => forceL l fun m => k (y :: m)
theorem forceL_eq {α : Type} (l : List Nat) (k : List Nat → α) : forceL l k = k l := by
  induction l generalizing k with
  | nil => rfl
  | cons x l ih => simp only [forceL, force_eq, ih]

/-- Rotated right (0 < n < 32). -/
def rot (x n : Nat) : Nat := x * 2 ^ (32 - n) % 4294967296 ||| x / 2 ^ n
def sp (x i j k : Nat) : Nat := rot x i ^^^ rot x j ^^^ rot x k
def near (x : Nat) : Nat := rot x 17 ^^^ rot x 19 ^^^ x / 1024
def far (x : Nat) : Nat := rot x 7 ^^^ rot x 18 ^^^ x / 8
def ks : List Nat := [0x428A2F98, 0x71374491, 0xB5C0FBCF, 0xE9B5DBA5, 0x3956C25B, 0x59F111F1, 0x923F82A4, 0xAB1C5ED5,
  0xD807AA98, 0x12835B01, 0x243185BE, 0x550C7DC3, 0x72BE5D74, 0x80DEB1FE, 0x9BDC06A7, 0xC19BF174,
  0xE49B69C1, 0xEFBE4786, 0x0FC19DC6, 0x240CA1CC, 0x2DE92C6F, 0x4A7484AA, 0x5CB0A9DC, 0x76F988DA,
  0x983E5152, 0xA831C66D, 0xB00327C8, 0xBF597FC7, 0xC6E00BF3, 0xD5A79147, 0x06CA6351, 0x14292967,
  0x27B70A85, 0x2E1B2138, 0x4D2C6DFC, 0x53380D13, 0x650A7354, 0x766A0ABB, 0x81C2C92E, 0x92722C85,
  0xA2BFE8A1, 0xA81A664B, 0xC24B8B70, 0xC76C51A3, 0xD192E819, 0xD6990624, 0xF40E3585, 0x106AA070,
  0x19A4C116, 0x1E376C08, 0x2748774C, 0x34B0BCB5, 0x391C0CB3, 0x4ED8AA4A, 0x5B9CCA4F, 0x682E6FF3,
  0x748F82EE, 0x78A5636F, 0x84C87814, 0x8CC70208, 0x90BEFFFA, 0xA4506CEB, 0xBEF9A3F7, 0xC67178F2]
def h0 : List Nat := [0x6A09E667, 0xBB67AE85, 0x3C6EF372, 0xA54FF53A, 0x510E527F, 0x9B05688C, 0x1F83D9AB, 0x5BE0CD19]

/-! ### the words of a block -/
/-- A word that follows. -/
def nx (w : List Nat) : Nat :=
  (near (w.getD (w.length - 2) 0) + w.getD (w.length - 7) 0 + far (w.getD (w.length - 15) 0) + w.getD (w.length - 16) 0) % 4294967296
/-- Words of bytes; the last may lack some. -/
def val (l : List UInt8) : Nat := l.foldl (fun x b => x * 256 + b.toNat) 0
def words : List UInt8 → List Nat
  | [] => []
  | [a] => [val [a]]
  | [a, b] => [val [a, b]]
  | [a, b, c] => [val [a, b, c]]
  | a :: b :: c :: d :: l => val [a, b, c, d] :: words l
/-- n words more. -/
def extN : Nat → List Nat → List Nat
  | 0, w => w
  | n + 1, w => forceL (w ++ [nx w]) fun v => extN n v
theorem extN_succ (n : Nat) (w : List Nat) : extN (n + 1) w = extN n w ++ [nx (extN n w)] := by
  induction n generalizing w with
  | zero => simp only [extN, forceL_eq]
  | succ n ih =>
    have h : extN (n + 2) w = extN (n + 1) (w ++ [nx w]) := by rw [extN, forceL_eq]
    have h2 : extN (n + 1) w = extN n (w ++ [nx w]) := by rw [extN, forceL_eq]
    rw [h, ih, h2]
theorem extN_length (n : Nat) (w : List Nat) : (extN n w).length = w.length + n := by
  induction n with
  | zero => rfl
  | succ n ih => rw [extN_succ, List.length_append, ih]; simp; omega
theorem nx_lt (w : List Nat) : nx w < 4294967296 := by unfold nx; exact Nat.mod_lt _ (by decide)
theorem val_lt : ∀ l : List UInt8, val l < 256 ^ l.length := by
  intro l
  have : ∀ (l : List UInt8) (x : Nat), l.foldl (fun x b => x * 256 + b.toNat) x < (x + 1) * 256 ^ l.length := by
    intro l
    induction l with
    | nil => intro x; simp
    | cons b l ih =>
      intro x
      have h1 := ih (x * 256 + b.toNat)
      have h2 := b.toNat_lt
      refine Nat.lt_of_lt_of_le h1 ?_
      rw [List.length_cons, Nat.pow_succ, ← Nat.mul_assoc, Nat.mul_right_comm]
      exact Nat.mul_le_mul_right _ (by omega)
  have h := this l 0
  rw [Nat.zero_add, Nat.one_mul] at h
  exact h
theorem words_lt : ∀ l : List UInt8, ∀ x ∈ words l, x < 4294967296
  | a :: b :: c :: d :: l, x, h => by
    rw [words, List.mem_cons] at h
    rcases h with rfl | h
    · exact Nat.lt_of_lt_of_le (val_lt [a, b, c, d]) (show 256 ^ 4 ≤ 4294967296 by decide)
    · exact words_lt l x h
  | [], x, h => by simp [words] at h
  | [a], x, h => by
    simp only [words, List.mem_singleton] at h
    subst h
    exact Nat.lt_of_lt_of_le (val_lt [a]) (show 256 ^ 1 ≤ 4294967296 by decide)
  | [a, b], x, h => by
    simp only [words, List.mem_singleton] at h
    subst h
    exact Nat.lt_of_lt_of_le (val_lt [a, b]) (show 256 ^ 2 ≤ 4294967296 by decide)
  | [a, b, c], x, h => by
    simp only [words, List.mem_singleton] at h
    subst h
    exact Nat.lt_of_lt_of_le (val_lt [a, b, c]) (show 256 ^ 3 ≤ 4294967296 by decide)
theorem words_length : ∀ l : List UInt8, (words l).length = (l.length + 3) / 4
  | a :: b :: c :: d :: l => by rw [words, List.length_cons, words_length l]; simp only [List.length_cons]; omega
  | [] => rfl
  | [a] => by simp [words]
  | [a, b] => by simp [words]
  | [a, b, c] => by simp [words]
/-- n cells: words, and noughts behind them. -/
def pad (n : Nat) (w : List Nat) : List Nat := w ++ List.replicate (n - w.length) 0
theorem pad_length {n : Nat} {w : List Nat} (h : w.length ≤ n) : (pad n w).length = n := by simp [pad]; omega
theorem pad_lt {n : Nat} {w : List Nat} (h : ∀ x ∈ w, x < 4294967296) : ∀ x ∈ pad n w, x < 4294967296 := by
  intro x hx
  simp only [pad, List.mem_append, List.mem_replicate] at hx
  rcases hx with hx | hx
  · exact h x hx
  · omega
theorem pad_snoc {n : Nat} {w : List Nat} (h : w.length < n) (x : Nat) : pad n (w ++ [x]) = (pad n w).set w.length x := by
  unfold pad
  rw [List.set_append_right _ _ (Nat.le_refl _), Nat.sub_self, List.append_assoc]
  obtain ⟨m, hm⟩ : ∃ m, n - w.length = m + 1 := ⟨n - w.length - 1, by omega⟩
  rw [show n - (w ++ [x]).length = m by simp; omega, hm, List.replicate_succ]
  rfl
theorem pad_getD {n : Nat} {w : List Nat} {i : Nat} (h : i < w.length) : (pad n w).getD i 0 = w.getD i 0 := by
  simp [pad, List.getD_eq_getElem?_getD, List.getElem?_append_left h]
theorem val_snoc (l : List UInt8) (b : UInt8) : val (l ++ [b]) = val l * 256 + b.toNat := by simp [val, List.foldl_append]
/-- A byte more. -/
theorem words_snoc (b : UInt8) : ∀ l : List UInt8, ∀ n, l.length / 4 < n → pad n (words (l ++ [b])) = (pad n (words l)).set (l.length / 4) ((pad n (words l)).getD (l.length / 4) 0 * 256 + b.toNat)
  | x0 :: x1 :: x2 :: x3 :: l, n, hn => by
    have e : (x0 :: x1 :: x2 :: x3 :: l).length / 4 = l.length / 4 + 1 := by simp only [List.length_cons]; omega
    obtain ⟨m, rfl⟩ : ∃ m, n = m + 1 := ⟨n - 1, by omega⟩
    have hp : ∀ y w, pad (m + 1) (y :: w) = y :: pad m w := by intro y w; simp [pad]
    rw [e]
    simp only [List.cons_append, words, hp, List.set_cons_succ]
    rw [words_snoc b l m (by omega), List.getD_cons_succ]
  | [], n, hn => by
    obtain ⟨m, rfl⟩ : ∃ m, n = m + 1 := ⟨n - 1, by simp at hn; omega⟩
    simp [words, pad, val, List.replicate_succ]
  | [a], n, hn => by
    obtain ⟨m, rfl⟩ : ∃ m, n = m + 1 := ⟨n - 1, by simp at hn; omega⟩
    simp [words, pad, val]
  | [a, c], n, hn => by
    obtain ⟨m, rfl⟩ : ∃ m, n = m + 1 := ⟨n - 1, by simp at hn; omega⟩
    simp [words, pad, val]
  | [a, c, d], n, hn => by
    obtain ⟨m, rfl⟩ : ∃ m, n = m + 1 := ⟨n - 1, by simp at hn; omega⟩
    simp [words, pad, val]
/-- The word that a byte is laid into holds at most three. -/
theorem words_small : ∀ l : List UInt8, ∀ n, l.length / 4 < n → (pad n (words l)).getD (l.length / 4) 0 < 16777216
  | x0 :: x1 :: x2 :: x3 :: l, n, hn => by
    have e : (x0 :: x1 :: x2 :: x3 :: l).length / 4 = l.length / 4 + 1 := by simp only [List.length_cons]; omega
    obtain ⟨m, rfl⟩ : ∃ m, n = m + 1 := ⟨n - 1, by omega⟩
    have hp : ∀ y w, pad (m + 1) (y :: w) = y :: pad m w := by intro y w; simp [pad]
    rw [e, words, hp, List.getD_cons_succ]
    exact words_small l m (by omega)
  | [], n, hn => by
    obtain ⟨m, rfl⟩ : ∃ m, n = m + 1 := ⟨n - 1, by simp at hn; omega⟩
    simp [words, pad, List.replicate_succ]
  | [a], n, hn => by
    have h := Nat.lt_of_lt_of_le (val_lt [a]) (show 256 ^ 1 ≤ 16777216 by decide)
    simpa [words, pad] using h
  | [a, b], n, hn => by
    have h := Nat.lt_of_lt_of_le (val_lt [a, b]) (show 256 ^ 2 ≤ 16777216 by decide)
    simpa [words, pad] using h
  | [a, b, c], n, hn => by
    have h := Nat.lt_of_lt_of_le (val_lt [a, b, c]) (show 256 ^ 3 ≤ 16777216 by decide)
    simpa [words, pad] using h

theorem take_words {l : List UInt8} {k : Nat} (hk : k < l.length) (n : Nat) (hn : k / 4 < n) :
    pad n (words (l.take (k + 1))) = (pad n (words (l.take k))).set (k / 4) ((pad n (words (l.take k))).getD (k / 4) 0 * 256 + (l.getD k 0).toNat) ∧ (pad n (words (l.take k))).getD (k / 4) 0 < 16777216 ∧ k / 4 < (pad n (words (l.take k))).length := by
  have hl : (l.take k).length = k := by simp; omega
  have e : l.take (k + 1) = l.take k ++ [l.getD k 0] := by
    rw [List.take_succ_eq_append_getElem hk, List.getD_eq_getElem?_getD, List.getElem?_eq_getElem hk]; rfl
  have h1 := words_snoc (l.getD k 0) (l.take k) n (by rw [hl]; exact hn)
  have h2 := words_small (l.take k) n (by rw [hl]; exact hn)
  rw [hl] at h1 h2
  refine ⟨by rw [e, h1], h2, ?_⟩
  by_cases hw : (words (l.take k)).length ≤ n
  · rw [pad_length hw]; exact hn
  · unfold pad; simp; omega

theorem extN_lt {w : List Nat} (h : ∀ x ∈ w, x < 4294967296) (n : Nat) : ∀ x ∈ extN n w, x < 4294967296 := by
  induction n with
  | zero => exact h
  | succ n ih =>
    intro x hx
    rw [extN_succ, List.mem_append, List.mem_singleton] at hx
    rcases hx with hx | rfl
    · exact ih x hx
    · exact nx_lt _
theorem getD_lt {w : List Nat} (h : ∀ x ∈ w, x < 4294967296) (i : Nat) : w.getD i 0 < 4294967296 := by
  rw [List.getD_eq_getElem?_getD]
  cases e : w[i]? with
  | none => simp
  | some x => exact h x (List.mem_of_getElem? e)
/-- What the round of word m + 16 reads and lays. -/
theorem ext_step {l : List UInt8} (hl : l.length = 64) {m : Nat} (hm : m < 48) :
    ∃ v2 v7 v15 v16 : Nat, v2 < 4294967296 ∧ v7 < 4294967296 ∧ v15 < 4294967296 ∧ v16 < 4294967296 ∧
      (pad 64 (extN m (words l))).length = 64 ∧
      (pad 64 (extN m (words l)))[m + 14]? = some v2 ∧ (pad 64 (extN m (words l)))[m + 9]? = some v7 ∧ (pad 64 (extN m (words l)))[m + 1]? = some v15 ∧ (pad 64 (extN m (words l)))[m]? = some v16 ∧
      pad 64 (extN (m + 1) (words l)) = (pad 64 (extN m (words l))).set (m + 16) ((near v2 + v7 + far v15 + v16) % 4294967296) := by
  have hw : (words l).length = 16 := by rw [words_length, hl]
  have hn := extN_length m (words l)
  have hb := extN_lt (words_lt l) m
  rw [extN_succ]
  obtain ⟨w, hwd⟩ : ∃ w, w = extN m (words l) := ⟨_, rfl⟩
  rw [← hwd] at hn hb ⊢
  have hg : ∀ i, i < m + 16 → (pad 64 w)[i]? = some (w.getD i 0) := fun i hi => by
    unfold pad
    rw [List.getElem?_append_left (by omega), List.getD_eq_getElem?_getD, List.getElem?_eq_getElem (by omega)]; rfl
  refine ⟨w.getD (m + 14) 0, w.getD (m + 9) 0, w.getD (m + 1) 0, w.getD m 0, getD_lt hb _, getD_lt hb _, getD_lt hb _, getD_lt hb _, pad_length (by omega), hg _ (by omega), hg _ (by omega), hg _ (by omega), hg _ (by omega), ?_⟩
  rw [pad_snoc (by omega), show w.length = m + 16 by omega]
  unfold nx
  rw [show w.length - 2 = m + 14 by omega, show w.length - 7 = m + 9 by omega, show w.length - 15 = m + 1 by omega, show w.length - 16 = m by omega]

/-! ### a block -/
def one (s : List Nat) (k w : Nat) : Nat := (s.getD 7 0 + sp (s.getD 4 0) 6 11 25 + ((s.getD 4 0 &&& s.getD 5 0) ^^^ ((4294967295 - s.getD 4 0) &&& s.getD 6 0)) + k + w) % 4294967296
def two (s : List Nat) : Nat := (sp (s.getD 0 0) 2 13 22 + ((s.getD 0 0 &&& s.getD 1 0) ^^^ (s.getD 0 0 &&& s.getD 2 0) ^^^ (s.getD 1 0 &&& s.getD 2 0))) % 4294967296
def step (s : List Nat) (k w : Nat) : List Nat :=
  force (one s k w) fun x => force (two s) fun y => [(x + y) % 4294967296, s.getD 0 0, s.getD 1 0, s.getD 2 0, (s.getD 3 0 + x) % 4294967296, s.getD 4 0, s.getD 5 0, s.getD 6 0]
theorem step_eq (s : List Nat) (k w : Nat) : step s k w = [(one s k w + two s) % 4294967296, s.getD 0 0, s.getD 1 0, s.getD 2 0, (s.getD 3 0 + one s k w) % 4294967296, s.getD 4 0, s.getD 5 0, s.getD 6 0] := by
  simp only [step, force_eq]
def rounds (s : List Nat) : List Nat → List Nat → List Nat
  | k :: ks, w :: ws => forceL (step s k w) fun t => rounds t ks ws
  | _, _ => s
theorem rounds_snoc (k w : Nat) : ∀ (a b : List Nat) (s : List Nat), a.length = b.length → rounds s (a ++ [k]) (b ++ [w]) = step (rounds s a b) k w
  | [], [], s, _ => by simp only [List.nil_append, rounds, forceL_eq]
  | x :: a, y :: b, s, h => by
    simp only [List.cons_append, rounds, forceL_eq]
    exact rounds_snoc k w a b _ (by simpa using h)
theorem rounds_take {s a b : List Nat} {i k w : Nat} (hk : a[i]? = some k) (hw : b[i]? = some w) : rounds s (a.take (i + 1)) (b.take (i + 1)) = step (rounds s (a.take i) (b.take i)) k w := by
  obtain ⟨h1, rfl⟩ := List.getElem?_eq_some_iff.1 hk
  obtain ⟨h2, rfl⟩ := List.getElem?_eq_some_iff.1 hw
  rw [List.take_succ_eq_append_getElem h1, List.take_succ_eq_append_getElem h2]
  exact rounds_snoc _ _ _ _ _ (by simp; omega)
/-- Eight words. -/
def W8 (s : List Nat) : Prop := s.length = 8 ∧ ∀ x ∈ s, x < 4294967296
theorem W8.lt {s : List Nat} (h : W8 s) (i : Nat) : s.getD i 0 < 4294967296 := by
  rw [List.getD_eq_getElem?_getD]
  cases e : s[i]? with
  | none => simp
  | some x => exact h.2 x (List.mem_of_getElem? e)
theorem W8.step {s : List Nat} (h : W8 s) (k w : Nat) : W8 (step s k w) := by
  rw [step_eq]
  refine ⟨rfl, fun x hx => ?_⟩
  simp only [List.mem_cons, List.not_mem_nil, or_false] at hx
  have h0 := h.lt
  rcases hx with rfl | rfl | rfl | rfl | rfl | rfl | rfl | rfl <;> first | exact h0 _ | exact Nat.mod_lt _ (by decide)
theorem W8.rounds : ∀ (a b : List Nat) {s : List Nat}, W8 s → W8 (rounds s a b)
  | x :: a, y :: b, s, h => by
    simp only [Sha.rounds, forceL_eq]
    exact W8.rounds a b (h.step x y)
  | [], _, s, h => h
  | _ :: _, [], s, h => h
def addW (s t : List Nat) : List Nat := List.zipWith (fun x y => (x + y) % 4294967296) s t
/-- The sum as far as i. -/
def addP (t s : List Nat) (i : Nat) : List Nat := (addW t s).take i ++ t.drop i
theorem addP_step {t s : List Nat} (h : t.length = s.length) {i : Nat} (hi : i < t.length) :
    addP t s (i + 1) = (addP t s i).set i ((t.getD i 0 + s.getD i 0) % 4294967296) ∧ (addP t s i).length = t.length ∧ (addP t s i)[i]? = some (t.getD i 0) ∧ s[i]? = some (s.getD i 0) := by
  have hs : i < s.length := by omega
  have hl : (addW t s).length = t.length := by simp [addW]; omega
  have hz : (addW t s)[i]? = some ((t.getD i 0 + s.getD i 0) % 4294967296) := by
    simp only [addW, List.getElem?_zipWith, List.getElem?_eq_getElem hi, List.getElem?_eq_getElem hs, List.getD_eq_getElem?_getD, Option.getD_some]
  obtain ⟨h1, h2⟩ := List.getElem?_eq_some_iff.1 hz
  have hd : t.drop i = t[i] :: t.drop (i + 1) := List.drop_eq_getElem_cons hi
  have ht : ((addW t s).take i).length = i := by simp; omega
  refine ⟨?_, ?_, ?_, ?_⟩
  · unfold addP
    rw [List.take_succ_eq_append_getElem h1, h2, List.set_append_right _ _ (by omega), ht, Nat.sub_self, hd, List.set_cons_zero, List.append_assoc]
    rfl
  · simp [addP, ht]; omega
  · unfold addP
    rw [List.getElem?_append_right (by omega), ht, Nat.sub_self, hd, List.getElem?_cons_zero, List.getD_eq_getElem?_getD, List.getElem?_eq_getElem hi]; rfl
  · rw [List.getD_eq_getElem?_getD, List.getElem?_eq_getElem hs]; rfl
theorem addP_zero (t s : List Nat) : addP t s 0 = t := by simp [addP]
theorem addP_all {t s : List Nat} (h : t.length = s.length) : addP t s t.length = addW t s := by
  have hl : (addW t s).length = t.length := by simp [addW]; omega
  simp [addP, List.take_of_length_le (Nat.le_of_eq hl)]
def mix (s : List Nat) (b : List UInt8) : List Nat := addW (rounds s ks (extN 48 (words b))) s
theorem W8.mix {s : List Nat} (h : W8 s) (b : List UInt8) : W8 (mix s b) := by
  refine ⟨by simp [Sha.mix, addW, (W8.rounds ks _ h).1, h.1], fun x hx => ?_⟩
  obtain ⟨i, hi⟩ := List.getElem?_of_mem hx
  simp only [Sha.mix, addW, List.getElem?_zipWith] at hi
  split at hi
  · cases hi; exact Nat.mod_lt _ (by decide)
  · cases hi
theorem W8.h0 : W8 h0 := ⟨rfl, by decide⟩

/-! ### bytes -/
def be8 (n : Nat) : List UInt8 := [n / 2 ^ 56, n / 2 ^ 48, n / 2 ^ 40, n / 2 ^ 32, n / 2 ^ 24, n / 2 ^ 16, n / 2 ^ 8, n].map fun x => UInt8.ofNat (x % 256)
def zerosN (n : Nat) : Nat := (64 - (n + 9) % 64) % 64
/-- What fills blocks behind n bytes. -/
def endL (n : Nat) : List UInt8 := 128 :: (List.replicate (zerosN n) 0 ++ be8 (8 * n))
theorem endL_length (n : Nat) : (endL n).length = 9 + zerosN n := by simp [endL, be8]; omega
theorem endL_whole (n : Nat) : (n + (endL n).length) % 64 = 0 := by rw [endL_length]; unfold zerosN; omega
def feed : Nat → List Nat → List UInt8 → List Nat
  | 0, s, _ => s
  | n + 1, s, l => forceL (mix s (l.take 64)) fun t => feed n t (l.drop 64)
theorem feed_succ (n : Nat) (s : List Nat) (l : List UInt8) : feed (n + 1) s l = feed n (mix s (l.take 64)) (l.drop 64) := by rw [feed, forceL_eq]
theorem feed_snoc : ∀ (n : Nat) (s : List Nat) (l : List UInt8), feed (n + 1) s l = mix (feed n s l) ((l.drop (64 * n)).take 64)
  | 0, s, l => by rw [feed_succ]; simp [feed]
  | n + 1, s, l => by
    rw [feed_succ, feed_snoc n, feed_succ, List.drop_drop]
    congr 3
    omega
theorem W8.feed : ∀ (n : Nat) {s : List Nat} (l : List UInt8), W8 s → W8 (feed n s l)
  | 0, s, l, h => h
  | n + 1, s, l, h => by rw [feed_succ]; exact W8.feed n _ (h.mix _)
def bytes4 (w : Nat) : List UInt8 := [w / 2 ^ 24, w / 2 ^ 16, w / 2 ^ 8, w].map fun x => UInt8.ofNat (x % 256)
def out (s : List Nat) : List UInt8 := s.flatMap bytes4
theorem out_length {s : List Nat} (h : s.length = 8) : (out s).length = 32 := by
  match s, h with
  | [a, b, c, d, e, f, g, i], _ => rfl
def hash (l : List UInt8) : List UInt8 := out (feed ((l.length + (endL l.length).length) / 64) h0 (l ++ endL l.length))
theorem hash_length (l : List UInt8) : (hash l).length = 32 := out_length (W8.feed _ _ W8.h0).1
/-- A key of 64 bytes. -/
def key64 (k : List UInt8) : List UInt8 :=
  let s := if 64 < k.length then hash k else k
  s ++ List.replicate (64 - s.length) 0
def mask (m : UInt8) (k : List UInt8) : List UInt8 := k.map fun b => b ^^^ m
def seal_ (k l : List UInt8) : List UInt8 := hash (mask 0x5C (key64 k) ++ hash (mask 0x36 (key64 k) ++ l))
theorem key64_length (k : List UInt8) : (key64 k).length = 64 := by
  unfold key64
  by_cases h : 64 < k.length
  · simp only [if_pos h, List.length_append, List.length_replicate, hash_length]
  · simp only [if_neg h, List.length_append, List.length_replicate]; omega
theorem seal_length (k l : List UInt8) : (seal_ k l).length = 32 := hash_length _
set_option maxRecDepth 100000 in
theorem hash_abc : (feed 1 h0 ([97, 98, 99] ++ endL 3)) = [0xBA7816BF, 0x8F01CFEA, 0x414140DE, 0x5DAE2223, 0xB00361A3, 0x96177A9C, 0xB410FF61, 0xF20015AD] := by decide +kernel
end Go.Proofs.YtmbgjijajakgeaaDoor.Sha
