/-
  Package cookie, plain: a cookie's bytes, what bytes say, what Open answers.
-/
import Derived.Test.YtmbgjijajakgeaaDoorOct
import Derived.Test.YtmbgjijajakgeaaDoorOctW
import Derived.Test.YtmbgjijajakgeaaDoorOctLaw
import Derived.Test.YtmbgjijajakgeaaDoorMacPlain
import Derived.Test.YtmbgjijajakgeaaDoorSerPlain
set_option linter.unusedVariables false
set_option linter.unusedSimpArgs false
namespace Go.Proofs.YtmbgjijajakgeaaDoor.Cok
open Go.RowKit Go.Proofs.YtmbgjijajakgeaaDoor.Words Go.Proofs.YtmbgjijajakgeaaDoor.Oct

structure CK where
  tag : Nat
  peer : Nat
  tsn : Nat
  ptsn : Nat
  win : Nat
  out : Nat
  inn : Nat
  feat : Nat
  made : Nat
  tt : Nat
  tp : Nat
structure CK.ok (c : CK) : Prop where
  tag : c.tag < 4294967296
  peer : c.peer < 4294967296
  tsn : c.tsn < 4294967296
  ptsn : c.ptsn < 4294967296
  win : c.win < 4294967296
  out : c.out < 65536
  inn : c.inn < 65536
  feat : c.feat < 256
  made : c.made < 4294967296
  tt : c.tt < 4294967296
  tp : c.tp < 4294967296
def zeroCK : CK := ⟨0, 0, 0, 0, 0, 0, 0, 0, 0, 0, 0⟩
theorem zero_ok : zeroCK.ok := by constructor <;> decide
/-- A cookie's cells. -/
def ckA (c : CK) : Array Value := #[.int .u32 (c.tag : Int), .int .u32 (c.peer : Int), .int .u32 (c.tsn : Int), .int .u32 (c.ptsn : Int), .int .u32 (c.win : Int), .int .u16 (c.out : Int), .int .u16 (c.inn : Int), .int .u8 (c.feat : Int), .int .u32 (c.made : Int), .int .u32 (c.tt : Int), .int .u32 (c.tp : Int)]
/-- Words, four bytes each. -/
def bes (ws : List Nat) : List UInt8 := ws.flatMap fun x => be x 4
theorem bes_snoc (ws : List Nat) (x : Nat) : bes (ws ++ [x]) = bes ws ++ be x 4 := by simp [bes]
theorem bes_length (ws : List Nat) : (bes ws).length = 4 * ws.length := by
  induction ws with
  | nil => rfl
  | cons x t ih => simp only [bes, List.flatMap_cons, List.length_append, be_length, List.length_cons] at *; omega
theorem bes_take {ws : List Nat} {j : Nat} (h : j < ws.length) : bes (ws.take (j + 1)) = bes (ws.take j) ++ be (ws.getD j 0) 4 := by
  rw [List.take_add_one, List.getElem?_eq_getElem h, List.getD_eq_getElem?_getD, List.getElem?_eq_getElem h]
  exact bes_snoc _ _
/-- The text of a cookie. -/
def text (c : CK) : List UInt8 := bes [c.tag, c.peer, c.tsn, c.ptsn, c.win] ++ be c.out 2 ++ be c.inn 2 ++ be c.feat 1 ++ be 0 1 ++ bes [c.made, c.tt, c.tp]
theorem text_length (c : CK) : (text c).length = 38 := by simp [text, bes_length, be_length]
/-- What 38 bytes say. -/
def getC (l : List UInt8) : CK := ⟨num (l.take 4), num ((l.drop 4).take 4), num ((l.drop 8).take 4), num ((l.drop 12).take 4), num ((l.drop 16).take 4), num ((l.drop 20).take 2), num ((l.drop 22).take 2), num ((l.drop 24).take 1), num ((l.drop 26).take 4), num ((l.drop 30).take 4), num ((l.drop 34).take 4)⟩
theorem num_tk {l : List UInt8} {k n : Nat} : num ((l.drop k).take n) < 256 ^ n := Nat.lt_of_lt_of_le (num_lt _) (Nat.pow_le_pow_right (by decide) (by rw [List.length_take]; omega))
theorem num_tk0 {l : List UInt8} {n : Nat} : num (l.take n) < 256 ^ n := Nat.lt_of_lt_of_le (num_lt _) (Nat.pow_le_pow_right (by decide) (by rw [List.length_take]; omega))
theorem getC_ok (l : List UInt8) : (getC l).ok :=
  ⟨num_tk0, num_tk, num_tk, num_tk, num_tk, num_tk, num_tk, num_tk, num_tk, num_tk, num_tk⟩
theorem mid {a b c : List UInt8} {k n : Nat} (ha : a.length = k) (hb : b.length = n) : ((a ++ b ++ c).drop k).take n = b := by
  subst ha hb
  rw [List.append_assoc, List.drop_left, List.take_left]
/-- What the text says is the cookie. -/
theorem getC_text {c : CK} (h : c.ok) : getC (text c) = c ∧ (text c).getD 25 0 = 0 := by
  have e : ∀ (v n m : Nat), v < m → m = 256 ^ n → num (be v n) = v := fun v n m h1 h2 => by rw [num_be, ← h2, Nat.mod_eq_of_lt h1]
  have ht : text c = be c.tag 4 ++ (be c.peer 4 ++ (be c.tsn 4 ++ (be c.ptsn 4 ++ (be c.win 4 ++ (be c.out 2 ++ (be c.inn 2 ++ (be c.feat 1 ++ (be 0 1 ++ (be c.made 4 ++ (be c.tt 4 ++ be c.tp 4)))))))))) := by
    simp [text, bes]
  have tk : ∀ (x y : List UInt8) (n : Nat), x.length = n → (x ++ y).take n = x := fun x y n h => List.take_left' h
  have dr : ∀ (x y : List UInt8) (n m : Nat), x.length = n → (x ++ y).drop (n + m) = y.drop m := fun x y n m h => by rw [← h, ← List.drop_drop, List.drop_left]
  refine ⟨?_, ?_⟩
  · obtain ⟨tag, peer, tsn, ptsn, win, out, inn, feat, made, tt, tp⟩ := c
    obtain ⟨h1, h2, h3, h4, h5, h6, h7, h8, h9, h10, h11⟩ := h
    simp only [getC, CK.mk.injEq]
    simp only at ht
    rw [ht]
    have b := be_length
    refine ⟨?_, ?_, ?_, ?_, ?_, ?_, ?_, ?_, ?_, ?_, ?_⟩
    · rw [tk _ _ _ (b _ _), e _ _ _ h1 rfl]
    · rw [dr _ _ 4 0 (b _ _), List.drop_zero, tk _ _ _ (b _ _), e _ _ _ h2 rfl]
    · rw [dr _ _ 4 4 (b _ _), dr _ _ 4 0 (b _ _), List.drop_zero, tk _ _ _ (b _ _), e _ _ _ h3 rfl]
    · rw [dr _ _ 4 8 (b _ _), dr _ _ 4 4 (b _ _), dr _ _ 4 0 (b _ _), List.drop_zero, tk _ _ _ (b _ _), e _ _ _ h4 rfl]
    · rw [dr _ _ 4 12 (b _ _), dr _ _ 4 8 (b _ _), dr _ _ 4 4 (b _ _), dr _ _ 4 0 (b _ _), List.drop_zero, tk _ _ _ (b _ _), e _ _ _ h5 rfl]
    · rw [dr _ _ 4 16 (b _ _), dr _ _ 4 12 (b _ _), dr _ _ 4 8 (b _ _), dr _ _ 4 4 (b _ _), dr _ _ 4 0 (b _ _), List.drop_zero, tk _ _ _ (b _ _), e _ _ _ h6 rfl]
    · rw [dr _ _ 4 18 (b _ _), dr _ _ 4 14 (b _ _), dr _ _ 4 10 (b _ _), dr _ _ 4 6 (b _ _), dr _ _ 4 2 (b _ _), dr _ _ 2 0 (b _ _), List.drop_zero, tk _ _ _ (b _ _), e _ _ _ h7 rfl]
    · rw [dr _ _ 4 20 (b _ _), dr _ _ 4 16 (b _ _), dr _ _ 4 12 (b _ _), dr _ _ 4 8 (b _ _), dr _ _ 4 4 (b _ _), dr _ _ 2 2 (b _ _), dr _ _ 2 0 (b _ _), List.drop_zero, tk _ _ _ (b _ _), e _ _ _ h8 rfl]
    · rw [dr _ _ 4 22 (b _ _), dr _ _ 4 18 (b _ _), dr _ _ 4 14 (b _ _), dr _ _ 4 10 (b _ _), dr _ _ 4 6 (b _ _), dr _ _ 2 4 (b _ _), dr _ _ 2 2 (b _ _), dr _ _ 1 1 (b _ _), dr _ _ 1 0 (b _ _), List.drop_zero, tk _ _ _ (b _ _), e _ _ _ h9 rfl]
    · rw [dr _ _ 4 26 (b _ _), dr _ _ 4 22 (b _ _), dr _ _ 4 18 (b _ _), dr _ _ 4 14 (b _ _), dr _ _ 4 10 (b _ _), dr _ _ 2 8 (b _ _), dr _ _ 2 6 (b _ _), dr _ _ 1 5 (b _ _), dr _ _ 1 4 (b _ _), dr _ _ 4 0 (b _ _), List.drop_zero, tk _ _ _ (b _ _), e _ _ _ h10 rfl]
    · rw [dr _ _ 4 30 (b _ _), dr _ _ 4 26 (b _ _), dr _ _ 4 22 (b _ _), dr _ _ 4 18 (b _ _), dr _ _ 4 14 (b _ _), dr _ _ 2 12 (b _ _), dr _ _ 2 10 (b _ _), dr _ _ 1 9 (b _ _), dr _ _ 1 8 (b _ _), dr _ _ 4 4 (b _ _), dr _ _ 4 0 (b _ _), List.drop_zero, List.take_of_length_le (by rw [b]; exact Nat.le_refl _), e _ _ _ h11 rfl]
  · rw [ht, List.getD_eq_getElem?_getD]
    have : ∀ (x y : List UInt8) (n m : Nat), x.length = n → (x ++ y)[n + m]? = y[m]? := fun x y n m h => by rw [List.getElem?_append_right (by omega), h]; congr 1; omega
    have b := be_length
    rw [this _ _ 4 21 (b _ _), this _ _ 4 17 (b _ _), this _ _ 4 13 (b _ _), this _ _ 4 9 (b _ _), this _ _ 4 5 (b _ _), this _ _ 2 3 (b _ _), this _ _ 2 1 (b _ _), this _ _ 1 0 (b _ _)]
    rfl
/-- A text with its seal. -/
def sealed (kb t : List UInt8) : List UInt8 := t ++ Sha.seal_ kb t
theorem sealed_length {kb t : List UInt8} (h : t.length = 38) : (sealed kb t).length = 70 := by rw [sealed, List.length_append, h, Sha.seal_length]
/-- What Open answers. -/
def openP (kb b : List UInt8) (now : Nat) : CK × Nat :=
  if b.length < 70 then (zeroCK, 40) else if 70 < b.length then (zeroCK, 41) else if sealed kb (b.take 38) ≠ b then (zeroCK, 90)
  else if b.getD 25 0 ≠ 0 then (zeroCK, 42) else if 600 < (Ser.dist ((getC b).made : Int) (now : Int)) then (zeroCK, 91) else (getC b, 0)
end Go.Proofs.YtmbgjijajakgeaaDoor.Cok
