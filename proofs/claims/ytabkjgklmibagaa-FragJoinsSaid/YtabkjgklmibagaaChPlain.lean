/-
  Plain facts on chunks as bytes: cont (what stands behind a chunk's length), decB (read back), putC, getC, and the ways there and back.
-/
import Derived.Test.YtabkjgklmibagaaParPlain
set_option linter.unusedVariables false
set_option linter.unusedSimpArgs false
namespace Go.Proofs.Ytabkjgklmibagaa.Chk
open Go.RowKit Go.Proofs.Ytabkjgklmibagaa.Words Go.Proofs.Ytabkjgklmibagaa.Oct Go.Proofs.Ytabkjgklmibagaa.Par

/-! ### numbers as bytes, there and back -/
theorem foldl_num (l : List UInt8) : ∀ a : Nat, l.foldl (fun v x => 256 * v + x.toNat) a = a * 256 ^ l.length + num l := by
  induction l with
  | nil => intro a; simp [num]
  | cons x l ih =>
    intro a
    have h0 := ih (256 * 0 + x.toNat)
    have h1 := ih (256 * a + x.toNat)
    simp only [num, List.foldl_cons, List.length_cons] at h0 h1 ⊢
    rw [h1, h0, Nat.pow_succ, Nat.add_mul, Nat.mul_zero, Nat.zero_add, ← Nat.add_assoc, Nat.mul_comm 256 a, Nat.mul_assoc, Nat.mul_comm 256 (256 ^ _)]
theorem num_cons (x : UInt8) (l : List UInt8) : num (x :: l) = x.toNat * 256 ^ l.length + num l := by
  have h := foldl_num l (256 * 0 + x.toNat)
  have e : 256 * 0 + x.toNat = x.toNat := by omega
  show List.foldl _ (256 * 0 + x.toNat) l = _
  rw [h, e]
theorem num_inj : ∀ (a b : List UInt8), a.length = b.length → num a = num b → a = b
  | [], [], _, _ => rfl
  | [], _ :: _, h, _ => by simp at h
  | _ :: _, [], h, _ => by simp at h
  | x :: a, y :: b, h, e => by
    simp only [List.length_cons, Nat.add_right_cancel_iff] at h
    rw [num_cons, num_cons, h] at e
    have h1 := num_lt a
    have h2 := num_lt b
    rw [h] at h1
    have hp : 0 < 256 ^ b.length := Nat.pow_pos (by decide)
    have e1 : (num a + x.toNat * 256 ^ b.length) / 256 ^ b.length = x.toNat := by rw [Nat.add_mul_div_right _ _ hp, Nat.div_eq_of_lt h1, Nat.zero_add]
    have e2 : (num b + y.toNat * 256 ^ b.length) / 256 ^ b.length = y.toNat := by rw [Nat.add_mul_div_right _ _ hp, Nat.div_eq_of_lt h2, Nat.zero_add]
    have e3 : x.toNat = y.toNat := by rw [← e1, ← e2, Nat.add_comm (num a), Nat.add_comm (num b), e]
    have e4 : num a = num b := by rw [e3] at e; omega
    rw [num_inj a b h e4, UInt8.toNat_inj.1 e3]
theorem be_num (l : List UInt8) : be (num l) l.length = l := num_inj _ _ (be_length _ _) (by rw [num_be, Nat.mod_eq_of_lt (num_lt l)])
theorem be_num_n {l : List UInt8} {n : Nat} (h : l.length = n) : be (num l) n = l := by subst h; exact be_num l
theorem num_be_lt {v n : Nat} (h : v < 256 ^ n) : num (be v n) = v := by rw [num_be, Nat.mod_eq_of_lt h]
theorem be_mod16 (v : Nat) : be (v % 65536) 2 = be v 2 := num_inj _ _ (by rw [be_length, be_length]) (by rw [num_be, num_be]; omega)

/-! ### chunks -/
/-- A gap: from, to. What is skipped: the stream, unordered or not, the message's number. -/
abbrev Gp := Nat × Nat
abbrev Skp := Nat × Bool × Nat
structure Ck where
  kind : Nat
  bg : Bool
  en : Bool
  lo : Bool
  ba : Bool
  tsn : Nat
  st : Nat
  mid : Nat
  pp : Nat
  fr : Nat
  tag : Nat
  win : Nat
  out : Nat
  inn : Nat
  gaps : List Gp
  dups : List Nat
  skips : List Skp
  ps : List Prm
  body : List UInt8
structure Ck.ok (c : Ck) : Prop where
  kind : c.kind < 256
  tsn : c.tsn < 4294967296
  st : c.st < 65536
  mid : c.mid < 4294967296
  pp : c.pp < 4294967296
  fr : c.fr < 4294967296
  tag : c.tag < 4294967296
  win : c.win < 4294967296
  out : c.out < 65536
  inn : c.inn < 65536
  gaps : ∀ g ∈ c.gaps, g.1 < 65536 ∧ g.2 < 65536
  dups : ∀ d ∈ c.dups, d < 4294967296
  skips : ∀ s ∈ c.skips, s.1 < 65536 ∧ s.2.2 < 4294967296
  ps : ∀ p ∈ c.ps, p.1 < 65536
def known (k : Nat) : Bool := decide (k ≤ 11) || (k == 14 || (k == 64 || (k == 130 || (k == 192 || k == 194))))
/-- The kinds, one by one. -/
theorem kinds {k : Nat} (h : known k = true) : k = 0 ∨ k = 1 ∨ k = 2 ∨ k = 3 ∨ k = 4 ∨ k = 5 ∨ k = 6 ∨ k = 7 ∨ k = 8 ∨ k = 9 ∨ k = 10 ∨ k = 11 ∨ k = 14 ∨ k = 64 ∨ k = 130 ∨ k = 192 ∨ k = 194 := by
  simp only [known, Bool.or_eq_true, decide_eq_true_eq, beq_iff_eq] at h
  omega
def hasBody (k : Nat) : Bool := k == 0 || k == 64
def hasPs (k : Nat) : Bool := k == 1 || (k == 2 || (k == 6 || (k == 9 || k == 130)))
def lacks (c : Ck) : Bool := hasBody c.kind && c.body.isEmpty
def gapE (g : Gp) : List UInt8 := be g.1 2 ++ be g.2 2
def dupE (d : Nat) : List UInt8 := be d 4
def skE (s : Skp) : List UInt8 := be s.1 2 ++ be (s.2.2 % 65536) 2
def loN (b : Bool) : Nat := if b then 1 else 0
def skW (s : Skp) : List UInt8 := be s.1 2 ++ (be 0 1 ++ (be (loN s.2.1) 1 ++ be s.2.2 4))
def gapsE (l : List Gp) : List UInt8 := (l.map gapE).flatten
def dupsE (l : List Nat) : List UInt8 := (l.map dupE).flatten
def sksE (l : List Skp) : List UInt8 := (l.map skE).flatten
def sksW (l : List Skp) : List UInt8 := (l.map skW).flatten
def fragE (c : Ck) : List UInt8 := be c.tsn 4 ++ (be c.st 2 ++ if c.kind = 0 then be (c.mid % 65536) 2 ++ be c.pp 4 else be 0 2 ++ (be c.mid 4 ++ be (if c.bg then c.pp else c.fr) 4))
def greetE (c : Ck) : List UInt8 := be c.tag 4 ++ (be c.win 4 ++ (be c.out 2 ++ (be c.inn 2 ++ be c.tsn 4)))
def sackE (c : Ck) : List UInt8 := be c.tsn 4 ++ (be c.win 4 ++ (be c.gaps.length 2 ++ (be c.dups.length 2 ++ (gapsE c.gaps ++ dupsE c.dups))))
/-- What stands behind a chunk's length. -/
def cont (c : Ck) : List UInt8 :=
  if hasBody c.kind then fragE c ++ c.body
  else if c.kind = 1 ∨ c.kind = 2 then greetE c ++ encL c.ps
  else if c.kind = 3 then sackE c
  else if c.kind = 4 ∨ c.kind = 5 ∨ c.kind = 10 then c.body
  else if hasPs c.kind then encL c.ps
  else if c.kind = 7 then be c.tsn 4
  else if c.kind = 192 then be c.tsn 4 ++ sksE c.skips
  else if c.kind = 194 then be c.tsn 4 ++ sksW c.skips
  else []
def flagsN (c : Ck) : Nat :=
  if hasBody c.kind then loN c.en + (2 * loN c.bg + 4 * loN c.lo)
  else if c.kind = 6 ∨ c.kind = 14 then loN c.ba else 0
/-- Is it too long? -/
def tooLong (c : Ck) : Prop :=
  (c.kind = 3 ∧ (65535 < c.gaps.length ∨ 65535 < c.dups.length)) ∨ (hasPs c.kind = true ∧ ∃ p ∈ c.ps, 65531 < p.2.length) ∨ 65535 < (cont c).length + 4
def frame (k f : Nat) (x : List UInt8) : List UInt8 := be k 1 ++ (be f 1 ++ (be (x.length + 4) 2 ++ (x ++ List.replicate (padC x.length) 0)))
/-- Which chunks have bytes. -/
structure Puts (c : Ck) : Prop where
  known : known c.kind = true
  full : lacks c = false
  short : ¬ tooLong c
def bytesC (c : Ck) : List UInt8 := frame c.kind (flagsN c) (cont c)

/-! ### read back -/
def gapsN : Nat → List UInt8 → List Gp
  | 0, _ => []
  | n + 1, l => (num (l.take 2), num ((l.drop 2).take 2)) :: gapsN n (l.drop 4)
def dupsN : Nat → List UInt8 → List Nat
  | 0, _ => []
  | n + 1, l => num (l.take 4) :: dupsN n (l.drop 4)
def sksN : Nat → List UInt8 → List Skp
  | 0, _ => []
  | n + 1, l => (num (l.take 2), false, num ((l.drop 2).take 2)) :: sksN n (l.drop 4)
def sksV : Nat → List UInt8 → List Skp
  | 0, _ => []
  | n + 1, l => (num (l.take 2), num ((l.drop 2).take 2) == 1, num ((l.drop 4).take 4)) :: sksV n (l.drop 8)
/-- Is each of the unordered ones' marks nought or one? -/
def sksOk : Nat → List UInt8 → Bool
  | 0, _ => true
  | n + 1, l => decide (num ((l.drop 2).take 2) ≤ 1) && sksOk n (l.drop 8)
def zeroC (k : Nat) : Ck := ⟨k, false, false, false, false, 0, 0, 0, 0, 0, 0, 0, 0, 0, [], [], [], [], []⟩
def flagged (k f : Nat) : Ck :=
  if hasBody k then { zeroC k with bg := f / 2 % 2 == 1, en := f % 2 == 1, lo := f / 4 % 2 == 1 }
  else if k = 6 ∨ k = 14 then { zeroC k with ba := f % 2 == 1 } else zeroC k
def withFrag (c : Ck) (x : List UInt8) : Ck :=
  if c.kind = 0 then { c with tsn := num (x.take 4), st := num ((x.drop 4).take 2), mid := num ((x.drop 6).take 2), pp := num ((x.drop 8).take 4), body := x.drop 12 }
  else if c.bg then { c with tsn := num (x.take 4), st := num ((x.drop 4).take 2), mid := num ((x.drop 8).take 4), pp := num ((x.drop 12).take 4), body := x.drop 16 }
  else { c with tsn := num (x.take 4), st := num ((x.drop 4).take 2), mid := num ((x.drop 8).take 4), fr := num ((x.drop 12).take 4), body := x.drop 16 }
def withGreet (c : Ck) (x : List UInt8) : Ck :=
  { c with tag := num (x.take 4), win := num ((x.drop 4).take 4), out := num ((x.drop 8).take 2), inn := num ((x.drop 10).take 2), tsn := num ((x.drop 12).take 4) }
def withPs (c : Ck) : Except Nat (List Prm) → Option Ck
  | .ok ls => some { c with ps := ls }
  | .error _ => none
def withSack (c : Ck) (x : List UInt8) : Ck :=
  { c with tsn := num (x.take 4), win := num ((x.drop 4).take 4), gaps := gapsN (num ((x.drop 8).take 2)) (x.drop 12), dups := dupsN (num ((x.drop 10).take 2)) ((x.drop 12).drop (4 * num ((x.drop 8).take 2))) }
/-- What was read, of a chunk of which the flags are known: none, if it isn't just what the kind has. -/
def decB (c : Ck) (x : List UInt8) : Option Ck :=
  if c.kind = 0 then (if 12 ≤ x.length then some (withFrag c x) else none)
  else if c.kind = 64 then (if 16 ≤ x.length ∧ num ((x.drop 6).take 2) = 0 then some (withFrag c x) else none)
  else if c.kind = 1 ∨ c.kind = 2 then (if 16 ≤ x.length then withPs (withGreet c x) (getL (x.drop 16)) else none)
  else if c.kind = 3 then (if 12 ≤ x.length ∧ x.length - 12 = 4 * (num ((x.drop 8).take 2) + num ((x.drop 10).take 2)) then some (withSack c x) else none)
  else if c.kind = 4 ∨ c.kind = 5 ∨ c.kind = 10 then some { c with body := x }
  else if hasPs c.kind then withPs c (getL x)
  else if c.kind = 7 then (if x.length = 4 then some { c with tsn := num (x.take 4) } else none)
  else if c.kind = 192 then (if 4 ≤ x.length ∧ (x.length - 4) % 4 = 0 then some { c with tsn := num (x.take 4), skips := sksN ((x.length - 4) / 4) (x.drop 4) } else none)
  else if c.kind = 194 then (if 4 ≤ x.length ∧ (x.length - 4) % 8 = 0 ∧ sksOk ((x.length - 4) / 8) (x.drop 4) = true then some { c with tsn := num (x.take 4), skips := sksV ((x.length - 4) / 8) (x.drop 4) } else none)
  else if x = [] then some c else none
/-- A chunk, flags and all. -/
def decC (k f : Nat) (x : List UInt8) : Option Ck :=
  if f = flagsN (flagged k f) then (match decB (flagged k f) x with | none => none | some c => if lacks c then none else some c) else none
def getC (b : List UInt8) : Except Nat (Ck × Nat) :=
  if b.length < 4 then .error 40 else
  if num ((b.drop 2).take 2) < 4 then .error 42 else
  if b.length < (num ((b.drop 2).take 2) + 3) / 4 * 4 then .error 40 else
  if ((b.drop (num ((b.drop 2).take 2))).take ((num ((b.drop 2).take 2) + 3) / 4 * 4 - num ((b.drop 2).take 2))).any (· != 0) then .error 42 else
  if known (num (b.take 1)) = false then .error 60 else
  match decC (num (b.take 1)) (num ((b.drop 1).take 1)) ((b.drop 4).take (num ((b.drop 2).take 2) - 4)) with
  | none => .error 42
  | some c => .ok (c, (num ((b.drop 2).take 2) + 3) / 4 * 4)
/-- A chunk without the fields that its kind hasn't. -/
def strip (c : Ck) : Ck :=
  if hasBody c.kind then { zeroC c.kind with bg := c.bg, en := c.en, lo := c.lo, tsn := c.tsn, st := c.st, mid := (if c.kind = 0 then c.mid % 65536 else c.mid), pp := (if c.kind = 64 ∧ c.bg = false then 0 else c.pp), fr := (if c.kind = 64 ∧ c.bg = false then c.fr else 0), body := c.body }
  else if c.kind = 1 ∨ c.kind = 2 then { zeroC c.kind with tag := c.tag, win := c.win, out := c.out, inn := c.inn, tsn := c.tsn, ps := c.ps }
  else if c.kind = 3 then { zeroC c.kind with tsn := c.tsn, win := c.win, gaps := c.gaps, dups := c.dups }
  else if c.kind = 4 ∨ c.kind = 5 ∨ c.kind = 10 then { zeroC c.kind with body := c.body }
  else if hasPs c.kind then (if c.kind = 6 then { zeroC c.kind with ba := c.ba, ps := c.ps } else { zeroC c.kind with ps := c.ps })
  else if c.kind = 7 then { zeroC c.kind with tsn := c.tsn }
  else if c.kind = 192 then { zeroC c.kind with tsn := c.tsn, skips := c.skips.map fun s => (s.1, false, s.2.2 % 65536) }
  else if c.kind = 194 then { zeroC c.kind with tsn := c.tsn, skips := c.skips }
  else if c.kind = 14 then { zeroC c.kind with ba := c.ba } else zeroC c.kind

/-! ### lists, there and back -/
theorem gapE_length (g : Gp) : (gapE g).length = 4 := by simp [gapE, be_length]
theorem gapsE_length (l : List Gp) : (gapsE l).length = 4 * l.length := by
  induction l with
  | nil => rfl
  | cons g l ih => simp only [gapsE, List.map_cons, List.flatten_cons, List.length_append, gapE_length, List.length_cons] at ih ⊢; omega
theorem dupsE_length (l : List Nat) : (dupsE l).length = 4 * l.length := by
  induction l with
  | nil => rfl
  | cons g l ih => simp only [dupsE, List.map_cons, List.flatten_cons, List.length_append, dupE, be_length, List.length_cons] at ih ⊢; omega
theorem sksE_length (l : List Skp) : (sksE l).length = 4 * l.length := by
  induction l with
  | nil => rfl
  | cons g l ih => simp only [sksE, List.map_cons, List.flatten_cons, List.length_append, skE, be_length, List.length_cons] at ih ⊢; omega
theorem sksW_length (l : List Skp) : (sksW l).length = 8 * l.length := by
  induction l with
  | nil => rfl
  | cons g l ih => simp only [sksW, List.map_cons, List.flatten_cons, List.length_append, skW, be_length, List.length_cons] at ih ⊢; omega
theorem gapsE_snoc (l : List Gp) (g : Gp) : gapsE (l ++ [g]) = gapsE l ++ (be g.1 2 ++ be g.2 2) := by simp [gapsE, gapE]
theorem dupsE_snoc (l : List Nat) (g : Nat) : dupsE (l ++ [g]) = dupsE l ++ be g 4 := by simp [dupsE, dupE]
theorem sksE_snoc (l : List Skp) (s : Skp) : sksE (l ++ [s]) = sksE l ++ (be s.1 2 ++ be (s.2.2 % 65536) 2) := by simp [sksE, skE]
theorem sksW_snoc (l : List Skp) (s : Skp) : sksW (l ++ [s]) = sksW l ++ (be s.1 2 ++ (be 0 1 ++ (be (loN s.2.1) 1 ++ be s.2.2 4))) := by simp [sksW, skW]
/-- What stands ahead, what stands behind. -/
theorem take_be' (v n : Nat) (r : List UInt8) : (be v n ++ r).take n = be v n := take_be v n r
theorem drop_more {a : List UInt8} {n k : Nat} (r : List UInt8) (h : a.length = n) : (a ++ r).drop (n + k) = r.drop k := by
  rw [← List.drop_drop, ← h, List.drop_left]
theorem drop_be_more (v n k : Nat) (r : List UInt8) : (be v n ++ r).drop (n + k) = r.drop k := drop_more r (be_length v n)
theorem gapsN_enc : ∀ (l : List Gp) (r : List UInt8), (∀ g ∈ l, g.1 < 65536 ∧ g.2 < 65536) → gapsN l.length (gapsE l ++ r) = l
  | [], r, _ => rfl
  | g :: l, r, h => by
    have hg := h g (by simp)
    have e : gapsE (g :: l) ++ r = be g.1 2 ++ (be g.2 2 ++ (gapsE l ++ r)) := by simp [gapsE, gapE]
    rw [List.length_cons, gapsN, e, take_be, drop_be, take_be, show (4 : Nat) = 2 + (2 + 0) by rfl, drop_be_more, drop_be_more, List.drop_zero, num_be_lt (by omega), num_be_lt (by omega), gapsN_enc l r (fun q hq => h q (by simp [hq]))]
theorem dupsN_enc : ∀ (l : List Nat) (r : List UInt8), (∀ d ∈ l, d < 4294967296) → dupsN l.length (dupsE l ++ r) = l
  | [], r, _ => rfl
  | d :: l, r, h => by
    have hg := h d (by simp)
    have e : dupsE (d :: l) ++ r = be d 4 ++ (dupsE l ++ r) := by simp [dupsE, dupE]
    rw [List.length_cons, dupsN, e, take_be, drop_be, num_be_lt (by omega), dupsN_enc l r (fun q hq => h q (by simp [hq]))]
theorem sksN_enc : ∀ (l : List Skp) (r : List UInt8), (∀ s ∈ l, s.1 < 65536 ∧ s.2.2 < 4294967296) → sksN l.length (sksE l ++ r) = l.map fun s => (s.1, false, s.2.2 % 65536)
  | [], r, _ => rfl
  | s :: l, r, h => by
    have hg := h s (by simp)
    have e : sksE (s :: l) ++ r = be s.1 2 ++ (be (s.2.2 % 65536) 2 ++ (sksE l ++ r)) := by simp [sksE, skE]
    rw [List.length_cons, sksN, e, take_be, drop_be, take_be, show (4 : Nat) = 2 + (2 + 0) by rfl, drop_be_more, drop_be_more, List.drop_zero, num_be_lt (by omega), num_be_lt (by omega), sksN_enc l r (fun q hq => h q (by simp [hq])), List.map_cons]
theorem mark_two (b : Bool) : be 0 1 ++ be (loN b) 1 = be (loN b) 2 := by cases b <;> decide
theorem skW_eq (s : Skp) (r : List UInt8) : skW s ++ r = be s.1 2 ++ (be (loN s.2.1) 2 ++ (be s.2.2 4 ++ r)) := by
  rw [← mark_two]; simp [skW]
theorem sksV_enc : ∀ (l : List Skp) (r : List UInt8), (∀ s ∈ l, s.1 < 65536 ∧ s.2.2 < 4294967296) → sksV l.length (sksW l ++ r) = l ∧ sksOk l.length (sksW l ++ r) = true
  | [], r, _ => ⟨rfl, rfl⟩
  | s :: l, r, h => by
    have hg := h s (by simp)
    have e : sksW (s :: l) ++ r = be s.1 2 ++ (be (loN s.2.1) 2 ++ (be s.2.2 4 ++ (sksW l ++ r))) := by
      have : sksW (s :: l) ++ r = skW s ++ (sksW l ++ r) := by simp [sksW]
      rw [this, skW_eq]
    obtain ⟨h1, h2⟩ := sksV_enc l r (fun q hq => h q (by simp [hq]))
    have hm : num (be (loN s.2.1) 2) = loN s.2.1 := num_be_lt (by unfold loN; split <;> decide)
    have e8 : (sksW (s :: l) ++ r).drop 8 = sksW l ++ r := by rw [e, show (8 : Nat) = 2 + (2 + (4 + 0)) by rfl, drop_be_more, drop_be_more, drop_be_more, List.drop_zero]
    have e4 : (sksW (s :: l) ++ r).drop 4 = be s.2.2 4 ++ (sksW l ++ r) := by rw [e, show (4 : Nat) = 2 + (2 + 0) by rfl, drop_be_more, drop_be_more, List.drop_zero]
    have e2 : (sksW (s :: l) ++ r).drop 2 = be (loN s.2.1) 2 ++ (be s.2.2 4 ++ (sksW l ++ r)) := by rw [e, drop_be]
    have e0 : (sksW (s :: l) ++ r).take 2 = be s.1 2 := by rw [e, take_be]
    constructor
    · rw [List.length_cons, sksV, e8, e4, e2, e0, take_be, take_be, h1, hm, num_be_lt (by omega), num_be_lt (by omega)]
      congr 1
      obtain ⟨a, b, c⟩ := s
      cases b <;> rfl
    · rw [List.length_cons, sksOk, e8, e2, take_be, h2, hm]
      cases s.2.1 <;> rfl
theorem enc_gapsN : ∀ (n : Nat) (l : List UInt8), 4 * n ≤ l.length → gapsE (gapsN n l) = l.take (4 * n) ∧ (gapsN n l).length = n ∧ ∀ g ∈ gapsN n l, g.1 < 65536 ∧ g.2 < 65536
  | 0, l, _ => ⟨by simp [gapsN, gapsE], rfl, by simp [gapsN]⟩
  | n + 1, l, h => by
    obtain ⟨h1, h2, h3⟩ := enc_gapsN n (l.drop 4) (by rw [List.length_drop]; omega)
    refine ⟨?_, by simp [gapsN, h2], fun g hg => ?_⟩
    · have e : gapsE (gapsN (n + 1) l) = be (num (l.take 2)) 2 ++ (be (num ((l.drop 2).take 2)) 2 ++ gapsE (gapsN n (l.drop 4))) := by simp [gapsN, gapsE, gapE]
      rw [e, h1, be_num_n (by rw [List.length_take]; omega), be_num_n (by rw [List.length_take, List.length_drop]; omega), show 4 * (n + 1) = 2 + (2 + 4 * n) by omega, List.take_add, List.take_add, List.drop_drop]
    · rcases List.mem_cons.1 hg with rfl | hg
      · exact ⟨num2_lt _ (by rw [List.length_take]; omega), num2_lt _ (by rw [List.length_take]; omega)⟩
      · exact h3 g hg
theorem num4_lt (l : List UInt8) (h : l.length ≤ 4) : num l < 4294967296 := Nat.lt_of_lt_of_le (num_lt l) (Nat.pow_le_pow_right (n := 256) (by decide) h)
theorem num1_lt (l : List UInt8) (h : l.length ≤ 1) : num l < 256 := Nat.lt_of_lt_of_le (num_lt l) (Nat.pow_le_pow_right (n := 256) (by decide) h)
theorem enc_dupsN : ∀ (n : Nat) (l : List UInt8), 4 * n ≤ l.length → dupsE (dupsN n l) = l.take (4 * n) ∧ (dupsN n l).length = n ∧ ∀ d ∈ dupsN n l, d < 4294967296
  | 0, l, _ => ⟨by simp [dupsN, dupsE], rfl, by simp [dupsN]⟩
  | n + 1, l, h => by
    obtain ⟨h1, h2, h3⟩ := enc_dupsN n (l.drop 4) (by rw [List.length_drop]; omega)
    refine ⟨?_, by simp [dupsN, h2], fun g hg => ?_⟩
    · have e : dupsE (dupsN (n + 1) l) = be (num (l.take 4)) 4 ++ dupsE (dupsN n (l.drop 4)) := by simp [dupsN, dupsE, dupE]
      rw [e, h1, be_num_n (by rw [List.length_take]; omega), show 4 * (n + 1) = 4 + 4 * n by omega, List.take_add]
    · rcases List.mem_cons.1 hg with rfl | hg
      · exact num4_lt _ (by rw [List.length_take]; omega)
      · exact h3 g hg
theorem enc_sksN : ∀ (n : Nat) (l : List UInt8), 4 * n ≤ l.length → sksE (sksN n l) = l.take (4 * n) ∧ (sksN n l).length = n ∧ ∀ s ∈ sksN n l, s.1 < 65536 ∧ s.2.2 < 4294967296
  | 0, l, _ => ⟨by simp [sksN, sksE], rfl, by simp [sksN]⟩
  | n + 1, l, h => by
    obtain ⟨h1, h2, h3⟩ := enc_sksN n (l.drop 4) (by rw [List.length_drop]; omega)
    have hb := num2_lt ((l.drop 2).take 2) (by rw [List.length_take]; omega)
    refine ⟨?_, by simp [sksN, h2], fun g hg => ?_⟩
    · have e : sksE (sksN (n + 1) l) = be (num (l.take 2)) 2 ++ (be (num ((l.drop 2).take 2) % 65536) 2 ++ sksE (sksN n (l.drop 4))) := by simp [sksN, sksE, skE]
      rw [e, h1, Nat.mod_eq_of_lt hb, be_num_n (by rw [List.length_take]; omega), be_num_n (by rw [List.length_take, List.length_drop]; omega), show 4 * (n + 1) = 2 + (2 + 4 * n) by omega, List.take_add, List.take_add, List.drop_drop]
    · rcases List.mem_cons.1 hg with rfl | hg
      · exact ⟨num2_lt _ (by rw [List.length_take]; omega), by show num _ < _; omega⟩
      · exact h3 g hg
theorem enc_sksV : ∀ (n : Nat) (l : List UInt8), 8 * n ≤ l.length → sksOk n l = true → sksW (sksV n l) = l.take (8 * n) ∧ (sksV n l).length = n ∧ ∀ s ∈ sksV n l, s.1 < 65536 ∧ s.2.2 < 4294967296
  | 0, l, _, _ => ⟨by simp [sksV, sksW], rfl, by simp [sksV]⟩
  | n + 1, l, h, ho => by
    simp only [sksOk, Bool.and_eq_true, decide_eq_true_eq] at ho
    obtain ⟨h1, h2, h3⟩ := enc_sksV n (l.drop 8) (by rw [List.length_drop]; omega) ho.2
    refine ⟨?_, by simp [sksV, h2], fun g hg => ?_⟩
    · have e : sksW (sksV (n + 1) l) = skW (num (l.take 2), num ((l.drop 2).take 2) == 1, num ((l.drop 4).take 4)) ++ sksW (sksV n (l.drop 8)) := by simp [sksV, sksW]
      have hm : loN (num ((l.drop 2).take 2) == 1) = num ((l.drop 2).take 2) := by
        have := ho.1
        rcases Nat.lt_or_ge (num ((l.drop 2).take 2)) 1 with h0 | h0
        · have : num ((l.drop 2).take 2) = 0 := by omega
          rw [this]; rfl
        · have : num ((l.drop 2).take 2) = 1 := by omega
          rw [this]; rfl
      rw [e, skW_eq]
      show be (num (l.take 2)) 2 ++ (be (loN (num ((l.drop 2).take 2) == 1)) 2 ++ (be (num ((l.drop 4).take 4)) 4 ++ sksW (sksV n (l.drop 8)))) = _
      rw [hm, h1, be_num_n (by rw [List.length_take]; omega), be_num_n (by rw [List.length_take, List.length_drop]; omega), be_num_n (by rw [List.length_take, List.length_drop]; omega), show 8 * (n + 1) = 2 + (2 + (4 + 8 * n)) by omega, List.take_add, List.take_add, List.take_add, List.drop_drop, List.drop_drop]
    · rcases List.mem_cons.1 hg with rfl | hg
      · exact ⟨num2_lt _ (by rw [List.length_take]; omega), num4_lt _ (by rw [List.length_take]; omega)⟩
      · exact h3 g hg
end Go.Proofs.Ytabkjgklmibagaa.Chk
