/-
  Plain facts for the document's answers of layer 8.
-/
import Derived.Test.YtmbgjijajakgeaaDoorMacR1
set_option linter.unusedVariables false
set_option linter.unusedSimpArgs false
namespace Go.Proofs.YtmbgjijajakgeaaDoor.Sha
open Go.ChangeShapes Go.WideShapes Go.ChangeAt Go.RowKit Go.Proofs.YtmbgjijajakgeaaDoor.Words

theorem ch_eq (e f g : Nat) (he : e < 4294967296) : (e &&& f) ||| ((4294967295 - e) &&& g) = (e &&& f) ^^^ ((4294967295 - e) &&& g) := by
  apply Nat.eq_of_testBit_eq
  intro i
  have h : (4294967295 - e).testBit i = (decide (i < 32) && !e.testBit i) := by
    have := Nat.testBit_two_pow_sub_succ (n := 32) (x := e) he i
    rw [← this]
    congr 1
    omega
  simp only [Nat.testBit_or, Nat.testBit_and, Nat.testBit_xor, h]
  cases e.testBit i <;> cases f.testBit i <;> cases g.testBit i <;> cases decide (i < 32) <;> rfl
theorem maj_eq (a b c : Nat) : (a &&& b) ||| (a &&& c) ||| (b &&& c) = (a &&& b) ^^^ (a &&& c) ^^^ (b &&& c) := by
  apply Nat.eq_of_testBit_eq
  intro i
  simp only [Nat.testBit_or, Nat.testBit_and, Nat.testBit_xor]
  cases a.testBit i <;> cases b.testBit i <;> cases c.testBit i <;> rfl
/-- A text with what fills blocks behind it. -/
def full (m : List UInt8) : List UInt8 := m ++ endL m.length
theorem full_length (m : List UInt8) : (full m).length = m.length + 9 + zerosN m.length := by simp [full, endL_length]; omega
theorem full_get (m : List UInt8) : (full m)[m.length]? = some 128 ∧ (∀ j, j < zerosN m.length → (full m)[m.length + 1 + j]? = some 0) ∧ ∀ i, i < 8 → (full m)[m.length + 1 + zerosN m.length + i]? = (be8 (8 * m.length))[i]? := by
  unfold full endL
  refine ⟨?_, fun j hj => ?_, fun i hi => ?_⟩
  · rw [List.getElem?_append_right (Nat.le_refl _), Nat.sub_self]; rfl
  · rw [List.getElem?_append_right (by omega), show m.length + 1 + j - m.length = j + 1 by omega, List.getElem?_cons_succ, List.getElem?_append_left (by simpa using hj), List.getElem?_replicate, if_pos hj]
  · rw [List.getElem?_append_right (by omega), show m.length + 1 + zerosN m.length + i - m.length = (zerosN m.length + i) + 1 by omega, List.getElem?_cons_succ, List.getElem?_append_right (by simp), List.length_replicate, Nat.add_sub_cancel_left]
theorem full_take (m : List UInt8) : (full m).take m.length = m := by simp [full]
theorem zeros_stop (n j : Nat) (hj : j ≤ zerosN n) : (n + 1 + j) % 64 = 56 ↔ j = zerosN n := by unfold zerosN at *; omega
theorem zerosN_lt (n : Nat) : zerosN n < 64 := Nat.mod_lt _ (by decide)
theorem full_whole (m : List UInt8) : (full m).length % 64 = 0 := by rw [full_length]; unfold zerosN; omega
theorem hash_full (m : List UInt8) : hash m = out (feed ((full m).length / 64) h0 (full m)) := by
  unfold hash full
  rw [List.length_append]
/-- A byte more, in a block of its own that was just built. -/
theorem push_row {B0 n : Nat} {L : List UInt8} {v : Value} {w : World} {b : UInt8} (h : RowL B0 L n v w) (hB : B0 ≤ w.heap.size) (hL : L.length ≤ 100000) (hb : L[n]? = some b) :
    ∃ v' w', (Builtin.append_ #[22, 22] 22 #[v, .slice (some ⟨w.heap.size, 0, none⟩) 1 1]).run Tryd.prog (w.alloc (.cells #[.int .u8 (b.toNat : Int)] 5)) = .ok v' w' ∧ RowL B0 L (n + 1) v' w' ∧ Below B0 w w' := by
  have hlt := (List.getElem?_eq_some_iff.1 hb).1
  have hg : Grew B0 L w (w.alloc (.cells #[.int .u8 (b.toNat : Int)] 5)) := .of_below (below_new w _) hB
  have hn : (L.drop n).take 1 = [b] := by
    rw [List.drop_eq_getElem_cons hlt]
    have := (List.getElem?_eq_some_iff.1 hb).2
    simp [this]
  have hr : Reads (w.alloc (.cells #[.int .u8 (b.toNat : Int)] 5)) (w.heap.size + 1) 1 (some ⟨w.heap.size, 0, none⟩) 1 (u8s ((L.drop n).take 1)) := by
    rw [hn]
    exact (Blk.new w 5 #[.int .u8 (b.toNat : Int)]).byt (l := [b]) (by omega) rfl
  obtain ⟨v', w', h1, h2, h3⟩ := app_row (c := 1) (h.grew hg) (Nat.le_trans hB hg.size) hL (by omega) hr 22
  exact ⟨v', w', h1, h2, hg.below.trans h3.below⟩
theorem push_eq {w : World} {v : Value} {b : UInt8} {x : Int} {r : Result Value} (h : (Builtin.append_ #[22, 22] 22 #[v, .slice (some ⟨w.heap.size, 0, none⟩) 1 1]).run Tryd.prog (w.alloc (.cells #[.int .u8 (b.toNat : Int)] 5)) = r) (hx : x = (b.toNat : Int)) :
    (Builtin.append_ #[22, 22] 22 #[v, .slice (some ⟨w.heap.size, 0, none⟩) 1 1]).run Tryd.prog (w.alloc (.cells #[.int .u8 x] 5)) = r := by rw [hx]; exact h
theorem add_at (g i : Nat) : (⟨g, 0, none⟩ : Addr).add i = ⟨g, i, none⟩ := by
  unfold Addr.add
  by_cases h : i = 0
  · rw [if_pos h, h]
  · rw [if_neg h]; simp
theorem exec_sub {P : Program} {ρ : Operand → Value} {o : Oper} {x y : Operand} {t r : TypeId} {w : World} {k : IntKind} (a b c : Int) (ho : o.op = .binOp .sub t x y r) (hx : ρ x = .int k a) (hy : ρ y = .int k b) (hc : k.wrap (a - b) = c) : (execOp ρ o).run P w = .ok (.value (.int k c)) w := by
  subst hc
  unfold execOp
  simp [ho, hx, hy, eqGuard, binOp_sub, Op.intArith]
theorem exec_add {P : Program} {ρ : Operand → Value} {o : Oper} {x y : Operand} {t r : TypeId} {w : World} {k : IntKind} (a b c : Int) (ho : o.op = .binOp .add t x y r) (hx : ρ x = .int k a) (hy : ρ y = .int k b) (hc : k.wrap (a + b) = c) : (execOp ρ o).run P w = .ok (.value (.int k c)) w := by
  subst hc
  unfold execOp
  simp [ho, hx, hy, eqGuard, binOp_add, Op.intArith]
theorem exec_xor {P : Program} {ρ : Operand → Value} {o : Oper} {x y : Operand} {t r : TypeId} {w : World} {k : IntKind} (a b c : Int) (ho : o.op = .binOp .xor t x y r) (hx : ρ x = .int k a) (hy : ρ y = .int k b) (hc : bits .xor k a b = c) : (execOp ρ o).run P w = .ok (.value (.int k c)) w := by
  subst hc
  unfold execOp
  simp [ho, hx, hy, eqGuard, binOp_xor, Op.intBits]
  rfl
theorem exec_ixa {P : Program} {ρ : Operand → Value} {o : Oper} {x y : Operand} {t : TypeId} {w : World} {g k : Nat} (i : Int) (ho : o.op = .indexAddr t x y) (hx : ρ x = .pointer (some ⟨g, 0, none⟩)) (hy : ρ y = .int .i64 i)
    (ht : P.underlying t = some (.array (P.arrayLen t) (P.elem t))) (hs : (P.info? (P.elem t)).map (·.size) = some 1) (hk : i = (k : Int)) (hl : k < P.arrayLen t) : (execOp ρ o).run P w = .ok (.value (.pointer (some ⟨g, k, none⟩))) w := by
  subst hk
  cases hq : P.info? (P.elem t) with
  | none => simp [hq] at hs
  | some e =>
    have he : e.size = 1 := by simpa [hq] using hs
    unfold execOp
    simp only [ho, hx, hy, Sem.run_bind, run_indexAt_array w t _ _ _ ht]
    rw [if_pos (by omega)]
    simp [sizeOf, typeInfo, hq, he, add_at]
theorem exec_ldc {P : Program} {ρ : Operand → Value} {o : Oper} {x : Operand} {t : TypeId} {w : World} {g k : Nat} {v : Value} (ho : o.op = .load t x) (hx : ρ x = .pointer (some ⟨g, k, none⟩)) (hv : w.cell? ⟨g, k, none⟩ = some v) (hd : ∃ d, P.underlying t = some d ∧ (match d with | .struct _ | .array _ _ => false | _ => true) = true) : (execOp ρ o).run P w = .ok (.value v) w := by
  obtain ⟨d, hd1, hd2⟩ := hd
  have h : (Instr.loadAt t (.pointer (some ⟨g, k, none⟩))).run P w = .ok v w := by
    unfold Instr.loadAt
    simp [Instr.sureAddr, loadVar, isAgg, run_underlying hd1]
    cases d <;> simp_all
  exact exec_load ho hx h
theorem exec_shr {P : Program} {ρ : Operand → Value} {o : Oper} {x y : Operand} {t r : TypeId} {w : World} (a n : Nat) (c : Int) (ha : a < 4294967296) (hn : n < 32) (ho : o.op = .binOp .shr t x y r) (hx : ρ x = .int .u32 (a : Int)) (hy : ρ y = .int .u64 (n : Int)) (hc : (a : Int) / (2 : Int) ^ n = c) : (execOp ρ o).run P w = .ok (.value (.int .u32 c)) w := by
  subst hc
  unfold execOp
  simp [ho, hx, hy, eqGuard, binOp_shr, Op.shift]
/-- The words of a block while they are laid. -/
def WP (l : List UInt8) (t : Nat) : List Nat := if t ≤ 16 then pad 64 (words (l.take (4 * t))) else pad 64 (extN (t - 16) (words l))
theorem WP_zero (l : List UInt8) : WP l 0 = Zs 64 := by simp [WP, words, pad, Zs]
theorem WP_small {l : List UInt8} {t : Nat} (ht : t ≤ 16) : WP l t = pad 64 (words (l.take (4 * t))) := if_pos ht
theorem WP_big {l : List UInt8} (hl : l.length = 64) {t : Nat} (ht : 16 ≤ t) : WP l t = pad 64 (extN (t - 16) (words l)) := by
  unfold WP
  by_cases h : t ≤ 16
  · rw [if_pos h, show t = 16 by omega, show l.take (4 * 16) = l from List.take_of_length_le (by omega)]; rfl
  · rw [if_neg h]
theorem byt_at {w : World} {B g : Nat} {L : List UInt8} (h : Byt w B (some ⟨g, 0, none⟩) L) {i : Nat} (hi : i < L.length) : w.cell? ⟨g, i, none⟩ = some (.int .u8 ((L.getD i 0).toNat : Int)) := by
  obtain ⟨ad, e, _, hc⟩ := h.2 (by omega)
  cases e
  have := hc i (.int .u8 ((L.getD i 0).toNat : Int)) (by rw [u8s_get, List.getElem?_eq_getElem hi, List.getD_eq_getElem?_getD, List.getElem?_eq_getElem hi]; rfl)
  rwa [add_at] at this
theorem nearV {x : Nat} (hx : x < 4294967296) : ∃ y1 y2 y3 y4 : Nat, y1 < 4294967296 ∧ y2 < 4294967296 ∧
    (∀ w, Calls Tryd.prog 46 #[.int .u32 (x : Int), .int .u64 17] w fun e w' => e = .returned (.int .u32 (y1 : Int)) ∧ w = w') ∧
    (∀ w, Calls Tryd.prog 46 #[.int .u32 (x : Int), .int .u64 19] w fun e w' => e = .returned (.int .u32 (y2 : Int)) ∧ w = w') ∧
    bits .xor .u32 (y1 : Int) (y2 : Int) = (y3 : Int) ∧ bits .xor .u32 (y3 : Int) ((x : Int) / 1024) = (y4 : Int) ∧ Hid (y4 = near x) ∧ y4 < 4294967296 := by
  have l1 := rot_lt hx 17
  have l2 := rot_lt hx 19
  have hd : x / 1024 < 4294967296 := Nat.lt_of_le_of_lt (Nat.div_le_self _ _) hx
  exact ⟨_, _, _, _, l1, l2, turn_any x 17 _ hx (by simp [Rn]) rfl, turn_any x 19 _ hx (by simp [Rn]) rfl, u32_xor_nat _ _ l1 l2,
    by rw [show (x : Int) / 1024 = ((x / 1024 : Nat) : Int) by omega]; exact u32_xor_nat _ _ (xor_lt l1 l2) hd, rfl, xor_lt (xor_lt l1 l2) hd⟩
theorem farV {x : Nat} (hx : x < 4294967296) : ∃ y1 y2 y3 y4 : Nat, y1 < 4294967296 ∧ y2 < 4294967296 ∧
    (∀ w, Calls Tryd.prog 46 #[.int .u32 (x : Int), .int .u64 7] w fun e w' => e = .returned (.int .u32 (y1 : Int)) ∧ w = w') ∧
    (∀ w, Calls Tryd.prog 46 #[.int .u32 (x : Int), .int .u64 18] w fun e w' => e = .returned (.int .u32 (y2 : Int)) ∧ w = w') ∧
    bits .xor .u32 (y1 : Int) (y2 : Int) = (y3 : Int) ∧ bits .xor .u32 (y3 : Int) ((x : Int) / 8) = (y4 : Int) ∧ Hid (y4 = far x) ∧ y4 < 4294967296 := by
  have l1 := rot_lt hx 7
  have l2 := rot_lt hx 18
  have hd : x / 8 < 4294967296 := Nat.lt_of_le_of_lt (Nat.div_le_self _ _) hx
  exact ⟨_, _, _, _, l1, l2, turn_any x 7 _ hx (by simp [Rn]) rfl, turn_any x 18 _ hx (by simp [Rn]) rfl, u32_xor_nat _ _ l1 l2,
    by rw [show (x : Int) / 8 = ((x / 8 : Nat) : Int) by omega]; exact u32_xor_nat _ _ (xor_lt l1 l2) hd, rfl, xor_lt (xor_lt l1 l2) hd⟩
def lenV : Value → Nat
  | .slice _ n _ => n
  | _ => 0
theorem or_lt' {a b : Nat} (ha : a < 4294967296) (hb : b < 4294967296) : a ||| b < 4294967296 := Nat.or_lt_two_pow (n := 32) ha hb
/-- What a round's two choices are, as the document spells them. -/
theorem chV {x4 x5 x6 : Nat} (h4 : x4 < 4294967296) (h5 : x5 < 4294967296) (h6 : x6 < 4294967296) : ∃ p1 n p2 c : Nat,
    bits .and .u32 (x4 : Int) (x5 : Int) = (p1 : Int) ∧ (4294967295 : Int) - (x4 : Int) = (n : Int) ∧ bits .and .u32 (n : Int) (x6 : Int) = (p2 : Int) ∧ bits .or .u32 (p1 : Int) (p2 : Int) = (c : Int) ∧ n < 4294967296 ∧ c < 4294967296 ∧
    Hid (c = (x4 &&& x5) ^^^ ((4294967295 - x4) &&& x6)) := by
  refine ⟨x4 &&& x5, 4294967295 - x4, (4294967295 - x4) &&& x6, _, u32_and_nat _ _ h4 h5, by omega, u32_and_nat _ _ (by omega) h6, u32_or_nat _ _ (and_lt h5) (and_lt h6), by omega, or_lt' (and_lt h5) (and_lt h6), ch_eq _ _ _ h4⟩
theorem majV {x0 x1 x2 : Nat} (h0 : x0 < 4294967296) (h1 : x1 < 4294967296) (h2 : x2 < 4294967296) : ∃ p1 p2 p3 p4 c : Nat,
    bits .and .u32 (x0 : Int) (x1 : Int) = (p1 : Int) ∧ bits .and .u32 (x0 : Int) (x2 : Int) = (p2 : Int) ∧ bits .or .u32 (p1 : Int) (p2 : Int) = (p3 : Int) ∧ bits .and .u32 (x1 : Int) (x2 : Int) = (p4 : Int) ∧ bits .or .u32 (p3 : Int) (p4 : Int) = (c : Int) ∧ c < 4294967296 ∧
    Hid (c = (x0 &&& x1) ^^^ (x0 &&& x2) ^^^ (x1 &&& x2)) := by
  refine ⟨_, _, _, _, _, u32_and_nat _ _ h0 h1, u32_and_nat _ _ h0 h2, u32_or_nat _ _ (and_lt h1) (and_lt h2), u32_and_nat _ _ h1 h2, u32_or_nat _ _ (or_lt' (and_lt h1) (and_lt h2)) (and_lt h2), or_lt' (or_lt' (and_lt h1) (and_lt h2)) (and_lt h2), maj_eq _ _ _⟩
theorem wrap_add (a b : Nat) : IntKind.u32.wrap ((a : Int) + (b : Int)) = (((a + b) % 4294967296 : Nat) : Int) := by rw [IntKind.wrap_u32, Int.natCast_emod, Int.natCast_add]; rfl
theorem oneV {x4 x7 c k w : Nat} (h4 : x4 < 4294967296) : ∃ y1 y2 y3 z1 z2 a1 a2 a3 o : Nat,
    (∀ w, Calls Tryd.prog 46 #[.int .u32 (x4 : Int), .int .u64 6] w fun e w' => e = .returned (.int .u32 (y1 : Int)) ∧ w = w') ∧
    (∀ w, Calls Tryd.prog 46 #[.int .u32 (x4 : Int), .int .u64 11] w fun e w' => e = .returned (.int .u32 (y2 : Int)) ∧ w = w') ∧
    (∀ w, Calls Tryd.prog 46 #[.int .u32 (x4 : Int), .int .u64 25] w fun e w' => e = .returned (.int .u32 (y3 : Int)) ∧ w = w') ∧
    bits .xor .u32 (y1 : Int) (y2 : Int) = (z1 : Int) ∧ bits .xor .u32 (z1 : Int) (y3 : Int) = (z2 : Int) ∧
    IntKind.u32.wrap ((x7 : Int) + (z2 : Int)) = (a1 : Int) ∧ IntKind.u32.wrap ((a1 : Int) + (c : Int)) = (a2 : Int) ∧ IntKind.u32.wrap ((a2 : Int) + (k : Int)) = (a3 : Int) ∧ IntKind.u32.wrap ((a3 : Int) + (w : Int)) = (o : Int) ∧ o < 4294967296 ∧
    Hid (o = (x7 + sp x4 6 11 25 + c + k + w) % 4294967296) := by
  have l1 := rot_lt h4 6
  have l2 := rot_lt h4 11
  have l3 := rot_lt h4 25
  refine ⟨_, _, _, _, _, _, _, _, _, turn_any x4 6 _ h4 (by simp [Rn]) rfl, turn_any x4 11 _ h4 (by simp [Rn]) rfl, turn_any x4 25 _ h4 (by simp [Rn]) rfl, u32_xor_nat _ _ l1 l2, u32_xor_nat _ _ (xor_lt l1 l2) l3, wrap_add _ _, wrap_add _ _, wrap_add _ _, wrap_add _ _, Nat.mod_lt _ (by decide), ?_⟩
  show _ = _
  unfold sp
  omega
theorem twoV {x0 c : Nat} (h0 : x0 < 4294967296) : ∃ y1 y2 y3 z1 z2 o : Nat,
    (∀ w, Calls Tryd.prog 46 #[.int .u32 (x0 : Int), .int .u64 2] w fun e w' => e = .returned (.int .u32 (y1 : Int)) ∧ w = w') ∧
    (∀ w, Calls Tryd.prog 46 #[.int .u32 (x0 : Int), .int .u64 13] w fun e w' => e = .returned (.int .u32 (y2 : Int)) ∧ w = w') ∧
    (∀ w, Calls Tryd.prog 46 #[.int .u32 (x0 : Int), .int .u64 22] w fun e w' => e = .returned (.int .u32 (y3 : Int)) ∧ w = w') ∧
    bits .xor .u32 (y1 : Int) (y2 : Int) = (z1 : Int) ∧ bits .xor .u32 (z1 : Int) (y3 : Int) = (z2 : Int) ∧
    IntKind.u32.wrap ((z2 : Int) + (c : Int)) = (o : Int) ∧ o < 4294967296 ∧
    Hid (o = (sp x0 2 13 22 + c) % 4294967296) := by
  have l1 := rot_lt h0 2
  have l2 := rot_lt h0 13
  have l3 := rot_lt h0 22
  refine ⟨_, _, _, _, _, _, turn_any x0 2 _ h0 (by simp [Rn]) rfl, turn_any x0 13 _ h0 (by simp [Rn]) rfl, turn_any x0 22 _ h0 (by simp [Rn]) rfl, u32_xor_nat _ _ l1 l2, u32_xor_nat _ _ (xor_lt l1 l2) l3, wrap_add _ _, Nat.mod_lt _ (by decide), ?_⟩
  show _ = _
  unfold sp
  rfl
theorem wst_at {W V : World} {g i x : Nat} {t : TypeId} {l : List Nat} (h : Hid (WSt W V g t l)) (hx : l[i]? = some x) : V.cell? ⟨g, i, none⟩ = some (.int .u32 (x : Int)) := by
  have c := h.out.1.cell i
  rw [U_get, hx] at c
  exact c
theorem wst_grow {W V V' : World} {g : Nat} {t : TypeId} {l : List Nat} (h : Hid (WSt W V g t l)) (k : Below V.heap.size V V') : Hid (WSt W V' g t l) :=
  ⟨h.out.1.below k h.out.1.lt, h.out.2.trans (k.mono (Nat.le_of_lt h.out.1.lt))⟩
theorem wst_setRow {W V : World} {g : Nat} {t : TypeId} {l : List Nat} (h : Hid (WSt W V g t l)) (m : List Nat) : Hid (WSt W (V.setRow g (U m)) g t m) :=
  ⟨setRow_heap V g _ _ _ _ h.out.1, below_setRow h.out.2 (Nat.le_refl _) _⟩
theorem addW_comm (s t : List Nat) : addW s t = addW t s := by
  unfold addW
  rw [List.zipWith_comm]
  congr 1
  funext x y
  rw [Nat.add_comm]
end Go.Proofs.YtmbgjijajakgeaaDoor.Sha
