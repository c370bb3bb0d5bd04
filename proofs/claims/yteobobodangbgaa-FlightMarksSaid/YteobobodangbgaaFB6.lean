/-
  Of the texts FlMw: what the laws reach.
-/
import Derived.Test.YteobobodangbgaaFB5

set_option linter.unusedVariables false
set_option linter.unusedSimpArgs false
set_option maxRecDepth 20000
namespace Go.Proofs.Yteobobodangbgaa.Fl
open Go.ChangeShapes Go.WideShapes Go.ChangeAt Go.RowKit Go.Deep Go.Proofs.Yteobobodangbgaa.Words Go.Proofs.Yteobobodangbgaa.Oct Go.Proofs.Yteobobodangbgaa.Par Go.Proofs.Yteobobodangbgaa.Chk
def zlF (k : Nat) : List UInt8 := List.replicate k 0
theorem zlF_len (k : Nat) : (zlF k).length = k := List.length_replicate ..
theorem byt_zerosF (V : World) (k : Nat) (hk : k ≤ 1000000) : Byt (V.alloc (.cells (madeCells #[.int .u8 0] k) 5)) (V.alloc (.cells (madeCells #[.int .u8 0] k) 5)).heap.size (some ⟨V.heap.size, 0, none⟩) (zlF k) := by
  have h := own_zeros V 0 k 5 (Nat.zero_le _) (by unfold maxLen; omega)
  have h2 := Reads.of_own h
  unfold Byt
  rw [zlF_len]
  exact h2
/-- A Sack as the law draws it. -/
def skK (T : Nat) (gs : List Gp) : Ck := { zeroC 3 with tsn := T, gaps := gs }
theorem skK_ok {T : Nat} {gs : List Gp} (hT : T < 4294967296) (hg : ∀ g ∈ gs, g.1 < 65536 ∧ g.2 < 65536) : (skK T gs).ok :=
  ⟨by show 3 < 256; omega, hT, by show 0 < _; omega, by show 0 < _; omega, by show 0 < _; omega, by show 0 < _; omega, by show 0 < _; omega, by show 0 < _; omega, by show 0 < _; omega, by show 0 < _; omega, hg, fun _ h => by simp [skK, zeroC] at h, fun _ h => by simp [skK, zeroC] at h, fun _ h => by simp [skK, zeroC] at h⟩
theorem built_sk (T : Nat) : Try.prog.built 35 [(0, .int .u8 3), (5, .int .u32 (T : Int))] = some (ckArr (skK T []) nilV nilV nilV nilV nilV) := by kernel_rfl
theorem skK_one (T : Nat) (gs gs' : List Gp) : (ckArr (skK T gs) nilV nilV nilV nilV nilV).all (·.oneCell') = true := by simp [ckArr, Value.oneCell']
/-- The pairs that came in. -/
theorem prs_of {w : World} {A : Option Addr} {n c : Nat} (h : Sees w (.slice (.arr 2 (.int .u8))) [.slice A n c]) : n ≤ 9223372036854775807 ∧ ∀ {V : World}, Below w.heap.size w V → ∀ i, i < n → ∃ (ad : Addr) (x y : Nat), A = some ad ∧ x < 256 ∧ y < 256 ∧ ∀ j u, (#[Value.int .u8 (x : Int), .int .u8 (y : Int)] : Array Value)[j]? = some u → V.cell? ((ad.add (i * 2)).add j) = some u := by
  obtain ⟨A', l, cp, e, h1, h2, h3⟩ := h.elems
  injection e with e1 e2 e3
  subst e1 e2 e3
  refine ⟨by omega, fun {V} hb i hi => ?_⟩
  obtain ⟨a, cs', hA, hl, hc, hs⟩ := h3 i hi
  obtain ⟨_, hs⟩ := hs
  match cs', hl with
  | [p, q], _ =>
    obtain ⟨x, hx, hx2⟩ := hs 0 (by omega)
    obtain ⟨y, hy, hy2⟩ := hs 1 (by omega)
    have hx : p = .int .u8 x := by simpa [Sh.size] using hx
    have hy : q = .int .u8 y := by simpa [Sh.size] using hy
    have bx := bounds_u8 hx2
    have by_ := bounds_u8 hy2
    refine ⟨a, x.toNat, y.toNat, hA, by omega, by omega, fun j u hu => ?_⟩
    have hq : ([p, q] : List Value)[j]? = some u := by
      rw [hx, hy]
      rw [show ((x.toNat : Nat) : Int) = x by omega, show ((y.toNat : Nat) : Int) = y by omega] at hu
      simpa using hu
    have h9 := hc j u hq
    rw [add_of_add]
    exact (hb.cell (World.block_lt_of_cell? w _ h9)).trans h9
section
variable {st n u b x y T : Nat} {s : FS}
theorem MkS.nil (h : st < 4294967296) : MkS st 0 0 0 (fs0 st) := ⟨rfl, Nat.le_refl _, rfl, fun q hq => (by cases hq), rfl⟩
theorem MkS.snoc (h : MkS st n 0 b s) {m : Int} {lk ln now : Nat} {c : Ck} {k : Nat} (hk : c.body.length = k) (h1 : 1 ≤ k) : MkS st (n + 1) 0 (b + k) (s.send m lk ln c now) := by
  refine ⟨h.mark, Nat.zero_le _, ?_, fun q hq => ?_, ?_⟩
  · show (s.ps ++ [_]).length = _
    rw [List.length_append, h.len]
    rfl
  · change q ∈ s.ps ++ [_] at hq
    rcases List.mem_append.1 hq with hq | hq
    · exact h.ok q hq
    · rw [List.mem_singleton.1 hq]
      exact ⟨.inl rfl, fun _ => by show 1 ≤ c.body.length; omega⟩
  · show ((s.ps ++ [_]).map lbP).sum = _
    rw [List.map_append, List.sum_append]
    have h2 : (s.ps.map lbP).sum = b := h.lb
    rw [h2, ← hk]
    simp [lbP]
def gsY (y : Nat) : List Gp := if 2 ≤ y then [(y, y + y % 3)] else []
theorem gsY_ok (hy : y < 256) : ∀ g ∈ gsY y, g.1 < 65536 ∧ g.2 < 65536 := fun g hg => by
  unfold gsY at hg
  split at hg
  · rw [List.mem_singleton.1 hg]
    exact ⟨by show y < _; omega, by show y + y % 3 < _; omega⟩
  · cases hg
theorem MkS.dist (h : MkS st n u b s) (hn : n ≤ 40) (hx : x < 256) (hT : T = (st + 4294967295 + x) % 4294967296) {D : Nat} (hD : D = (x + 4294967296 - u) % 4294967296) : distN s.mark T = D := by
  have h1 := h.mark
  have h2 := h.un
  generalize s.mark = M at *
  unfold distN
  omega
theorem MkS.inB (h : MkS st n u b s) (hn : n ≤ 40) (hx : x < 256) (hT : T = (st + 4294967295 + x) % 4294967296) {D : Nat} (hD : D = (x + 4294967296 - u) % 4294967296) : Ser.inB (T : Int) (s.mark : Int) (s.last : Int) = decide (D ≤ n - u) := by
  have h1 := h.mark
  have h2 := h.un
  have h3 : s.last = (s.mark + (n - u)) % 4294967296 := by unfold FS.last; rw [h.len]
  generalize s.last = L at *
  generalize s.mark = M at *
  unfold Ser.inB Ser.dist
  have e1 : ((T : Int) - (M : Int)) % 4294967296 = (D : Int) := by omega
  have e2 : ((L : Int) - (M : Int)) % 4294967296 = ((n - u : Nat) : Int) := by omega
  rw [e1, e2]
  apply Bool.eq_iff_iff.2
  simp only [decide_eq_true_eq]
  omega
theorem MkS.far (h : MkS st n u b s) (hn : n ≤ 40) (hx : x < 256) (hT : T = (st + 4294967295 + x) % 4294967296) {D : Nat} (hD : D = (x + 4294967296 - u) % 4294967296) (hd : D ≤ n - u) : distN T s.last = n - x ∧ x ≤ n := by
  have h1 := h.mark
  have h2 := h.un
  have h3 : s.last = (s.mark + (n - u)) % 4294967296 := by unfold FS.last; rw [h.len]
  generalize s.last = L at *
  generalize s.mark = M at *
  have h5 : x ≤ n := by omega
  refine ⟨?_, h5⟩
  unfold distN
  omega
theorem gapsOk_nil (far l : Nat) : gapsOk far l [] = true := rfl
theorem gapsOk_one (far l : Nat) (g : Gp) : gapsOk far l [g] = (decide (l ≤ g.1 ∧ g.1 ≤ g.2 ∧ g.2 ≤ far) && true) := rfl
theorem MkS.sound (h : MkS st n u b s) (hn : n ≤ 40) (hx : x < 256) (hT : T = (st + 4294967295 + x) % 4294967296) {D : Nat} (hD : D = (x + 4294967296 - u) % 4294967296) :
    Fl.sound s (skK T (gsY y)) = decide (D ≤ n - u ∧ (2 ≤ y → x + (y + y % 3) ≤ n)) := by
  have h1 := h.inB hn hx hT hD
  have e : Fl.sound s (skK T (gsY y)) = (decide ((3 : Nat) = 3) && (Ser.inB (T : Int) (s.mark : Int) (s.last : Int) && gapsOk (distN T s.last) 2 (gsY y))) := rfl
  rw [e, h1, decide_eq_true (rfl : (3 : Nat) = 3), Bool.true_and]
  by_cases hd : D ≤ n - u
  · obtain ⟨h2, h3⟩ := h.far hn hx hT hD hd
    rw [h2, decide_eq_true hd, Bool.true_and]
    unfold gsY
    by_cases hy : 2 ≤ y
    · rw [if_pos hy, gapsOk_one, Bool.and_true]
      apply Bool.eq_iff_iff.2
      simp only [decide_eq_true_eq]
      omega
    · rw [if_neg hy, gapsOk_nil, decide_eq_true]
      exact ⟨hd, fun e => absurd e hy⟩
  · rw [decide_eq_false hd, Bool.false_and, decide_eq_false (fun e => hd e.1)]
/-- One Sack, as the law looks at it. -/
structure MkR (st n u b D x y : Nat) (s s' : FS) (a : Ak) (u' b' : Nat) : Prop where
  st : MkS st n u' b' s'
  le : u ≤ u'
  by_ : b' + a.bytes = b
  left : s'.left ≤ s.left
  bad : a.bad = true → s' = s ∧ a.bytes = 0 ∧ u' = u ∧ b' = b
  ans : a.bad = !decide (D ≤ n - u ∧ (2 ≤ y → x + (y + y % 3) ≤ n))
theorem MkS.step (h : MkS st n u b s) (hn : n ≤ 40) (hx : x < 256) (hT : T = (st + 4294967295 + x) % 4294967296) {D : Nat} (hD : D = (x + 4294967296 - u) % 4294967296) : ∃ u' b', MkR st n u b D x y s (ackF 9 s (skK T (gsY y))).1 (ackF 9 s (skK T (gsY y))).2 u' b' := by
  have h1 := h.sound (y := y) hn hx hT hD
  by_cases hs : Fl.sound s (skK T (gsY y)) = true
  · have h2 := h.dist hn hx hT hD
    have h3 : D ≤ n - u ∧ (2 ≤ y → x + (y + y % 3) ≤ n) := by rw [hs] at h1; exact of_decide_eq_true h1.symm
    have h4 : distN s.mark (skK T (gsY y)).tsn = D := h2
    obtain ⟨lb', k1, k2, k3, k4⟩ := h.ack hs (by rw [h4]; exact h3.1)
    rw [h4] at k1
    exact ⟨u + D, lb', k1, Nat.le_add_right _ _, k2, k4, fun e => (by rw [k3] at e; cases e), by rw [k3, decide_eq_true h3]; rfl⟩
  · have hs' : Fl.sound s (skK T (gsY y)) = false := by simpa using hs
    have h2 := mk_bad hs'
    rw [h2]
    rw [hs'] at h1
    exact ⟨u, b, h, Nat.le_refl _, rfl, Nat.le_refl _, fun _ => ⟨rfl, rfl, rfl, rfl⟩, by rw [← h1]; rfl⟩
end
section
variable {R : World → (Nat → Prop) → Nat → FS → Prop} {w V : World} {p : Nat} {S : Nat → Prop} {s : FS}
theorem FV.markB (I : FlI R) (h : FV R w p S s V) : Calls Try.prog 22 #[fptr p] V fun e w' => e = .returned (.int .u32 (s.mark : Int)) ∧ Hid (FV R w p S s w') ∧ Hid (Below V.heap.size V w') := by
  obtain ⟨G, h, hS⟩ := h
  exact (I.mark h.rep).mono (by rintro e w' ⟨rfl, hb⟩; exact ⟨rfl, (FV.same I h hS hb).1, hb⟩)
theorem FV.leftB (I : FlI R) (h : FV R w p S s V) : Calls Try.prog 21 #[fptr p] V fun e w' => e = .returned (.int .i64 (s.left : Int)) ∧ Hid (FV R w p S s w') ∧ Hid (Below V.heap.size V w') := by
  obtain ⟨G, h, hS⟩ := h
  exact (I.left h.rep).mono (by rintro e w' ⟨rfl, hb⟩; exact ⟨rfl, (FV.same I h hS hb).1, hb⟩)
/-- The gap of a Sack in memory. -/
def GpV (V0 V : World) (y : Nat) (v : Value) : Prop := (y < 2 ∧ v = nilV) ∨ (2 ≤ y ∧ ∃ g, v = .slice (some ⟨g, 0, none⟩) 1 1 ∧ V0.heap.size ≤ g ∧ Blk V g 42 #[.int .u16 (y : Int), .int .u16 ((y + y % 3 : Nat) : Int)])
theorem GpV.below {V0 V V' : World} {y : Nat} {v : Value} (h : GpV V0 V y v) (hb : Below V.heap.size V V') : GpV V0 V' y v := by
  rcases h with h | ⟨h1, g, h2, h3, h4⟩
  · exact .inl h
  · exact .inr ⟨h1, g, h2, h3, blk_below h4 hb⟩
theorem GpV.at_ {V0 V : World} {y T : Nat} {v : Value} (h : GpV V0 V y v) (hT : T < 4294967296) (hy : y < 256) : CkAt V V.heap.size (ckArr (skK T (gsY y)) v nilV nilV nilV nilV) (skK T (gsY y)) := by
  have hok := skK_ok hT (gsY_ok hy)
  rcases h with ⟨h1, rfl⟩ | ⟨h1, g, rfl, h3, h4⟩
  · have e : gsY y = [] := by unfold gsY; rw [if_neg (by omega)]
    rw [e] at hok ⊢
    exact ck_gaps (A := none) (n := 0) (cp := 0) hok rfl rfl rfl rfl rfl (Nat.le_refl _) (by omega) Reads.none_
  · have e : gsY y = [(y, y + y % 3)] := by unfold gsY; rw [if_pos h1]
    rw [e] at hok ⊢
    exact ck_gaps hok rfl rfl rfl rfl rfl (Nat.le_refl _) (by omega) ⟨rfl, fun _ => ⟨_, rfl, h4.lt, fun j u hu => by
      rw [h4.cellAdd j, ← Array.getElem?_toList]
      exact hu⟩⟩
theorem GpV.lie {V0 V : World} {y : Nat} {v : Value} (h : GpV V0 V y v) {ad : Addr} {n cp : Nat} (e : v = .slice (some ad) n cp) : V0.heap.size ≤ ad.block ∧ ad.block < V.heap.size := by
  rcases h with ⟨_, rfl⟩ | ⟨_, g, rfl, h3, h4⟩
  · cases e
  · injection e with e _ _
    injection e with e
    rw [← e]
    exact ⟨h3, h4.lt⟩
end
end Go.Proofs.Yteobobodangbgaa.Fl
