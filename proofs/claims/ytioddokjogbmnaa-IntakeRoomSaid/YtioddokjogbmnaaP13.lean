/-
  Of the texts InRo: what the laws reach.
-/
import Derived.Test.YtioddokjogbmnaaP10

set_option linter.unusedVariables false
set_option linter.unusedSimpArgs false
set_option maxRecDepth 20000
namespace Go.Proofs.Ytioddokjogbmnaa.In
open Go.ChangeShapes Go.WideShapes Go.ChangeAt Go.RowKit Go.Deep Go.Proofs.Ytioddokjogbmnaa.Words Go.Proofs.Ytioddokjogbmnaa.Oct Go.Proofs.Ytioddokjogbmnaa.Par Go.Proofs.Ytioddokjogbmnaa.Chk
def zl (k : Nat) : List UInt8 := List.replicate k 0
theorem zl_len (k : Nat) : (zl k).length = k := List.length_replicate ..
abbrev roA (st tn k gb : Nat) : Array Value := ckArr (inC 64 false false st tn (zl k)) nilV nilV nilV nilV (.slice (some ⟨gb, 0, none⟩) k k)
theorem roA_one (st tn k gb : Nat) : (roA st tn k gb).all (·.oneCell') = true := by simp [roA, ckArr, Value.oneCell']
theorem built_ro (st tn k gb : Nat) {e e6 : Int} (h : e = (tn : Int)) (h6 : e6 = (st : Int)) : Try.prog.built 41 [(0, .int .u8 64), (5, .int .u32 e), (1, .bool true), (6, .int .u16 e6), (18, .slice (some ⟨gb, 0, none⟩) k k)] = some (roA st tn k gb) := by subst h h6; kernel_rfl
theorem wpList_build_r {P : Program} {ops : Array Oper} {rest : List Oper} {o : Oper} {a : Act} {w : World} {Q : Exit → Act → World → Prop} (hg : o.guard = none) (t : TypeId) {x0 x5 x1 x6 x18 : Operand} (ho : o.op = .build t #[(0, x0), (5, x5), (1, x1), (6, x6), (18, x18)]) (v0 v5 v1 v6 v18 : Value)
    (h0 : a.eval x0 = v0) (h5 : a.eval x5 = v5) (h1 : a.eval x1 = v1) (h6 : a.eval x6 = v6) (h18 : a.eval x18 = v18) (cells : Array Value)
    (hf : P.built t [(0, v0), (5, v5), (1, v1), (6, v6), (18, v18)] = some cells) (h : wpList P ops Q rest (a.put o.dst (.agg cells)) w) : wpList P ops Q (o :: rest) a w := by
  subst h0 h5 h1 h6 h18
  exact wpList_build_as hg t _ ho cells (by simpa using hf) h
theorem byt_zeros (V : World) (k : Nat) (hk : k ≤ 1000000) : Byt (V.alloc (.cells (madeCells #[.int .u8 0] k) 5)) (V.alloc (.cells (madeCells #[.int .u8 0] k) 5)).heap.size (some ⟨V.heap.size, 0, none⟩) (zl k) := by
  have h := own_zeros V 0 k 5 (Nat.zero_le _) (by unfold maxLen; omega)
  have h2 := Reads.of_own h
  unfold Byt
  rw [zl_len]
  exact h2
def RoS (R : World → (Nat → Prop) → Nat → Bool → IS → Prop) (w : World) (p i h : Nat) (V : World) : Prop :=
  ∃ G s K, I1 R w V G p true s ∧ Tr 0 K s ∧ (∀ y, K y = true → y ≤ i + 1) ∧ K 1 = false ∧ Jo.held s.js = h ∧ (∀ q ∈ s.js.pcs, q.en = false ∧ q.st < i) ∧ s.js.wait = [] ∧ ∀ st, s.js.next st = 0
section
variable {R : World → (Nat → Prop) → Nat → Bool → IS → Prop} {w V V' : World} {p i h k : Nat}
theorem RoS.bel (k : RoS R w p i h V) : Below w.heap.size w V := by obtain ⟨G, s, K, h, _⟩ := k; exact h.bel
theorem RoS.grows (I : InI R) (k : RoS R w p i h V) (hb : Below V.heap.size V V') : RoS R w p i h V' := by
  obtain ⟨G, s, K, h1, h2⟩ := k
  exact ⟨G, s, K, h1.grows I hb, h2⟩
theorem adr0 {x : Nat} (h : x < 4294967296) : Span.adr 0 x = (x : Int) := by unfold Span.adr; omega
theorem RoS.give (I : InI R) {G : Nat → Prop} {s : IS} {st tn : Nat} (h1 : I1 R w V G p true s) (hb : Below V.heap.size V V') (hk : 1 ≤ k ∧ k ≤ 61000) (hh : Jo.held s.js ≤ 200000) (hs : st < 65536) (ht : tn < 4294967296) (hy : Byt V' V'.heap.size (some ⟨V.heap.size, 0, none⟩) (zl k)) :
    Calls Try.prog 23 #[jptr p, .agg (roA st tn k V.heap.size)] V' fun e w' => ∃ (n : Int) (s' : IS) (G' : Nat → Prop), e = .returned (.int .i64 n) ∧ Hid (I1 R w w' G' p true s') ∧ Hid (DataR true s (tn : Int) (pcOf true (inC 64 false false st tn (zl k))) n s') := by
  have hl := zl_len k
  have hne : zl k ≠ [] := fun e => by rw [e] at hl; simp at hl; omega
  have h3 := h1.give I (kd := 64) (en := false) (lo := false) (st := st) (tn := tn) (b := zl k) (cp := k) hb (Nat.le_refl _) hy (by rw [hl]; exact Nat.le_refl _) (by omega) rfl hs ht hne (by rw [hl]; omega)
  have e : inA 64 false false st tn (zl k) V.heap.size k = roA st tn k V.heap.size := by unfold inA roA; rw [hl]
  rw [e] at h3
  exact h3.mono (fun e w' ⟨n, s', G', h1, h2, h3, _⟩ => ⟨n, s', G', h1, h2, h3⟩)
/-- One fragment comes. -/
theorem RoS.put (I : InI R) (hr : RoS R w p i h V) (hi : i < 200) (hk : 1 ≤ k ∧ k ≤ 61000) (hh : h ≤ 131072) (hb : Below V.heap.size V V') (hy : Byt V' V'.heap.size (some ⟨V.heap.size, 0, none⟩) (zl k)) :
    Calls Try.prog 23 #[jptr p, .agg (roA i (i + 2) k V.heap.size)] V' fun e w' =>
      (e = .returned (.int .i64 0) ∧ Hid (h + k ≤ 131072) ∧ Hid (RoS R w p (i + 1) (h + k) w')) ∨ (e = .returned (.int .i64 2) ∧ Hid (131072 < h + k) ∧ Hid (RoS R w p (i + 1) h w')) := by
  obtain ⟨G, s, K, h1, h2, h3, h4, h5, h6, h7, h8⟩ := hr
  refine (RoS.give I (st := i) (tn := i + 2) h1 hb hk (by omega) (by omega) (by omega) hy).mono ?_
  rintro e w' ⟨n, s', G', rfl, g1, g2⟩
  have g2 := g2.out
  rw [← adr0 (x := i + 2) (by omega)] at g2
  have hbl : (pcOf true (inC 64 false false i (i + 2) (zl k))).body.length = k := zl_len k
  rcases h2.data (T := 4000) (by omega) (fun y hy => by have := h3 y hy; omega) (by omega) (x := i + 2) (by omega) g2 with ⟨e1, _⟩ | ⟨_, rfl, rfl, e1, _⟩ | ⟨e1, rfl, e2, e3, e4, r, e5⟩
  · have := h3 _ e1; omega
  · rw [hbl] at e1
    exact .inr ⟨rfl, (by show 131072 < _; omega), G', _, K, g1.out, h2, fun y hy => by have := h3 y hy; omega, h4, h5, fun q hq => ⟨(h6 q hq).1, by have := (h6 q hq).2; omega⟩, h7, h8⟩
  · have hfit : h + k ≤ 131072 := by
      rcases e4 with e4 | e4
      · rw [hbl] at e4; omega
      · have := e4 1 (by omega)
        rw [h4] at this; cases this
    have hne : (pcOf true (inC 64 false false i (i + 2) (zl k))).body ≠ [] := fun e => by rw [e] at hbl; simp at hbl; omega
    obtain ⟨_, b1, b2⟩ := e5.begin_ rfl rfl rfl hne rfl rfl (h8 _) h7 (fun q hq => ⟨(h6 q hq).1, by have := (h6 q hq).2; show q.st ≠ i; omega⟩)
    have hheld := Jo.PutR.begin_held b1 b2
    rw [hbl] at hheld
    refine .inl ⟨rfl, hfit, G', s', one K (i + 2), g1.out, e2, one_le (fun y hy => by have := h3 y hy; omega) (by omega), ?_, by omega, fun q hq => ?_, ?_, fun st => by rw [b2.next]; exact h8 st⟩
    · unfold one
      rw [h4]
      simp
    · rcases List.mem_cons.1 (b1.mem_iff.1 hq) with e | e
      · rw [e]; exact ⟨rfl, Nat.lt_succ_self i⟩
      · exact ⟨(h6 q e).1, by have := (h6 q e).2; omega⟩
    · have := b2.wait
      rw [h7] at this
      exact this.eq_nil
theorem RoS.sack (I : InI R) (hr : RoS R w p i h V) :
    Calls Try.prog 25 #[jptr p] V fun e w' => ∃ (cs : Array Value) (c : Ck), e = .returned (.agg cs) ∧ Hid (CkAt w' w'.heap.size cs c) ∧ Hid (c.win = 131072 - h) ∧ Hid (RoS R w p i h w') := by
  obtain ⟨G, s, K, h1, h2, h3, h4, h5, h6, h7, h8⟩ := hr
  refine (h1.sack I).mono ?_
  rintro e w' ⟨cs, c, G', rfl, g1, _, g2, _, _, g3, _⟩
  exact ⟨cs, c, rfl, g1, by show _ = _; rw [g2.out, h5], G', _, K, g3.out, h2.same rfl rfl, h3, h4, h5, h6, h7, h8⟩
/-- The one right behind the mark. -/
theorem RoS.last (I : InI R) (hr : RoS R w p i h V) (hi : i ≤ 200) (hk : 1 ≤ k ∧ k ≤ 61000) (hh : h ≤ 131072) (hb : Below V.heap.size V V') (hy : Byt V' V'.heap.size (some ⟨V.heap.size, 0, none⟩) (zl k)) :
    Calls Try.prog 23 #[jptr p, .agg (roA 999 1 k V.heap.size)] V' fun e w' => e = .returned (.int .i64 0) ∧ Hid (Below w.heap.size w w') := by
  obtain ⟨G, s, K, h1, h2, h3, h4, h5, h6, h7, h8⟩ := hr
  refine (RoS.give I (st := 999) (tn := 1) h1 hb hk (by omega) (by omega) (by omega) hy).mono ?_
  rintro e w' ⟨n, s', G', rfl, g1, g2⟩
  have g2 : DataR true s (((1 : Nat) : Int)) _ n s' := g2.out
  rw [← adr0 (x := 1) (by omega)] at g2
  rcases h2.data (T := 4000) (by omega) (fun y hy => by have := h3 y hy; omega) (by omega) (x := 1) (by omega) g2 with ⟨e1, _⟩ | ⟨_, _, _, _, y, hy1, hy2⟩ | ⟨e1, rfl, _⟩
  · rw [h4] at e1; cases e1
  · obtain rfl : y = 0 := by omega
    rw [h2.zero] at hy2; cases hy2
  · exact ⟨rfl, g1.out.bel⟩
theorem RoS.new (I : InI R) {G : Nat → Prop} (h : I1 R w V G p true ⟨0, [], js0, []⟩) : RoS R w p 0 0 V :=
  ⟨G, _, _, h, Tr.new (by omega) js0 [], fun y hy => by have := of_decide_eq_true hy; omega, rfl, rfl, fun q hq => by simp [js0] at hq, rfl, fun _ => rfl⟩
end
end Go.Proofs.Ytioddokjogbmnaa.In
