/-
  Of the texts Jp1, Jp2, Jp3, Jp4: what the laws reach.
-/
import Derived.Test.YtioddokjogbmnaaP9
import Derived.Test.YtioddokjogbmnaaP19
import Derived.DeepKeys4

set_option linter.unusedVariables false
set_option linter.unusedSimpArgs false
set_option maxRecDepth 20000
namespace Go.Proofs.Ytioddokjogbmnaa.Chk
open Go.ChangeShapes Go.WideShapes Go.ChangeAt Go.RowKit Go.Deep Go.Maps Go.Proofs.Ytioddokjogbmnaa.Words Go.Proofs.Ytioddokjogbmnaa.Oct Go.Proofs.Ytioddokjogbmnaa.Par Go.Proofs.Ytioddokjogbmnaa.Mx
def u32X : KX Try.prog 33 Nat := intKX _ _ .u32 4294967296 Try.underlying33 (by omega) (fun a => by simp [Lit.wf, IntKind.min, IntKind.max, IntKind.bits, IntKind.signed]; omega)
def u16X : KX Try.prog 34 Nat := intKX _ _ .u16 65536 Try.underlying34 (by omega) (fun a => by simp [Lit.wf, IntKind.min, IntKind.max, IntKind.bits, IntKind.signed]; omega)
structure Gk where
  st : Nat
  lo : Bool
  mid : Nat
deriving DecidableEq
def gkV (g : Gk) : Value := .agg #[.int .u16 (g.st : Int), .bool g.lo, .int .u32 (g.mid : Int)]
theorem grp_ble : Nat.ble (79 + 1) Try.prog.types.size = true := by kernel_rfl
theorem grp_row : 79 < Try.prog.types.size := Nat.le_of_ble_eq_true grp_ble
theorem grp_at : Try.prog.keyTypeAt 3 79 = true := by kernel_rfl
theorem grp_key : Try.prog.keyType 79 = true := by kernel_rfl
theorem grp_laid : laidOutB Try.prog = true := by kernel_rfl
theorem grp_law : Keyed Try.prog 79 := Keyed.of_law (deep_law_laid grp_laid (m := 3) (by omega) grp_row grp_at (by rw [Try.underlying79]))
theorem u16_wf {n : Nat} (h : n < 65536) : (Lit.int .u16 (n : Int)).wf = true := by simp [Lit.wf, IntKind.min, IntKind.max, IntKind.bits, IntKind.signed]; omega
theorem u32_wf {n : Nat} (h : n < 4294967296) : (Lit.int .u32 (n : Int)).wf = true := by simp [Lit.wf, IntKind.min, IntKind.max, IntKind.bits, IntKind.signed]; omega
theorem grp_size : ∃ d, Try.prog.types.size = d + 1 := ⟨Try.prog.types.size - 1, by have := grp_row; omega⟩
def gkL (g : Gk) : Lit := .string (keyBytes [.int .u16 (g.st : Int), .bool g.lo, .int .u32 (g.mid : Int)])
theorem grp_of (v : Value) : keyOf Try.prog 79 v = if v.formed Try.prog 79 = true then (Try.prog.keyLits (Try.prog.types.size + 1) 79 v.cells.toList).map fun ls => .string (keyBytes ls) else none := by
  unfold keyOf
  rw [Try.underlying79, grp_key]
  simp
theorem grp_keyOf (g : Gk) (h1 : g.st < 65536) (h2 : g.mid < 4294967296) : keyOf Try.prog 79 (gkV g) = some (gkL g) := by
  obtain ⟨d, hd⟩ := grp_size
  have hc16 : Try.prog.cellsOf 34 = 1 := by kernel_rfl
  have hcb : Try.prog.cellsOf 4 = 1 := by kernel_rfl
  have hc32 : Try.prog.cellsOf 33 = 1 := by kernel_rfl
  have hcg : Try.prog.cellsOf 79 = 3 := by kernel_rfl
  rw [grp_of, if_pos (by simp [gkV, Value.formed, Try.underlying79, hcg]), hd]
  simp [Program.keyLits, gkV, Value.cells, Try.underlying79, Try.underlying34, Try.underlying4, Try.underlying33, hc16, hcb, hc32, hcg, u16_wf h1, u32_wf h2, gkL]
theorem kl_int {P : Program} {d t : Nat} {q : IntKind} (hu : P.underlying t = some (.int q)) {a : Value} {ls : List Lit} (h : P.keyLits (d + 1) t [a] = some ls) : ∃ n, a = .int q n ∧ (Lit.int q n).wf = true ∧ ls = [.int q n] := by
  cases a <;> simp [Program.keyLits, hu] at h
  obtain ⟨⟨rfl, hw⟩, rfl⟩ := h
  exact ⟨_, rfl, hw, rfl⟩
theorem kl_bool {P : Program} {d t : Nat} (hu : P.underlying t = some .bool) {a : Value} {ls : List Lit} (h : P.keyLits (d + 1) t [a] = some ls) : ∃ b, a = .bool b ∧ ls = [.bool b] := by
  cases a <;> simp [Program.keyLits, hu] at h
  exact ⟨_, rfl, h.symm⟩
theorem grp_sur (v : Value) (l : Lit) (h : keyOf Try.prog 79 v = some l) : ∃ g : Gk, (g.st < 65536 ∧ g.mid < 4294967296) ∧ v = gkV g ∧ l = gkL g := by
  obtain ⟨d, hd⟩ := grp_size
  have hc16 : Try.prog.cellsOf 34 = 1 := by kernel_rfl
  have hcb : Try.prog.cellsOf 4 = 1 := by kernel_rfl
  have hc32 : Try.prog.cellsOf 33 = 1 := by kernel_rfl
  have hcg : Try.prog.cellsOf 79 = 3 := by kernel_rfl
  have h0 := h
  rw [grp_of] at h
  split at h
  · rename_i hf
    cases v <;> simp [Value.formed, Try.underlying79, hcg] at hf
    rename_i cs
    obtain ⟨a, b, c, hl⟩ : ∃ a b c, cs.toList = [a, b, c] := by
      have hlen : cs.toList.length = 3 := by simpa using hf
      match cs.toList, hlen with
      | [a, b, c], _ => exact ⟨a, b, c, rfl⟩
    have hcs : cs = #[a, b, c] := by rw [← Array.toArray_toList (xs := cs), hl]
    subst hcs
    rw [hd] at h
    simp only [Program.keyLits, Value.cells, Try.underlying79, hc16, hcb, hc32, hcg] at h
    split at h
    · simp only [List.mapM_cons, List.mapM_nil, List.drop_zero, List.drop_succ_cons, List.take_succ_cons, List.take_zero, List.drop_nil, Option.map_eq_some_iff, Option.bind_eq_some_iff, Option.pure_def, Option.some.injEq, Option.bind_eq_bind] at h
      obtain ⟨ls, ⟨l3, ⟨l1, k1, l2, ⟨m1, k2, m2, ⟨n1, k3, n2, rfl, rfl⟩, rfl⟩, rfl⟩, rfl⟩, rfl⟩ := h
      obtain ⟨x1, rfl, w1, rfl⟩ := kl_int Try.underlying34 k1
      obtain ⟨x2, rfl, rfl⟩ := kl_bool Try.underlying4 k2
      obtain ⟨x3, rfl, w3, rfl⟩ := kl_int Try.underlying33 k3
      simp [Lit.wf, IntKind.min, IntKind.max, IntKind.bits, IntKind.signed] at w1 w3
      refine ⟨⟨x1.toNat, x2, x3.toNat⟩, ⟨by show x1.toNat < _; omega, by show x3.toNat < _; omega⟩, ?_, ?_⟩
      · show _ = Value.agg #[.int .u16 (x1.toNat : Int), .bool x2, .int .u32 (x3.toNat : Int)]
        rw [Int.toNat_of_nonneg w1.1, Int.toNat_of_nonneg w3.1]
      · show _ = Lit.string (keyBytes [.int .u16 (x1.toNat : Int), .bool x2, .int .u32 (x3.toNat : Int)])
        rw [Int.toNat_of_nonneg w1.1, Int.toNat_of_nonneg w3.1]
        rfl
    · simp at h
  · cases h
def gkN (g : Gk) : Nat := (g.st * 2 + (if g.lo = true then 1 else 0)) * 4294967296 + g.mid
def grpX : KX Try.prog 79 Gk where
  enc := gkV
  lit := gkL
  dom g := g.st < 65536 ∧ g.mid < 4294967296
  key g h := grp_keyOf g h.1 h.2
  inj a b ha hb e := by
    have h1 := grp_keyOf a ha.1 ha.2
    have h2 := grp_keyOf b hb.1 hb.2
    rw [e] at h1
    have h3 := grp_law.inj h1 h2
    unfold gkV at h3
    obtain ⟨a1, a2, a3⟩ := a
    obtain ⟨b1, b2, b3⟩ := b
    simp at h3
    obtain ⟨h4, h5, h6⟩ := h3
    rw [h5, show a1 = b1 by omega, show a3 = b3 by omega]
  sur := grp_sur
  law := grp_law
  few l hn hl := by
    have h1 : (l.map gkN).Nodup := List.pairwise_map.2 (List.Pairwise.imp_of_mem (fun {a b} ha hb hne e => hne (by
      have h2 := hl a ha
      have h3 := hl b hb
      obtain ⟨a1, a2, a3⟩ := a
      obtain ⟨b1, b2, b3⟩ := b
      simp only [gkN] at e h2 h3
      have h4 : a3 = b3 := by
        have := congrArg (· % 4294967296) e
        simp only [Nat.mul_add_mod_self_right, Nat.mod_eq_of_lt h2.2, Nat.mod_eq_of_lt h3.2] at this
        exact this
      subst h4
      have h5 : a1 * 2 + (if a2 = true then 1 else 0) = b1 * 2 + (if b2 = true then 1 else 0) := by omega
      cases a2 <;> cases b2 <;> simp at h5 ⊢ <;> omega)) hn)
    have h2 := nodup_lt _ 1125899906842624 h1 (fun x hx => by
      obtain ⟨g, hg, rfl⟩ := List.mem_map.1 hx
      have h3 := hl g hg
      unfold gkN
      have : (g.st * 2 + (if g.lo = true then 1 else 0)) ≤ 131071 := by split <;> omega
      omega)
    simpa using h2
end Go.Proofs.Ytioddokjogbmnaa.Chk

set_option linter.unusedVariables false
set_option linter.unusedSimpArgs false
set_option maxRecDepth 20000
namespace Go.Proofs.Ytioddokjogbmnaa.Chk
open Go.ChangeShapes Go.WideShapes Go.ChangeAt Go.RowKit Go.Deep Go.Maps Go.Proofs.Ytioddokjogbmnaa.Words Go.Proofs.Ytioddokjogbmnaa.Oct Go.Proofs.Ytioddokjogbmnaa.Par Go.Proofs.Ytioddokjogbmnaa.Mx
structure Fg where
  bg : Bool
  en : Bool
  m : Msg
  A : Option Addr
  cp : Nat
abbrev bodyV (x : Fg) : Value := .slice x.A x.m.body.length x.cp
def fgV (x : Fg) : Value := .agg #[.bool x.bg, .bool x.en, .int .u16 (x.m.st : Int), .bool x.m.lo, .int .u32 (x.m.mid : Int), .int .u32 (x.m.pp : Int), bodyV x]
def togB (a b : Msg) : Bool := decide (a.st = b.st) && (decide (a.lo = b.lo) && (a.lo || decide (a.mid = b.mid)))
def folB (L : Nat → Option Fg) (i : Nat) : Bool := match L i, L ((i + 1) % 4294967296) with
  | some a, some b => !a.en && (!b.bg && togB a.m b.m)
  | _, _ => false
/-- A line in memory. -/
def LineAt (w : World) (b : Nat) (L : Nat → Option Fg) : Prop := MapX u32X w b (fun i => (L i).map fgV)
theorem LineAt.lt {w : World} {b : Nat} {L : Nat → Option Fg} (h : LineAt w b L) : b < w.heap.size := MapX.lt h
theorem LineAt.fr {S : Nat → Prop} {w w' : World} {b : Nat} {L : Nat → Option Fg} (h : LineAt w b L) (hf : Fr S w w') (hb : ¬ S b) : LineAt w' b L := MapX.fr h hf hb
theorem frag_zero (w : World) : (zeroValue 85).run Try.prog w = .ok (.agg #[.bool false, .bool false, .int .u16 0, .bool false, .int .u32 0, .int .u32 0, .slice none 0 0]) w := by kernel_rfl
def fg0 : Fg := ⟨false, false, ⟨0, false, 0, 0, []⟩, none, 0⟩
theorem LineAt.look {w : World} {b : Nat} {L : Nat → Option Fg} (h : LineAt w b L) {i : Nat} (hi : i < 4294967296) :
    (Instr.lookup 83 (.map (some b)) (.int .u32 (i : Int)) false).run Try.prog w = .ok (fgV ((L i).getD fg0)) w := by
  have h1 := MapX.look h (t := 83) Try.underlying83 (frag_zero w) (x := i) hi
  have e : (((L i).map fgV).getD (.agg #[.bool false, .bool false, .int .u16 0, .bool false, .int .u32 0, .int .u32 0, .slice none 0 0])) = fgV ((L i).getD fg0) := by cases L i <;> rfl
  rw [e] at h1
  exact h1
theorem LineAt.look_ok {w : World} {b : Nat} {L : Nat → Option Fg} (h : LineAt w b L) {i : Nat} (hi : i < 4294967296) :
    (Instr.lookup 83 (.map (some b)) (.int .u32 (i : Int)) true).run Try.prog w = .ok (.tuple #[fgV ((L i).getD fg0), .bool (L i).isSome]) w := by
  have h1 := MapX.look_ok h (t := 83) Try.underlying83 (frag_zero w) (x := i) hi
  have e : (((L i).map fgV).getD (.agg #[.bool false, .bool false, .int .u16 0, .bool false, .int .u32 0, .int .u32 0, .slice none 0 0])) = fgV ((L i).getD fg0) := by cases L i <;> rfl
  have e2 : ((L i).map fgV).isSome = (L i).isSome := by cases L i <;> rfl
  rw [e, e2] at h1
  exact h1
theorem nat_inj (a b : Nat) : ((a : Int) = (b : Int)) = (a = b) := propext ⟨fun h => by omega, fun h => by omega⟩
theorem nat_beq (a b : Nat) : ((a : Int) == (b : Int)) = decide (a = b) := by
  by_cases h : a = b
  · subst h; simp
  · rw [decide_eq_false h]
    simp
    omega
theorem below_two (w : World) (o o' : Obj) : Below w.heap.size w ((w.alloc o).alloc o') := (below_one w o).alloc (by simp) o'
set_option maxHeartbeats 4000000 in
theorem together_any (w : World) (a b : Msg) (va vb : Value) :
    Calls Try.prog 77 #[.agg (mCells a va), .agg (mCells b vb)] w fun e w' => e = .returned (.bool (togB a b)) ∧ Below w.heap.size w w' := by
  obtain ⟨a1, a2, a3, a4, a5⟩ := a
  obtain ⟨b1, b2, b3, b4, b5⟩ := b
  unfold togB
  simp only [mCells]
  go_enter Try.func77, Try.ntmps77
  go_wp2
  all_goals
    go_ret
    refine ⟨ret_bool ?_, below_two w _ _⟩
    simp_all [nat_beq, nat_inj]
set_option maxHeartbeats 4000000 in
theorem follows_any {w : World} {b : Nat} {L : Nat → Option Fg} (h : LineAt w b L) {i : Nat} (hi : i < 4294967296) :
    Calls Try.prog 57 #[.map (some b), .int .u32 (i : Int)] w fun e w' => e = .returned (.bool (folB L i)) ∧ Below w.heap.size w w' := by
  have h1 := h.look_ok hi
  obtain ⟨i2, hi2⟩ : ∃ i2, i2 = (i + 1) % 4294967296 := ⟨_, rfl⟩
  have hi3 : i2 < 4294967296 := by omega
  obtain ⟨x, hx⟩ : ∃ x, x = (L i).getD fg0 := ⟨_, rfl⟩
  obtain ⟨y, hy⟩ : ∃ y, y = (L i2).getD fg0 := ⟨_, rfl⟩
  obtain ⟨bx, hbx⟩ : ∃ bx, bx = (L i).isSome := ⟨_, rfl⟩
  obtain ⟨b2, hb2⟩ : ∃ b2, b2 = (L i2).isSome := ⟨_, rfl⟩
  rw [← hx, ← hbx] at h1
  have h2 : ∀ (o : Obj), (Instr.lookup 83 (.map (some b)) (.int .u32 (i2 : Int)) true).run Try.prog (w.alloc o) = .ok (.tuple #[fgV y, .bool b2]) (w.alloc o) := fun o => by
    have := (h.fr (Fr.of_below (below_one w o)) (by have := h.lt; omega)).look_ok hi3
    rw [← hy, ← hb2] at this
    exact this
  have hw : ((i : Int) + 1) % 4294967296 = (i2 : Int) := by omega
  have HF : Hid (folB L i = (bx && (b2 && (!x.en && (!y.bg && togB x.m y.m))))) := by
    unfold folB Hid
    rw [← hi2, hbx, hb2, hx, hy]
    cases L i <;> cases L i2 <;> simp
  rw [HF.out]
  clear HF hx hy hbx hb2 h hi2
  obtain ⟨xb, xe, ⟨x1, x2, x3, x4, x5⟩, xA, xc⟩ := x
  obtain ⟨yb, ye, ⟨y1, y2, y3, y4, y5⟩, yA, yc⟩ := y
  simp only [fgV, bodyV] at h1 h2
  go_enter Try.func57, Try.ntmps57
  go_wp2_with fail
  all_goals
    first
    | (go_ret
       refine ⟨ret_bool ?_, below_two w _ _⟩
       simp_all; done)
    | (refine (together_any _ ⟨x1, x2, x3, x4, x5⟩ ⟨y1, y2, y3, y4, y5⟩ _ _).mono ?_
       rintro e w1 ⟨rfl, hb⟩
       go_wp2
       go_ret
       refine ⟨ret_bool ?_, (below_two w _ _).trans (hb.mono (by simp only [World.size_alloc]; omega))⟩
       simp_all)
def up (i q : Nat) : Nat := (i + q) % 4294967296
def dn (i q : Nat) : Nat := (i + (4294967296 - q)) % 4294967296
def bgB (L : Nat → Option Fg) (i : Nat) : Bool := ((L i).getD fg0).bg
def enB (L : Nat → Option Fg) (i : Nat) : Bool := ((L i).getD fg0).en
structure Goes2 (L : Nat → Option Fg) (i a c : Nat) : Prop where
  gd : ∀ q, q < a → folB L (dn i (q + 1)) = true
  gu : ∀ q, q < c → folB L (up i q) = true
structure Chain (L : Nat → Option Fg) (i a c : Nat) : Prop where
  bg : bgB L (dn i a) = true
  en : enB L (up i c) = true
  go : Goes2 L i a c
section
variable {L : Nat → Option Fg} {i a c : Nat}
theorem folB_some {j : Nat} (h : folB L j = true) : ∃ x y, L j = some x ∧ L ((j + 1) % 4294967296) = some y ∧ x.en = false ∧ y.bg = false ∧ togB x.m y.m = true := by
  unfold folB at h
  cases h1 : L j with
  | none => rw [h1] at h; simp at h
  | some x =>
    cases h2 : L ((j + 1) % 4294967296) with
    | none => rw [h1, h2] at h; simp at h
    | some y =>
      rw [h1, h2] at h
      simp at h
      exact ⟨x, y, rfl, rfl, h.1, h.2.1, h.2.2⟩
theorem dn_up {q : Nat} (hq : q + 1 ≤ 4294967296) (hi : i < 4294967296) : (dn i (q + 1) + 1) % 4294967296 = dn i q := by unfold dn; omega
theorem up_up (q : Nat) : (up i q + 1) % 4294967296 = up i (q + 1) := by unfold up; omega
theorem Goes2.zero : Goes2 L i 0 0 := ⟨fun q h => absurd h (by omega), fun q h => absurd h (by omega)⟩
theorem Goes2.down (h : Goes2 L i a c) (hf : folB L (dn i (a + 1)) = true) : Goes2 L i (a + 1) c := ⟨fun q hq => by
  rcases Nat.lt_or_ge q a with h1 | h1
  · exact h.gd q h1
  · rw [show q = a by omega]; exact hf, h.gu⟩
theorem Goes2.upw (h : Goes2 L i a c) (hf : folB L (up i c) = true) : Goes2 L i a (c + 1) := ⟨h.gd, fun q hq => by
  rcases Nat.lt_or_ge q c with h1 | h1
  · exact h.gu q h1
  · rw [show q = c by omega]; exact hf⟩
theorem Goes2.not_bg (h : Goes2 L i a c) (hi : i < 4294967296) (ha : a ≤ 4294967296) {q : Nat} (hq : q < a) : bgB L (dn i q) = false := by
  obtain ⟨x, y, _, h2, _, h4, _⟩ := folB_some (h.gd q hq)
  rw [dn_up (by omega) hi] at h2
  unfold bgB
  rw [h2]
  exact h4
theorem Goes2.not_en (h : Goes2 L i a c) {q : Nat} (hq : q < c) : enB L (up i q) = false := by
  obtain ⟨x, y, h1, _, h3, _⟩ := folB_some (h.gu q hq)
  unfold enB
  rw [h1]
  exact h3
theorem Goes2.no_dn (h : Goes2 L i a c) (hi : i < 4294967296) (ha : a < 4294967296) (hb : bgB L (dn i a) = false) (hf : folB L (dn i (a + 1)) = false) (a' c' : Nat) (ha' : a' < 4294967296) : ¬ Chain L i a' c' := fun k => by
  rcases Nat.lt_trichotomy a' a with h1 | h1 | h1
  · have := h.not_bg hi (by omega) h1
    rw [k.bg] at this; cases this
  · subst h1
    rw [k.bg] at hb; cases hb
  · have := k.go.gd a h1
    rw [hf] at this; cases this
theorem Goes2.no_up (h : Goes2 L i a c) (hb : enB L (up i c) = false) (hf : folB L (up i c) = false) (a' c' : Nat) : ¬ Chain L i a' c' := fun k => by
  rcases Nat.lt_trichotomy c' c with h1 | h1 | h1
  · have := h.not_en h1
    rw [k.en] at this; cases this
  · subst h1
    rw [k.en] at hb; cases hb
  · have := k.go.gu c h1
    rw [hf] at this; cases this
/-- What is there has few places. -/
def FewL (L : Nat → Option Fg) : Prop := ∃ ks : List Nat, ks.length ≤ 2000000000 ∧ ∀ j, j < 4294967296 → L j ≠ none → j ∈ ks
theorem nodup_sub_len (l l' : List Nat) (hn : l.Nodup) (hs : ∀ x ∈ l, x ∈ l') : l.length ≤ l'.length := by
  have h := Jo.sub_sum (fun _ => 1) l l' hn hs
  have e : ∀ l : List Nat, (l.map fun _ => 1).sum = l.length := fun l => by
    induction l with
    | nil => rfl
    | cons x t ih => simp only [List.map_cons, List.sum_cons, List.length_cons, ih]; omega
  rw [e, e] at h
  exact h
theorem range_map_nodup {f : Nat → Nat} {n : Nat} (h : ∀ x y, x < n → y < n → f x = f y → x = y) : ((List.range n).map f).Nodup :=
  List.pairwise_map.2 (List.Pairwise.imp_of_mem (fun {a b} ha hb hne e => hne (h a b (List.mem_range.1 ha) (List.mem_range.1 hb) e)) List.nodup_range)
theorem Goes2.few_dn (h : Goes2 L i a c) (hf : FewL L) (ha : a ≤ 4294967295) : a ≤ 2000000000 := by
  obtain ⟨ks, h1, h2⟩ := hf
  have h3 := nodup_sub_len ((List.range a).map fun q => dn i (q + 1)) ks (range_map_nodup (fun x y hx hy e => by unfold dn at e; omega)) (fun x hx => by
    obtain ⟨q, hq, rfl⟩ := List.mem_map.1 hx
    obtain ⟨x, _, h5, _⟩ := folB_some (h.gd q (List.mem_range.1 hq))
    exact h2 _ (by unfold dn; omega) (by rw [h5]; simp))
  simp at h3
  omega
theorem Goes2.few_up (h : Goes2 L i a c) (hf : FewL L) (hc : c ≤ 4294967295) : c ≤ 2000000000 := by
  obtain ⟨ks, h1, h2⟩ := hf
  have h3 := nodup_sub_len ((List.range c).map fun q => up i q) ks (range_map_nodup (fun x y hx hy e => by unfold up at e; omega)) (fun x hx => by
    obtain ⟨q, hq, rfl⟩ := List.mem_map.1 hx
    obtain ⟨x, _, h5, _⟩ := folB_some (h.gu q (List.mem_range.1 hq))
    exact h2 _ (by unfold up; omega) (by rw [h5]; simp))
  simp at h3
  omega
end
/-- What whole leaves. -/
def WholeDone (L : Nat → Option Fg) (i : Nat) (e : Ending) : Prop :=
  (e = .returned (.tuple #[.int .u32 0, .int .u32 0, .bool false]) ∧ ∀ a c, a ≤ 2000000000 → ¬ Chain L i a c) ∨
  ∃ a c, a ≤ 2000000000 ∧ c ≤ 2000000000 ∧ e = .returned (.tuple #[.int .u32 (dn i a : Int), .int .u32 (up i c : Int), .bool true]) ∧ Chain L i a c
theorem frag_f0 (x : Fg) (w : World) : (Instr.field 85 (fgV x) 0).run Try.prog w = .ok (.bool x.bg) w := by kernel_rfl
theorem frag_f1 (x : Fg) (w : World) : (Instr.field 85 (fgV x) 1).run Try.prog w = .ok (.bool x.en) w := by kernel_rfl
theorem frag_f2 (x : Fg) (w : World) : (Instr.field 85 (fgV x) 2).run Try.prog w = .ok (.agg (mCells x.m (bodyV x))) w := by kernel_rfl
set_option maxHeartbeats 4000000 in
theorem whole_any {w : World} {b : Nat} {L : Nat → Option Fg} (h : LineAt w b L) (hf : FewL L) {i : Nat} (hi : i < 4294967296) :
    Calls Try.prog 33 #[.map (some b), .int .u32 (i : Int)] w fun e w' => WholeDone L i e ∧ Below w.heap.size w w' := by
  have HL := Lib.hid h
  have HF := Lib.hid hf
  have hlt := h.lt
  clear h hf
  have hlk : ∀ W, Below w.heap.size w W → LineAt W b L := fun W hb => HL.out.fr (Fr.of_below hb) (by omega)
  have HLK := Lib.hid hlk
  clear hlk
  go_enter Try.func33, Try.ntmps33
  go_wp2_with fail
  go_loopw [4, 5, 6] (fun v4 v5 v6 wr => ∃ (a c f l : Nat), v4 = .int .u32 (f : Int) ∧ v5 = .int .u32 (l : Int) ∧ v6 = .bool false ∧ a ≤ 2000000000 ∧ c ≤ 2000000000 ∧ f < 4294967296 ∧ l < 4294967296 ∧ Hid (f = dn i a) ∧ Hid (l = up i c) ∧ Hid (Goes2 L i a c) ∧ Hid (Below w.heap.size w wr)) (fun v4 v5 _ _ => 8000000000 - ((i + 4294967296 - (intOf v4).toNat) % 4294967296 + ((intOf v5).toNat + 4294967296 - i) % 4294967296))
  case atStart => exact ⟨0, 0, i, i, rfl, rfl, rfl, by omega, by omega, hi, hi, by unfold dn Hid; omega, by unfold up Hid; omega, Goes2.zero, Below.refl _ _⟩
  case round =>
    obtain ⟨a, c, f, l, rfl, rfl, rfl, ha, hc, hf, hl, HFF, HLL, HG, HB⟩ := hrel
    have kx := (HLK.out wr HB.out).look hf
    have ky := fun W (hb : Below w.heap.size w W) => (HLK.out W hb).look hl
    obtain ⟨X, hX⟩ : ∃ X, X = (L f).getD fg0 := ⟨_, rfl⟩
    obtain ⟨Y, hY⟩ : ∃ Y, Y = (L l).getD fg0 := ⟨_, rfl⟩
    rw [← hX] at kx
    rw [← hY] at ky
    have HXB : Hid (bgB L f = X.bg) := by unfold bgB; rw [← hX]; rfl
    have HYE : Hid (enB L l = Y.en) := by unfold enB; rw [← hY]; rfl
    have ky1 := ky wr HB.out
    clear hX hY
    cases hxb : X.bg
    · have f0 : ∀ W, (Instr.field 85 (fgV X) 0).run Try.prog W = .ok (.bool false) W := fun W => by rw [frag_f0, hxb]
      rw [hxb] at HXB
      clear hxb
      obtain ⟨f', hf'⟩ : ∃ f', f' = dn i (a + 1) := ⟨_, rfl⟩
      have hf2 : f' < 4294967296 := by rw [hf']; unfold dn; omega
      have hwf : ((f : Int) - 1) % 4294967296 = (f' : Int) := by have := HFF.out; rw [hf', this]; unfold dn; omega
      have HF2 := Lib.hid hf'
      clear hf'
      go_wp2_with fail
      refine (follows_any (HLK.out wr HB.out) hf2).mono ?_
      rintro e w1 ⟨rfl, hb1⟩
      have HB1 : Hid (Below w.heap.size w w1) := HB.out.trans (hb1.mono HB.out.size)
      clear hb1
      obtain ⟨t, ht⟩ : ∃ t, t = folB L f' := ⟨_, rfl⟩
      rw [← ht]
      have HT := Lib.hid ht
      clear ht
      cases t
      · go_wp2_with fail
        go_ret3
        exact ⟨.inl ⟨rfl, fun a' c' ha' => HG.out.no_dn hi (by omega) (by rw [← HFF.out]; exact HXB.out) (by rw [← HF2.out]; exact HT.out.symm) a' c' (by omega)⟩, HB1.out⟩
      · have HG1 : Hid (Goes2 L i (a + 1) c) := HG.out.down (by rw [← HF2.out]; exact HT.out.symm)
        have ha1 := HG1.out.few_dn HF.out (by omega)
        have ky2 := ky w1 HB1.out
        clear ky kx ky1
        cases hye : Y.en
        · have f1 : ∀ W, (Instr.field 85 (fgV Y) 1).run Try.prog W = .ok (.bool false) W := fun W => by rw [frag_f1, hye]
          rw [hye] at HYE
          clear hye
          obtain ⟨l', hl'⟩ : ∃ l', l' = up i (c + 1) := ⟨_, rfl⟩
          have hl2 : l' < 4294967296 := by rw [hl']; unfold up; omega
          have hwl : ((l : Int) + 1) % 4294967296 = (l' : Int) := by have := HLL.out; rw [hl', this]; unfold up; omega
          have HL2 := Lib.hid hl'
          clear hl'
          go_wp2_with fail
          refine (follows_any (HLK.out w1 HB1.out) hl).mono ?_
          rintro e w2 ⟨rfl, hb2⟩
          have HB2 : Hid (Below w.heap.size w w2) := (HB1.out).trans (hb2.mono (HB1.out).size)
          clear hb2
          obtain ⟨t2, ht2⟩ : ∃ t2, t2 = folB L l := ⟨_, rfl⟩
          rw [← ht2]
          have HT2 := Lib.hid ht2
          clear ht2
          cases t2
          · go_wp2_with fail
            go_ret3
            exact ⟨.inl ⟨rfl, fun a' c' _ => HG1.out.no_up (by rw [← HLL.out, HYE.out]) (by rw [← HLL.out]; exact HT2.out.symm) a' c'⟩, HB2.out⟩
          · have HG3 : Hid (Goes2 L i (a + 1) (c + 1)) := HG1.out.upw (by rw [← HLL.out]; exact HT2.out.symm)
            have hc3 := HG3.out.few_up HF.out (by omega)
            go_wp2_with fail
            go_roundw
            case rel => exact ⟨(a + 1), c + 1, f', l', by go_num, by go_num, rfl, by omega, by omega, by omega, hl2, HF2, HL2, HG3, HB2⟩
            case measure => have := HFF.out; have := HLL.out; have := HL2.out; have := HF2.out; simp [intOf]; unfold dn up at *; omega
        · have f1 : ∀ W, (Instr.field 85 (fgV Y) 1).run Try.prog W = .ok (.bool true) W := fun W => by rw [frag_f1, hye]
          clear hye
          go_wp2_with fail
          go_roundw
          case rel => exact ⟨a + 1, c, f', l, by go_num, rfl, rfl, by omega, by omega, by omega, hl, HF2, HLL, HG1, HB1⟩
          case measure => have := HFF.out; have := HLL.out; have := HF2.out; simp [intOf]; unfold dn up at *; omega
    · have f0 : ∀ W, (Instr.field 85 (fgV X) 0).run Try.prog W = .ok (.bool true) W := fun W => by rw [frag_f0, hxb]
      rw [hxb] at HXB
      clear hxb ky
      cases hye : Y.en
      · have f1 : ∀ W, (Instr.field 85 (fgV Y) 1).run Try.prog W = .ok (.bool false) W := fun W => by rw [frag_f1, hye]
        rw [hye] at HYE
        clear hye
        obtain ⟨l', hl'⟩ : ∃ l', l' = up i (c + 1) := ⟨_, rfl⟩
        have hl2 : l' < 4294967296 := by rw [hl']; unfold up; omega
        have hwl : ((l : Int) + 1) % 4294967296 = (l' : Int) := by have := HLL.out; rw [hl', this]; unfold up; omega
        have HL2 := Lib.hid hl'
        clear hl'
        go_wp2_with fail
        refine (follows_any (HLK.out wr HB.out) hl).mono ?_
        rintro e w2 ⟨rfl, hb2⟩
        have HB2 : Hid (Below w.heap.size w w2) := (HB.out).trans (hb2.mono (HB.out).size)
        clear hb2
        obtain ⟨t2, ht2⟩ : ∃ t2, t2 = folB L l := ⟨_, rfl⟩
        rw [← ht2]
        have HT2 := Lib.hid ht2
        clear ht2
        cases t2
        · go_wp2_with fail
          go_ret3
          exact ⟨.inl ⟨rfl, fun a' c' _ => HG.out.no_up (by rw [← HLL.out, HYE.out]) (by rw [← HLL.out]; exact HT2.out.symm) a' c'⟩, HB2.out⟩
        · have HG3 : Hid (Goes2 L i a (c + 1)) := HG.out.upw (by rw [← HLL.out]; exact HT2.out.symm)
          have hc3 := HG3.out.few_up HF.out (by omega)
          go_wp2_with fail
          go_roundw
          case rel => exact ⟨a, c + 1, f, l', by go_num, by go_num, rfl, by omega, by omega, by omega, hl2, HFF, HL2, HG3, HB2⟩
          case measure => have := HFF.out; have := HLL.out; have := HL2.out; simp [intOf]; unfold dn up at *; omega
      · have f1 : ∀ W, (Instr.field 85 (fgV Y) 1).run Try.prog W = .ok (.bool true) W := fun W => by rw [frag_f1, hye]
        rw [hye] at HYE
        clear hye
        go_wp2_with fail
        go_ret3
        exact ⟨.inr ⟨a, c, ha, hc, by rw [HFF.out, HLL.out]; rfl, ⟨by rw [← HFF.out]; exact HXB.out, by rw [← HLL.out]; exact HYE.out, HG.out⟩⟩, HB.out⟩
end Go.Proofs.Ytioddokjogbmnaa.Chk

set_option linter.unusedVariables false
set_option linter.unusedSimpArgs false
set_option maxRecDepth 20000
namespace Go.Proofs.Ytioddokjogbmnaa.Chk
open Go.ChangeShapes Go.WideShapes Go.ChangeAt Go.RowKit Go.Deep Go.Maps Go.Proofs.Ytioddokjogbmnaa.Words Go.Proofs.Ytioddokjogbmnaa.Oct Go.Proofs.Ytioddokjogbmnaa.Par Go.Proofs.Ytioddokjogbmnaa.Mx
def pcM (p : Jo.Pc) : Msg := ⟨p.st, p.lo, p.mid, p.pp, p.body⟩
structure Fits (x : Fg) (p : Jo.Pc) : Prop where
  bg : x.bg = p.bg
  en : x.en = p.en
  m : x.m = pcM p
/-- A line holds just these pieces. -/
structure LnOf (idx : Jo.Pc → Nat) (L : Nat → Option Fg) (ps : List Jo.Pc) : Prop where
  has : ∀ p ∈ ps, ∃ x, L (idx p) = some x ∧ Fits x p
  of : ∀ i x, L i = some x → ∃ p ∈ ps, idx p = i
  nd : ps.Pairwise (fun p q => idx p ≠ idx q)
section
variable {idx : Jo.Pc → Nat} {L : Nat → Option Fg} {ps : List Jo.Pc}
theorem pw_inj {idx : Jo.Pc → Nat} : ∀ {ps : List Jo.Pc}, ps.Pairwise (fun p q => idx p ≠ idx q) → ∀ {p q}, p ∈ ps → q ∈ ps → idx p = idx q → p = q
  | [], _, _, _, hp, _, _ => by simp at hp
  | a :: t, h, p, q, hp, hq, e => by
    obtain ⟨h1, h2⟩ := List.pairwise_cons.1 h
    rcases List.mem_cons.1 hp with rfl | hp'
    · rcases List.mem_cons.1 hq with rfl | hq'
      · rfl
      · exact absurd e (h1 q hq')
    · rcases List.mem_cons.1 hq with rfl | hq'
      · exact absurd e.symm (h1 p hp')
      · exact pw_inj h2 hp' hq' e
theorem LnOf.at_ (h : LnOf idx L ps) {i : Nat} {x : Fg} (hx : L i = some x) : ∃ p ∈ ps, idx p = i ∧ Fits x p := by
  obtain ⟨p, hp, rfl⟩ := h.of i x hx
  obtain ⟨y, h1, h2⟩ := h.has p hp
  rw [hx] at h1
  injection h1 with h1
  subst h1
  exact ⟨p, hp, rfl, h2⟩
theorem LnOf.few (h : LnOf idx L ps) (hz : ps.length ≤ 2000000000) : FewL L := ⟨ps.map idx, by simpa using hz, fun j _ hj => by
  cases hx : L j with
  | none => exact absurd hx hj
  | some x =>
    obtain ⟨p, hp, e⟩ := h.of j x hx
    exact List.mem_map.2 ⟨p, hp, e⟩⟩
def ruleI (idx : Jo.Pc → Nat) (ps : List Jo.Pc) (r : Jo.Pc → Bool) (i : Nat) : Bool := ps.any fun p => decide (idx p = i) && r p
theorem ruleI_at (h : ps.Pairwise (fun p q => idx p ≠ idx q)) (r : Jo.Pc → Bool) {p : Jo.Pc} (hp : p ∈ ps) : ruleI idx ps r (idx p) = r p := by
  unfold ruleI
  apply Bool.eq_iff_iff.2
  rw [List.any_eq_true]
  constructor
  · rintro ⟨q, hq, e⟩
    simp at e
    have := pw_inj h hq hp e.1
    rw [← this]; exact e.2
  · intro hr
    exact ⟨p, hp, by simp [hr]⟩
/-- The line as it stands while those that are no longer to come were looked at. -/
def lineF (idx : Jo.Pc → Nat) (ps : List Jo.Pc) (r : Jo.Pc → Bool) (L : Nat → Option Fg) (left : Nat → Bool) (i : Nat) : Option Fg := if ruleI idx ps r i && !left i then none else L i
def cntF (idx : Jo.Pc → Nat) (ps : List Jo.Pc) (r : Jo.Pc → Bool) (left : Nat → Bool) : Nat := Jo.sizeP (ps.filter fun p => r p && !left (idx p))
theorem sizeP_filter_le (q : Jo.Pc → Bool) : ∀ ps : List Jo.Pc, Jo.sizeP (ps.filter q) ≤ Jo.sizeP ps
  | [] => by simp
  | a :: t => by
    have ih := sizeP_filter_le q t
    have e : Jo.sizeP (a :: t) = a.body.length + Jo.sizeP t := by simp [Jo.sizeP]
    cases hq : q a
    · rw [List.filter_cons_of_neg (by rw [hq]; simp), e]; omega
    · rw [List.filter_cons_of_pos hq, e]
      have e2 : Jo.sizeP (a :: t.filter q) = a.body.length + Jo.sizeP (t.filter q) := by simp [Jo.sizeP]
      rw [e2]; omega
theorem size_one {q q' : Jo.Pc → Bool} {a : Jo.Pc} : ∀ {ps : List Jo.Pc}, ps.Pairwise (fun p q => idx p ≠ idx q) → a ∈ ps → q a = false → q' a = true → (∀ p ∈ ps, p ≠ a → q' p = q p) → Jo.sizeP (ps.filter q') = Jo.sizeP (ps.filter q) + a.body.length
  | [], _, ha, _, _, _ => by simp at ha
  | b :: t, h, ha, h1, h2, h3 => by
    obtain ⟨k1, k2⟩ := List.pairwise_cons.1 h
    have ec : ∀ (z : Jo.Pc) (l : List Jo.Pc), Jo.sizeP (z :: l) = z.body.length + Jo.sizeP l := fun z l => by simp [Jo.sizeP]
    rcases List.mem_cons.1 ha with rfl | ha'
    · rw [List.filter_cons_of_pos h2, List.filter_cons_of_neg (by rw [h1]; simp), ec]
      have : t.filter q' = t.filter q := List.filter_congr fun p hp => h3 p (List.mem_cons_of_mem _ hp) (fun e => k1 p hp (by rw [e]))
      rw [this]; omega
    · have hb : q' b = q b := h3 b List.mem_cons_self (fun e => k1 a ha' (by rw [e]))
      have ih := size_one k2 ha' h1 h2 (fun p hp => h3 p (List.mem_cons_of_mem _ hp))
      cases hq : q b
      · rw [List.filter_cons_of_neg (by rw [hb, hq]; simp), List.filter_cons_of_neg (by rw [hq]; simp), ih]
      · rw [List.filter_cons_of_pos (by rw [hb, hq]), List.filter_cons_of_pos hq, ec, ec, ih]; omega
theorem cntF_yes (h : ps.Pairwise (fun p q => idx p ≠ idx q)) {r : Jo.Pc → Bool} {left : Nat → Bool} {p : Jo.Pc} (hp : p ∈ ps) (hl : left (idx p) = true) (hr : r p = true) :
    cntF idx ps r (fun y => left y && !decide (y = idx p)) = cntF idx ps r left + p.body.length := by
  refine size_one h hp (by simp [hl]) (by simp [hr]) (fun q hq hne => ?_)
  have : idx q ≠ idx p := fun e => hne (pw_inj h hq hp e)
  simp [this]
theorem cntF_no (h : ps.Pairwise (fun p q => idx p ≠ idx q)) {r : Jo.Pc → Bool} {left : Nat → Bool} {p : Jo.Pc} (hp : p ∈ ps) (hr : r p = false) :
    cntF idx ps r (fun y => left y && !decide (y = idx p)) = cntF idx ps r left := by
  unfold cntF
  congr 1
  refine List.filter_congr fun q hq => ?_
  by_cases e : q = p
  · subst e; simp [hr]
  · have : idx q ≠ idx p := fun e' => e (pw_inj h hq hp e')
    simp [this]
theorem lineF_yes {r : Jo.Pc → Bool} {left : Nat → Bool} {i : Nat} (hr : ruleI idx ps r i = true) (j : Nat) : (delF (fun i => (lineF idx ps r L left i).map fgV) i) j = (lineF idx ps r L (fun y => left y && !decide (y = i)) j).map fgV := by
  unfold delF lineF
  by_cases e : j = i
  · subst e; simp [hr]
  · simp [e]
theorem lineF_no {r : Jo.Pc → Bool} {left : Nat → Bool} {i : Nat} (hr : ruleI idx ps r i = false) (j : Nat) : lineF idx ps r L left j = lineF idx ps r L (fun y => left y && !decide (y = i)) j := by
  unfold lineF
  by_cases e : j = i
  · subst e; simp [hr]
  · simp [e]
/-- What is left. -/
theorem LnOf.dropped (h : LnOf idx L ps) (r : Jo.Pc → Bool) : LnOf idx (lineF idx ps r L fun _ => false) (ps.filter fun p => !r p) := by
  refine ⟨fun p hp => ?_, fun i x hx => ?_, h.nd.filter _⟩
  · obtain ⟨h1, h2⟩ := List.mem_filter.1 hp
    obtain ⟨x, h3, h4⟩ := h.has p h1
    refine ⟨x, ?_, h4⟩
    unfold lineF
    rw [ruleI_at h.nd r h1, if_neg (by simpa using h2)]
    exact h3
  · unfold lineF at hx
    split at hx
    · cases hx
    · rename_i hn
      obtain ⟨p, hp, e⟩ := h.of i x hx
      refine ⟨p, List.mem_filter.2 ⟨hp, ?_⟩, e⟩
      rw [← e, ruleI_at h.nd r hp] at hn
      simpa using hn
end
/-- What a rule answers. -/
def RuleOk (w : World) (b N : Nat) (caps : Array Value) (idx : Jo.Pc → Nat) (ps : List Jo.Pc) (r : Jo.Pc → Bool) : Prop :=
  ∀ (W : World) (p : Jo.Pc) (v : Value), Fr (fun k => k = b) w W → p ∈ ps → Calls Try.prog N (#[.int .u32 (idx p : Int), .agg (mCells (pcM p) v)] ++ caps) W fun e W' => e = .returned (.bool (r p)) ∧ Below W.heap.size W W'
def DropDone (w : World) (b : Nat) (idx : Jo.Pc → Nat) (L : Nat → Option Fg) (ps : List Jo.Pc) (r : Jo.Pc → Bool) (e : Ending) (w' : World) : Prop :=
  e = .returned (.int .i64 (Jo.sizeP (ps.filter r) : Int)) ∧ Hid (LineAt w' b (lineF idx ps r L fun _ => false)) ∧ Hid (Fr (fun k => k = b) w w')
set_option maxHeartbeats 4000000 in
theorem ldrop_any {w : World} {b N : Nat} {caps : Array Value} {idx : Jo.Pc → Nat} {L : Nat → Option Fg} {ps : List Jo.Pc} {r : Jo.Pc → Bool} (h : LineAt w b L) (hL : LnOf idx L ps) (hz : Jo.sizeP ps ≤ 2000000000) (hN : ∀ args W, (callFunc N args).run Try.prog W = .ok (.enter N args) W) (hr : RuleOk w b N caps idx ps r) :
    Calls Try.prog 60 #[.map (some b), .func (.func N) #[] caps] w (DropDone w b idx L ps r) := by
  have HLN := Lib.hid hL
  have HR := Lib.hid hr
  obtain ⟨w1, cnt, hrun, hrg, hgr, hsz⟩ := MapX.range h (t := 83) Try.underlying83
  have hlt := h.lt
  have HRG : Hid (RangeX u32X w1 b w.heap.size (fun i => (lineF idx ps r L (fun i => (L i).isSome) i).map fgV) (fun i => (L i).isSome) cnt) := by
    have e1 : ∀ i, (fun i => (L i).map fgV) i = (fun i => (lineF idx ps r L (fun i => (L i).isSome) i).map fgV) i := fun i => by
      unfold lineF
      cases hx : L i with
      | none => simp [hx]
      | some x => simp [hx]
    have e2 : ∀ i, ((fun i => (L i).map fgV) i).isSome = (L i).isSome := fun i => by
      show ((L i).map fgV).isSome = _
      cases L i <;> rfl
    rw [← funext e1]
    exact hrg.as_ e2
  have HFR : Hid (Fr (fun k => k = b) w w1) := ((Fr.refl _ w).grown hgr (fun g hg => by cases hg))
  have HC0 : Hid (0 = cntF idx ps r (fun i => (L i).isSome)) := by
    have : ps.filter (fun p => r p && !(L (idx p)).isSome) = [] := List.filter_eq_nil_iff.2 (fun p hp => by
      obtain ⟨x, hx, _⟩ := hL.has p hp
      simp [hx])
    unfold cntF Hid
    rw [this]
    rfl
  obtain ⟨q, hq⟩ : ∃ q, q = w.heap.size := ⟨_, rfl⟩
  rw [← hq] at HRG hrun
  have HQ : Hid (w.heap.size ≤ q) := by unfold Hid; omega
  clear h hL hr hrg hgr hsz hq
  go_enter Try.func60, Try.ntmps60
  go_wp2_with fail
  go_loopw [5, 6, 7] (fun v5 _ _ wr => ∃ (left : Nat → Bool) (cnt n : Nat), v5 = .int .i64 (n : Int) ∧ Hid (RangeX u32X wr b q (fun i => (lineF idx ps r L left i).map fgV) left cnt) ∧ Hid (n = cntF idx ps r left) ∧ Hid (Fr (fun k => k = b) w wr)) (fun _ _ _ wr => wr.rangeLeft b q)
  case atStart => exact ⟨_, _, 0, rfl, HRG, HC0, HFR⟩
  case round =>
    obtain ⟨left, cnt, n, rfl, HG, HN, HF⟩ := hrel
    rcases HG.out.next 0 with ⟨hall, hrun2⟩ | ⟨i, v, w2, cnt2, hdom, hli, hfi, hrun2, hrg2, hlt2, hgr2, hsz2, hen⟩
    · go_wp2_with fail
      go_ret
      have e1 : cntF idx ps r left = Jo.sizeP (ps.filter r) := by
        unfold cntF
        congr 1
        refine List.filter_congr fun p _ => ?_
        rw [hall]; simp
      refine ⟨ret_int (by rw [HN.out, e1]), ?_, HF.out⟩
      have e2 : left = fun _ => false := funext hall
      have h2 := HG.out.map
      rw [e2] at h2
      exact h2
    · obtain ⟨x, hx, rfl⟩ : ∃ x, lineF idx ps r L left i = some x ∧ v = fgV x := by
        have hfi' : (lineF idx ps r L left i).map fgV = some v := hfi
        cases hl : lineF idx ps r L left i with
        | none => rw [hl] at hfi'; cases hfi'
        | some x => rw [hl] at hfi'; injection hfi' with hfi'; exact ⟨x, rfl, hfi'.symm⟩
      have hLi : L i = some x := by
        unfold lineF at hx
        split at hx
        · cases hx
        · exact hx
      obtain ⟨p, hp, hpi, hfit⟩ := HLN.out.at_ hLi
      have hsize : p.body.length ≤ Jo.sizeP ps := by
        have h1 := sizeP_filter_le (fun q => decide (idx q = idx p)) ps
        have h2 := size_one (idx := idx) (q := fun _ => false) (q' := fun q => decide (idx q = idx p)) HLN.out.nd hp rfl (by simp) (fun q hq hne => by
          have : idx q ≠ idx p := fun e => hne (pw_inj HLN.out.nd hq hp e)
          simp [this])
        omega
      have hn2 : n ≤ 2000000000 := by
        have h1 := sizeP_filter_le (fun p => r p && !left (idx p)) ps
        have h2 := HN.out
        unfold cntF at h2
        omega
      obtain ⟨xb, xe, ⟨x1, x2, x3, x4, x5⟩, xA, xc⟩ := x
      have hm : (⟨x1, x2, x3, x4, x5⟩ : Msg) = pcM p := hfit.m
      obtain ⟨ln, hln⟩ : ∃ ln, ln = x5.length := ⟨_, rfl⟩
      have hln2 : ln = p.body.length := by rw [hln]; have := congrArg (fun m : Msg => m.body.length) hm; exact this
      have hrun3 : (Instr.next (.pointer (some ⟨q, 0, none⟩)) false 0).run Try.prog wr = .ok (.tuple #[.bool true, .int .u32 (i : Int), .agg #[.bool xb, .bool xe, .int .u16 (x1 : Int), .bool x2, .int .u32 (x3 : Int), .int .u32 (x4 : Int), .slice xA ln xc]]) w2 := by rw [hln]; exact hrun2
      have hen3 : (Instr.entry (.pointer (some ⟨q, 0, none⟩))).run Try.prog w2 = .ok (.tuple #[.int .u32 (i : Int), .agg #[.bool xb, .bool xe, .int .u16 (x1 : Int), .bool x2, .int .u32 (x3 : Int), .int .u32 (x4 : Int), .slice xA ln xc]]) w2 := by rw [hln]; exact hen
      have HF2 : Hid (Fr (fun k => k = b) w w2) := HF.out.grown hgr2 (fun g hg => by injection hg with hg; subst hg; exact .inr HQ.out)
      have HRG2 := Lib.hid hrg2
      have HM := Lib.hid hm
      have HPI := Lib.hid hpi
      have HPP := Lib.hid hp
      have HLI := Lib.hid hli
      have HX := Lib.hid hx
      have HLN2 := Lib.hid hln2
      have hln3 : ln ≤ 2000000000 := by omega
      have HNN := Lib.hid hz
      have HLT := Lib.hid hlt2
      have HCE := Lib.hid HG.out.left_eq
      have HDOM : Hid (u32X.dom i) := hdom
      clear hrun hrun2 hen hsz2 hfi hLi hx hm hln hrg2 hgr2 hpi hp hli hln2 hfit hsize HG HF hdom hz hlt2
      go_wp2_with fail
      obtain ⟨W3, hW3⟩ : ∃ W3, W3 = w2.alloc (.cells #[.bool xb, .bool xe, .int .u16 (x1 : Int), .bool x2, .int .u32 (x3 : Int), .int .u32 (x4 : Int), .slice xA ln xc] 85) := ⟨_, rfl⟩
      obtain ⟨g, hg⟩ : ∃ g, g = w2.heap.size := ⟨_, rfl⟩
      have hblk : Blk W3 g 85 #[.bool xb, .bool xe, .int .u16 (x1 : Int), .bool x2, .int .u32 (x3 : Int), .int .u32 (x4 : Int), .slice xA ln xc] := by rw [hW3, hg]; exact Blk.new _ _ _
      have hfr23 : Fr (fun _ => False) w2 W3 := by rw [hW3]; exact (Fr.refl _ w2).alloc _
      have hcall := HR.out W3 p (.slice xA ln xc) (by rw [hW3]; exact HF2.out.alloc _) HPP.out
      rw [HPI.out, ← HM.out] at hcall
      simp only [mCells] at hcall
      rw [← hg, ← hW3]
      clear hg hW3
      refine hcall.mono ?_
      rintro e w4 ⟨rfl, hb4⟩
      clear hcall
      have hfr34 := (Fr.refl (fun _ => False) W3).grows hb4
      have hfr24 := hfr23.same hfr34
      have HF4 : Hid (Fr (fun k => k = b) w w4) := HF2.out.trans hfr24 (fun _ _ hx => hx.elim)
      have c6 : w4.cell? ⟨g, 6, none⟩ = some (.slice xA ln xc) := (hfr34.blk hblk (fun hx => hx.elim)).cell 6
      have HRG4 := Lib.hid (HRG2.out.fr hfr24 (fun hx => hx.elim) (fun hx => hx.elim))
      clear hfr23 hfr34 hfr24 hblk hb4
      obtain ⟨t, ht⟩ : ∃ t, t = r p := ⟨_, rfl⟩
      rw [← ht]
      have HT := Lib.hid ht
      clear ht
      have HRI : Hid (ruleI idx ps r i = t) := by rw [← HPI.out, HT.out]; exact ruleI_at HLN.out.nd r HPP.out
      cases t
      · go_wp2_with fail
        go_roundw
        case rel => exact ⟨_, cnt2, n, rfl, (by rw [← show (fun i => (lineF idx ps r L left i).map fgV) = _ from funext fun j => congrArg (Option.map fgV) (lineF_no HRI.out j)]; exact HRG4.out), (by rw [← HPI.out, cntF_no HLN.out.nd HPP.out HT.out.symm]; exact HN.out), HF4⟩
        case measure => rw [HRG4.out.left_eq, HCE.out]; exact HLT.out
      · obtain ⟨w5, cnt5, hdel, hrg5, hle5, hturn5⟩ := HRG4.out.del (t := 83) Try.underlying83 (x := i) HDOM.out 0
        have HRG5 := Lib.hid hrg5
        have HLE5 := Lib.hid hle5
        have HF5 : Hid (Fr (fun k => k = b) w w5) := HF4.out.grown hturn5.grown (fun g hg => by injection hg with hg; exact .inl hg.symm)
        have hdel2 : (Builtin.delete_ #[83, 33] 0 #[.map (some b), .int .u32 (i : Int)]).run Try.prog w4 = .ok (.tuple #[]) w5 := hdel
        clear hdel hrg5 hle5 hturn5 HRG4
        go_wp2_with fail
        go_roundw
        case rel => exact ⟨(fun y => left y && !decide (y = i)), cnt5, n + ln, by go_num, (by rw [← show delF (fun i => (lineF idx ps r L left i).map fgV) i = _ from funext fun j => lineF_yes HRI.out j]; exact HRG5.out.as_ (fun y => by cases left y <;> cases decide (y = i) <;> rfl)), (by rw [← HPI.out, cntF_yes HLN.out.nd HPP.out (by rw [HPI.out]; exact HLI.out) HT.out.symm, HN.out, HLN2.out]; rfl), HF5⟩
        case measure => rw [HRG5.out.left_eq, HCE.out]; exact Nat.lt_of_le_of_lt HLE5.out HLT.out
end Go.Proofs.Ytioddokjogbmnaa.Chk

set_option linter.unusedVariables false
set_option linter.unusedSimpArgs false
set_option maxRecDepth 20000
namespace Go.Proofs.Ytioddokjogbmnaa.Chk
open Go.ChangeShapes Go.WideShapes Go.ChangeAt Go.RowKit Go.Deep Go.Maps Go.Proofs.Ytioddokjogbmnaa.Words Go.Proofs.Ytioddokjogbmnaa.Oct Go.Proofs.Ytioddokjogbmnaa.Par Go.Proofs.Ytioddokjogbmnaa.Mx
theorem dist_any (a b : Nat) (w : World) (ha : a < 4294967296) (hb : b < 4294967296) :
    Calls Try.prog 58 #[.int .u32 (a : Int), .int .u32 (b : Int)] w fun e w' => e = .returned (.int .u32 (((b + 4294967296 - a) % 4294967296 : Nat) : Int)) ∧ w = w' := by
  obtain ⟨d, hd⟩ : ∃ d : Nat, d = (b + 4294967296 - a) % 4294967296 := ⟨_, rfl⟩
  have h : ((b : Int) - (a : Int)) % 4294967296 = (d : Int) := by omega
  rw [← hd]
  clear hd
  go_enter Try.func58, Try.ntmps58
  go_wp2
  go_ret
  exact ⟨ret_int h, rfl⟩
/-- What bytes.Join answers of parts that are not empty. -/
def JoinC : Prop := ∀ (w : World) (g n c : Nat) (ls : List (List UInt8)), n = ls.length → 1 ≤ n → n ≤ c → (∀ i l, ls[i]? = some l → l ≠ [] ∧ ∃ Ab cb, w.cell? ⟨g, i, none⟩ = some (.slice Ab l.length cb) ∧ Byt w w.heap.size Ab l) → ls.flatten.length ≤ 2000000000 →
  Calls Try.prog 59 #[.slice (some ⟨g, 0, none⟩) n c, .slice none 0 0] w fun e w' => ∃ A n' c', e = .returned (.slice A n' c') ∧ Hid (n' = ls.flatten.length) ∧ n' ≤ c' ∧ c' ≤ 9223372036854775807 ∧ Hid (Byt w' w'.heap.size A ls.flatten) ∧ Hid (∀ ad, A = some ad → w.heap.size ≤ ad.block) ∧ Hid (Below w.heap.size w w')
def catF (xs : List Fg) : List UInt8 := (xs.map (·.m.body)).flatten
def valsF (xs : List Fg) : List Value := xs.map bodyV
def cutL (L : Nat → Option Fg) (f k i : Nat) : Option Fg := if i < 4294967296 ∧ (i + 4294967296 - f) % 4294967296 < k then none else L i
theorem cutL_zero (L : Nat → Option Fg) (f i : Nat) : cutL L f 0 i = L i := by unfold cutL; rw [if_neg (by omega)]
theorem cutL_at {L : Nat → Option Fg} {f k : Nat} (hf : f < 4294967296) (hk : k < 4294967296) : cutL L f k (up f k) = L (up f k) := by unfold cutL up; rw [if_neg (by omega)]
theorem cutL_succ {L : Nat → Option Fg} {f k : Nat} (hf : f < 4294967296) (hk : k < 4294967296) (j : Nat) : (delF (fun i => (cutL L f k i).map fgV) (up f k)) j = (cutL L f (k + 1) j).map fgV := by
  unfold delF
  by_cases e : j = up f k
  · subst e
    rw [if_pos rfl]
    unfold cutL up
    rw [if_pos (by omega)]
    rfl
  · rw [if_neg e]
    unfold cutL
    have : (j < 4294967296 ∧ (j + 4294967296 - f) % 4294967296 < k + 1) ↔ (j < 4294967296 ∧ (j + 4294967296 - f) % 4294967296 < k) := by
      unfold up at e
      omega
    show Option.map fgV (if j < 4294967296 ∧ (j + 4294967296 - f) % 4294967296 < k then none else L j) = _
    by_cases h : j < 4294967296 ∧ (j + 4294967296 - f) % 4294967296 < k
    · rw [if_pos h, if_pos (this.2 h)]
    · rw [if_neg h, if_neg (fun x => h (this.1 x))]
theorem msg_f4 (m : Msg) (v : Value) (w : World) : (Instr.field 43 (.agg (mCells m v)) 4).run Try.prog w = .ok v w := by kernel_rfl
theorem byts_info : (Try.prog.info? 39).map (fun i => (i.zero, i.size, i.bytes)) = some (some (.slice none 0 0), 1, 24) := by kernel_rfl
theorem msg_sz : (Try.prog.info? 43).map (·.size) = some 5 := by kernel_rfl
theorem setRow_any {w : World} {g : Nat} {t : TypeId} {cs cs' : Array Value} (h : Blk w g t cs) : Blk (w.setRow g cs') g t cs' := setRow_heap w g cs cs' t (0, 0) h
theorem setRow_frM (w : World) (g : Nat) (cs' : Array Value) : Fr (fun i => i = g) w (w.setRow g cs') := ⟨rfl, rfl, rfl, by simp, fun k _ hn => setRow_other w g k cs' (fun e => hn e)⟩
/-- What is known of a fragment that is cut out. -/
structure CutX (w : World) (b : Nat) (L : Nat → Option Fg) (f : Nat) (xs : List Fg) : Prop where
  at_ : ∀ (q : Nat) (x : Fg), xs[q]? = some x → L (up f q) = some x
  rd : ∀ (q : Nat) (x : Fg), xs[q]? = some x → Byt w w.heap.size x.A x.m.body ∧ (∀ ad, x.A = some ad → ad.block ≠ b)
  ne : ∀ (q : Nat) (x : Fg), xs[q]? = some x → x.m.body ≠ []
def CutDoneX (w : World) (b : Nat) (L : Nat → Option Fg) (f n : Nat) (xs : List Fg) (x0 : Fg) (e : Ending) (w' : World) : Prop :=
  ∃ A n' c', e = .returned (.agg (mCells x0.m (.slice A n' c'))) ∧ n' = (catF xs).length ∧ n' ≤ c' ∧ c' ≤ 9223372036854775807 ∧ Byt w' w'.heap.size A (catF xs) ∧ (∀ ad, A = some ad → w.heap.size ≤ ad.block) ∧ LineAt w' b (cutL L f (n + 1)) ∧ Fr (fun k => k = b) w w'
set_option maxHeartbeats 4000000 in
theorem cut_any (J : JoinC) {w : World} {b f l n : Nat} {L : Nat → Option Fg} {xs : List Fg} {x0 : Fg} (h : LineAt w b L) (hf : f < 4294967296) (hl : l = up f n) (hn : n ≤ 2000000000) (hlen : xs.length = n + 1) (hx0 : xs[0]? = some x0) (hx : CutX w b L f xs) (hz : (catF xs).length ≤ 2000000000) :
    Calls Try.prog 34 #[.map (some b), .int .u32 (f : Int), .int .u32 (l : Int)] w (CutDoneX w b L f n xs x0) := by
  have hl2 : l < 4294967296 := by rw [hl]; unfold up; omega
  have hd : (l + 4294967296 - f) % 4294967296 = n := by rw [hl]; unfold up; omega
  have hL0 : L f = some x0 := by have := hx.at_ 0 x0 hx0; unfold up at this; rw [Nat.add_zero, Nat.mod_eq_of_lt hf] at this; exact this
  have k0 : ∀ o : Obj, (Instr.lookup 83 (.map (some b)) (.int .u32 (f : Int)) false).run Try.prog (w.alloc o) = .ok (fgV x0) (w.alloc o) := fun o => by
    have := (h.fr ((Fr.refl (fun _ => False) w).alloc o) (fun hx => hx)).look hf
    rw [hL0, Option.getD_some] at this
    exact this
  have hdc := dist_any f l w hf hl2
  rw [hd] at hdc
  have HD := Lib.hid hdc
  have hdc2 := fun W : World => (dist_any f l W hf hl2)
  rw [hd] at hdc2
  have HD2 := Lib.hid hdc2
  have HL := Lib.hid h
  have HX := Lib.hid hx
  have HLEN := Lib.hid hlen
  have HX0 := Lib.hid hx0
  have HZ := Lib.hid hz
  have hbl := h.lt
  obtain ⟨i0, hi0, hz0, hz1, hz2⟩ := info_parts3 byts_info
  clear hd hL0 hdc hdc2 h hx hlen hx0 hz hl
  obtain ⟨xb, xe, ⟨x1, x2, x3, x4, x5⟩, xA, xc⟩ := x0
  have f2 := frag_f2 ⟨xb, xe, ⟨x1, x2, x3, x4, x5⟩, xA, xc⟩
  simp only [mCells, bodyV] at f2
  go_enter Try.func34, Try.ntmps34
  go_wp2_with fail
  refine (HD2.out _).mono ?_
  rintro e w1 ⟨rfl, rfl⟩
  go_wp2_with fail
  obtain ⟨xn, hxn⟩ : ∃ xn, xn = x5.length := ⟨_, rfl⟩
  rw [← hxn]
  have HXN := Lib.hid hxn
  clear hxn
  obtain ⟨W2, hW2⟩ : ∃ W2, W2 = (w.alloc (.cells #[.int .u16 0, .bool false, .int .u32 0, .int .u32 0, .slice none 0 0] 43)).alloc (.cells #[.int .u16 (x1 : Int), .bool x2, .int .u32 (x3 : Int), .int .u32 (x4 : Int), .slice xA xn xc] 43) := ⟨_, rfl⟩
  obtain ⟨g, hg⟩ : ∃ g, g = w.heap.size := ⟨_, rfl⟩
  obtain ⟨g2, hg2⟩ : ∃ g2, g2 = w.heap.size + 1 := ⟨_, rfl⟩
  have HB1 : Hid (Blk W2 g 43 #[.int .u16 0, .bool false, .int .u32 0, .int .u32 0, .slice none 0 0]) := by rw [hW2, hg]; exact (Blk.new _ _ _).alloc _
  have HB2 : Hid (Blk W2 g2 43 #[.int .u16 (x1 : Int), .bool x2, .int .u32 (x3 : Int), .int .u32 (x4 : Int), .slice xA xn xc]) := by
    have := Blk.new (w.alloc (.cells #[.int .u16 0, .bool false, .int .u32 0, .int .u32 0, .slice none 0 0] 43)) 43 #[.int .u16 (x1 : Int), .bool x2, .int .u32 (x3 : Int), .int .u32 (x4 : Int), .slice xA xn xc]
    rw [World.size_alloc] at this
    rw [hW2, hg2]
    exact this
  have HF2 : Hid (Fr (fun _ => False) w W2) := by rw [hW2]; exact ((Fr.refl _ w).alloc _).alloc _
  have hsz2 : W2.heap.size = w.heap.size + 2 := by rw [hW2]; simp
  have HSZ := Lib.hid hsz2
  have HGG : Hid (g = w.heap.size ∧ g2 = w.heap.size + 1) := ⟨hg, hg2⟩
  have HBL := Lib.hid hbl
  rw [← hg2, ← hg, ← hW2]
  have HL2 : Hid (LineAt W2 b L) := HL.out.fr HF2.out (fun hx => hx)
  clear hW2 hg hg2 hsz2 hbl k0 f2
  have h32 : (n : Int) + 1 < 4294967296 := by omega
  go_loopw [8, 9, 10, 19] (fun v8 _ _ v19 wr => ∃ (k c' : Nat) (As : Option Addr), v8 = .slice As k c' ∧ v19 = .int .u32 (k : Int) ∧ k ≤ n + 1 ∧ k ≤ c' ∧ c' ≤ 9223372036854775807 ∧ Hid (wr.ownsRow W2.heap.size 39 1 (.slice As k c') k (valsF (xs.take k))) ∧ Hid (LineAt wr b (cutL L f k)) ∧ Hid (Fr (fun i => i = b) W2 wr)) (fun _ _ _ v19 _ => n + 1 - (intOf v19).toNat)
  case atStart => exact ⟨0, 0, none, rfl, rfl, by omega, by omega, by omega, World.ownsRow_nil _ _ _ _, (by have e : cutL L f 0 = L := funext fun i => cutL_zero L f i; rw [e]; exact HL2), Fr.refl _ _⟩
  case round =>
    obtain ⟨k, c', As, rfl, rfl, hk, hkc, hc', HRW, HLN, HFR⟩ := hrel
    by_cases hlt : k < n + 1
    · have hlt' : (k : Int) < (n : Int) + 1 := by omega
      obtain ⟨X, hX⟩ : ∃ X, xs[k]? = some X := ⟨xs[k]'(by rw [HLEN.out]; exact hlt), List.getElem?_eq_getElem _⟩
      have hLX := HX.out.at_ k X hX
      obtain ⟨i, hi⟩ : ∃ i, i = up f k := ⟨_, rfl⟩
      have hi2 : i < 4294967296 := by rw [hi]; unfold up; omega
      have hwi : ((f : Int) + (k : Int)) % 4294967296 = (i : Int) := by rw [hi]; unfold up; omega
      have kx := HLN.out.look hi2
      have hcx : cutL L f k i = some X := by rw [hi, cutL_at hf (by omega), ← hi]; rw [hi]; exact hLX
      rw [hcx, Option.getD_some] at kx
      have HI := Lib.hid hi
      have HXX := Lib.hid hX
      clear hi hX hLX hcx
      obtain ⟨yb, ye, ⟨y1, y2, y3, y4, y5⟩, yA, yc⟩ := X
      obtain ⟨yn, hyn⟩ : ∃ yn, yn = y5.length := ⟨_, rfl⟩
      have f2 := frag_f2 ⟨yb, ye, ⟨y1, y2, y3, y4, y5⟩, yA, yc⟩
      have f4 := msg_f4 ⟨y1, y2, y3, y4, y5⟩ (.slice yA yn yc)
      simp only [mCells, bodyV] at f2 f4
      rw [← hyn] at f2
      have HYN := Lib.hid hyn
      clear hyn
      have hBs : W2.heap.size ≤ (wr.alloc (.cells #[.slice yA yn yc] 39)).heap.size := Nat.le_trans HFR.out.size (by simp)
      go_upto_region 8 with (at_builtin; refine wpList_append_any _ rfl (.tmp 25) (.tmp 31) _ rfl W2.heap.size 39 i0 _ 1 24 Try.underlying22 hi0 hz0 hz1 hz2 rfl (by omega) (.slice As k c') k _ rfl (HRW.out.alloc _) (wr.heap.size + 1) (some ⟨wr.heap.size, 0, none⟩) 1 1 [.slice yA yn yc] rfl (blk_reads (Blk.new wr 39 #[.slice yA yn yc]) rfl) (by simp [Value.oneCell']) (by simp only [maxLen]; omega) (by omega) hBs ?_; intro v7 w7 hown7 hg7 hat7; obtain ⟨A7, c7, rfl, h7a, h7b⟩ := own_slice hown7)
      have hne : ∀ q, (Value.slice As k c').ownBlock = some q → q ≠ b := fun q hq e => by
        have h1 := (HRW.out.lt q hq).1
        have h2 := HSZ.out
        have h3 := HBL.out
        omega
      have hfr7 : Fr (fun x => some x = (Value.slice As k c').ownBlock) wr w7 := ((Fr.refl _ wr).alloc _).grown hg7 (fun q hq => .inl hq.symm)
      have HFR7 : Hid (Fr (fun x => x = b) W2 w7) := (HFR.out.alloc _).grown hg7 (fun q hq => .inr (HRW.out.lt q hq).1)
      have hln7 : LineAt w7 b (cutL L f k) := HLN.out.fr hfr7 (fun e => hne b e.symm rfl)
      have hlt7 : ∀ q, (Value.slice A7 (k + 1) c7).ownBlock = some q → q ≠ b := fun q hq e => by
        have h1 := (hown7.lt q hq).1
        have h2 := HSZ.out
        have h3 := HBL.out
        omega
      obtain ⟨w8, hdel, hmap8, hturn8⟩ := MapX.del hln7 (t := 83) Try.underlying83 (x := i) hi2 0
      have hdel2 : (Builtin.delete_ #[83, 33] 0 #[.map (some b), .int .u32 (i : Int)]).run Try.prog w7 = .ok (.tuple #[]) w8 := hdel
      have HLN8 : Hid (LineAt w8 b (cutL L f (k + 1))) := by
        have h1 := hmap8
        rw [HI.out] at h1
        exact h1.as_ (fun j => cutL_succ hf (by omega) j)
      have HFR8 : Hid (Fr (fun x => x = b) W2 w8) := HFR7.out.grown hturn8.grown (fun q hq => by injection hq with hq; exact .inl hq.symm)
      have HRW8 : Hid (w8.ownsRow W2.heap.size 39 1 (.slice A7 (k + 1) c7) (k + 1) (valsF (xs.take (k + 1)))) := by
        have h1 := (Fr.of_grown hturn8.grown).own hown7 (fun q hq e => by injection e with e; exact hlt7 q hq e)
        have h2 : valsF (xs.take (k + 1)) = valsF (xs.take k) ++ [.slice yA yn yc] := by
          unfold valsF
          rw [List.take_add_one, HXX.out, List.map_append, HYN.out]
          rfl
        rw [h2]
        exact h1
      clear hown7 hg7 hat7 hfr7 hln7 hlt7 hne hdel hmap8 hturn8 HFR7 HRW HLN HFR kx f2 f4
      go_wp2_with fail
      go_roundw
      case rel => exact ⟨k + 1, c7, A7, rfl, by go_num, by omega, h7a, h7b, HRW8, HLN8, HFR8⟩
      case measure => simp [intOf]; omega
    · obtain rfl : k = n + 1 := by omega
      have hlt' : ¬ ((n + 1 : Nat) : Int) < (n : Int) + 1 := by omega
      obtain ⟨q, cap, hv, hq1, hq2⟩ := HRW.out.form (by omega)
      injection hv with hv _ hcc
      subst hv hcc
      have hlenM : n + 1 = (xs.map fun x : Fg => x.m.body).length := by rw [List.length_map, HLEN.out]
      have hfw : Fr (fun x => x = b) w wr := (HF2.out.mono (T := fun x => x = b) (fun _ _ h => h.elim)).same HFR.out
      have hJ := J wr q (n + 1) c' (xs.map fun x : Fg => x.m.body) hlenM (by omega) hkc (fun i l hl => by
        rw [List.getElem?_map] at hl
        cases hxi : xs[i]? with
        | none => rw [hxi] at hl; cases hl
        | some x =>
          rw [hxi] at hl
          simp only [Option.map_some, Option.some.injEq] at hl
          subst hl
          have hin : i < n + 1 := by have := (List.getElem?_eq_some_iff.1 hxi).1; rwa [HLEN.out] at this
          refine ⟨HX.out.ne i x hxi, x.A, x.cp, ?_, ?_⟩
          · rw [HRW.out.cellAt i (by omega)]
            unfold valsF
            rw [List.getElem?_map, List.getElem?_take, if_pos hin, hxi]
            rfl
          · obtain ⟨h1, h2⟩ := HX.out.rd i x hxi
            exact (hfw.byt h1 (Nat.le_refl _) (fun ad e => h2 ad e)).more hfw.size) HZ.out
      have HJ := Lib.hid hJ
      have HFW := Lib.hid hfw
      clear hJ hfw hlenM
      go_wp2_with fail
      refine HJ.out.mono ?_
      rintro e w9 ⟨A9, n9, c9, rfl, HN9, h9a, h9b, HY9, HA9, HB9⟩
      have hfr9 := HFR.out.grows HB9.out
      have hb2 : Blk w9 g2 43 #[.int .u16 (x1 : Int), .bool x2, .int .u32 (x3 : Int), .int .u32 (x4 : Int), .slice xA xn xc] := hfr9.blk HB2.out (by have := HGG.out; have := HBL.out; omega)
      have hb1 : Blk w9 g 43 #[.int .u16 0, .bool false, .int .u32 0, .int .u32 0, .slice none 0 0] := hfr9.blk HB1.out (by have := HGG.out; have := HBL.out; omega)
      have HFR9 := Lib.hid hfr9
      obtain ⟨W10, hW10⟩ : ∃ W10, W10 = w9.setCell ⟨g2, 4, none⟩ (.slice A9 n9 c9) := ⟨_, rfl⟩
      have frz := hb2.frozen 4
      have cz := hb2.cell 4
      simp only [List.getElem?_toArray, List.getElem?_cons_succ, List.getElem?_cons_zero] at cz
      go_upto_region 11 with (fail)
      rw [← hW10]
      have HB2' : Hid (Blk W10 g2 43 #[.int .u16 (x1 : Int), .bool x2, .int .u32 (x3 : Int), .int .u32 (x4 : Int), .slice A9 n9 c9]) := by rw [hW10]; exact hb2.set_ 4 (.slice A9 n9 c9)
      have HB1' : Hid (Blk W10 g 43 #[.int .u16 0, .bool false, .int .u32 0, .int .u32 0, .slice none 0 0]) := by rw [hW10]; exact hb1.far (by have := HGG.out; show g ≠ g2; omega) _
      have HF10 : Hid (Fr (fun x => x = b ∨ x = g2) W2 W10) := by rw [hW10]; exact (HFR9.out.mono (fun _ _ h => .inl h)).setCell (.inl (.inr rfl)) _
      have HFE : Hid (Fr (fun x => x = g2) w9 W10) := by rw [hW10]; exact (Fr.refl (fun x => x = g2) w9).setCell (p := ⟨g2, 4, none⟩) (.inl rfl) _
      clear hW10 frz cz hb1 hb2 hfr9
      obtain ⟨cs9, hcs9⟩ : ∃ cs9 : Array Value, cs9 = #[.int .u16 (x1 : Int), .bool x2, .int .u32 (x3 : Int), .int .u32 (x4 : Int), .slice A9 n9 c9] := ⟨_, rfl⟩
      rw [← hcs9] at HB2'
      have HONE : Hid (cs9.all (·.oneCell') = true) := by rw [hcs9]; show _ = _; simp [Value.oneCell']
      have HCSZ : Hid (cs9.size = 5) := by rw [hcs9]; show _ = _; rfl
      have HCS := Lib.hid hcs9
      clear hcs9
      go_upto_region 12 with (first
        | (refine wpList_load_row rfl 43 _ rfl g2 rfl 43 cs9 (0, 0) _ HB2'.out Try.underlying43 rfl (by rw [HCSZ.out]; exact msg_sz) ?_)
        | (refine wpList_store_rowTo rfl 43 _ _ rfl rfl g cs9 rfl rfl 43 _ HB1'.out (by rw [HCSZ.out]; exact msg_sz) (by rw [HCSZ.out]; rfl) HONE.out ?_))
      refine bodyPost_ret (results_cell_row rfl _ _ g 43 cs9 (0, 0) _ rfl (setRow_any HB1'.out) Try.underlying43 rfl (by rw [HCSZ.out]; exact msg_sz)) rfl ?_
      have hfa : Fr (fun x => x = b ∨ x = g2) W2 W10 := HF10.out
      have hfr10 : Fr (fun x => x = b) w (W10.setRow g cs9) := by
        have h1 : Fr (fun x => x = b) w W10 := (HF2.out.mono (T := fun x => x = b) (fun _ _ h => h.elim)).trans hfa (fun x hx h => by
          rcases h with h | h
          · exact h
          · have := HGG.out; omega)
        exact h1.trans (setRow_frM W10 g _) (fun x hx h => by have h2 : x = g := h; have := HGG.out; omega)
      refine ⟨A9, n9, c9, by rw [HCS.out], by rw [HN9.out]; rfl, h9a, h9b, ?_, fun ad e => ?_, ?_, hfr10⟩
      · have h1 : Fr (fun x => x = g2 ∨ x = g) w9 (W10.setRow g cs9) := (HFE.out.mono (fun _ _ h => .inl h)).trans (setRow_frM W10 g cs9) (fun _ _ h => .inr h)
        exact (h1.byt HY9.out (Nat.le_refl _) (fun ad e h => by
          have h2 := HA9.out ad e
          have h3 := HGG.out
          have h4 := HFR.out.size
          have h5 := HSZ.out
          rcases h with h | h <;> omega)).more h1.size
      · have h2 := HA9.out ad e
        have h4 := HFW.out.size
        omega
      · have h1 : Fr (fun x => x = g2 ∨ x = g) w9 (W10.setRow g cs9) := (HFE.out.mono (fun _ _ h => .inl h)).trans (setRow_frM W10 g cs9) (fun _ _ h => .inr h)
        have h2 := (Fr.refl (fun x => x = g2 ∨ x = g) wr).grows HB9.out
        exact HLN.out.fr (h2.same h1) (fun h => by have h3 := HGG.out; have h4 := HBL.out; rcases h with h | h <;> omega)
end Go.Proofs.Ytioddokjogbmnaa.Chk
