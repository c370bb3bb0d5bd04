/-
  Of the texts ScNu: what the laws reach.
-/
import Derived.Test.YtkjlmibjpfmfnaaSA4

set_option linter.unusedVariables false
set_option linter.unusedSimpArgs false
namespace Go.Proofs.Ytkjlmibjpfmfnaa.Sc
open Go.ChangeShapes Go.WideShapes Go.ChangeAt Go.RowKit Go.Deep Go.Proofs.Ytkjlmibjpfmfnaa.Words Go.Proofs.Ytkjlmibjpfmfnaa.Oct Go.Proofs.Ytkjlmibjpfmfnaa.Par Go.Proofs.Ytkjlmibjpfmfnaa.Chk
theorem VarK.mid {V : World} {S : Nat → Prop} {g : Nat} {c : Ck} (h : VarK V S g c) : V.cell? ⟨g, 7, none⟩ = some (.int .u32 (c.mid : Int)) := by
  obtain ⟨h1, gv, dv, sv, pv, A, cp, h2, h3, h4, h5, h6⟩ := h
  exact Blk.cell h2 _
/-- The message that is pushed. -/
def mN (lo : Bool) : Msg := ⟨7, lo, 0, 0, [120]⟩
theorem mN_ok (lo : Bool) : (mN lo).ok := ⟨by show 7 < 65536; omega, by show 0 < 4294967296; omega, by show 0 < 4294967296; omega⟩
/-- Nothing waits, and these are stream 7's next numbers. -/
structure NuO (s : QS) (T a b : Nat) : Prop where
  inter : s.inter = true
  lines : s.lines = []
  o : s.nums 7 false = a
  l : s.nums 7 true = b
  t : s.t ≤ T
theorem nu_new : NuO (q0 true) 0 0 0 := ⟨rfl, rfl, rfl, rfl, Nat.le_refl _⟩
section
variable {s : QS} {T a b : Nat}
theorem NuO.reset (h : NuO s T a b) : NuO (s.reset [7]) T 0 0 := ⟨h.inter, h.lines, rfl, rfl, h.t⟩
theorem NuO.none (h : NuO s T a b) : s.all = 0 ∧ s.bytes 7 = 0 := by
  constructor
  · unfold QS.all
    rw [h.lines]
    rfl
  · unfold QS.bytes
    rw [h.lines]
    rfl
theorem NuO.push0 (h : NuO s T a b) (lo : Bool) : s.pushE (mN lo) = 0 := by
  unfold QS.pushE
  rw [h.none.1]
  rfl
theorem NuO.step (h : NuO s T a b) (id : Int) (lo : Bool) : (s.push id 0 0 (mN lo)).may 5 = true ∧ ∃ (c : Ck) (it : It) (s' : QS), (s.push id 0 0 (mN lo)).next 5 = some (c, it, s') ∧ it.id = id ∧ c.mid = (if lo = true then b else a) ∧ c.lo = lo ∧ c.bg = true ∧ c.en = true ∧
    NuO s' (T + 2) (if lo = true then a else (a + 1) % 4294967296) (if lo = true then (b + 1) % 4294967296 else b) := by
  have hp : s.push id 0 0 (mN lo) = ⟨true, [(7, [newI id 0 0 (mN lo)])], s.nums, s.t + 1⟩ := by
    unfold QS.push
    rw [if_pos (h.push0 lo)]
    obtain ⟨i, ls, nn, tt⟩ := s
    obtain ⟨rfl, rfl, _, _, _⟩ := h
    rfl
  rw [hp]
  obtain ⟨i, ls, nn, tt⟩ := s
  obtain ⟨rfl, rfl, h3, h4, h5⟩ := h
  cases lo
  · exact ⟨rfl, _, _, _, rfl, rfl, h3, rfl, rfl, rfl, rfl, rfl, by rw [← h3]; rfl, h4, Nat.succ_le_succ (Nat.succ_le_succ h5)⟩
  · exact ⟨rfl, _, _, _, rfl, rfl, h4, rfl, rfl, rfl, rfl, rfl, h3, by rw [← h4]; rfl, Nat.succ_le_succ (Nat.succ_le_succ h5)⟩
end
abbrev nuA (a b : Nat) : Array Value := #[.int .u32 (a : Int), .int .u32 (b : Int)]
/-- The queue and the law's array of next numbers. -/
def NuS (R : Mem) (w : World) (p gn T a b : Nat) (V : World) : Prop := a < 4294967296 ∧ b < 4294967296 ∧ (∃ s, SV R w p (fun x => x = gn) s V ∧ NuO s T a b) ∧ Blk V gn 81 (nuA a b)
/-- .. where a message waits. -/
def NuP (R : Mem) (w : World) (p gn T a b : Nat) (id : Int) (lo : Bool) (V : World) : Prop := a < 4294967296 ∧ b < 4294967296 ∧ (∃ s, SV R w p (fun x => x = gn) (s.push id 0 0 (mN lo)) V ∧ NuO s T a b) ∧ Blk V gn 81 (nuA a b)
/-- .. where it was handed out, and lies in a variable. -/
def NuC (R : Mem) (w : World) (p gn T a b gk : Nat) (lo : Bool) (V : World) : Prop := a < 4294967296 ∧ b < 4294967296 ∧ (∃ s, SV R w p (fun x => x = gn) s V ∧ NuO s (T + 2) (if lo = true then a else (a + 1) % 4294967296) (if lo = true then (b + 1) % 4294967296 else b)) ∧ Blk V gn 81 (nuA a b) ∧
  V.cell? ⟨gk, 1, none⟩ = some (.bool true) ∧ V.cell? ⟨gk, 2, none⟩ = some (.bool true) ∧ V.cell? ⟨gk, 3, none⟩ = some (.bool lo) ∧ V.cell? ⟨gk, 7, none⟩ = some (.int .u32 ((if lo = true then b else a : Nat) : Int)) ∧ gk ≠ gn
section
variable {R : Mem} {w V V' : World} {p gn T a b gk : Nat} {id : Int} {lo : Bool}
theorem NuS.bel (h : NuS R w p gn T a b V) : Below w.heap.size w V := by obtain ⟨_, _, ⟨s, h, _⟩, _⟩ := h; exact h.bel
theorem NuS.reset (I : ScI R) (h : NuS R w p gn T a b V) (o : Obj) (t : TypeId) (fr : Nat × Nat) (ho : o = .cells #[.int .u16 7] t fr) : Calls Try.prog 17 #[qptr p, .slice (some ⟨V.heap.size, 0, none⟩) 1 1] (V.alloc o) fun e w' => e = .returned (.tuple #[]) ∧ Hid (∃ s, SV R w p (fun x => x = gn) s w' ∧ NuO s T 0 0) ∧ Hid (Blk w' gn 81 (nuA a b)) := by
  obtain ⟨h1, h2, ⟨s, hS, hN⟩, hB⟩ := h
  have hb := Go.Proofs.Ytkjlmibjpfmfnaa.Fl.below_one V o
  refine (hS.reset I hb (l := [7]) (n := 1) (cp := 1) (by decide) rfl (Nat.le_refl _) (by omega) (fun k x hx => ⟨_, rfl, ?_⟩) (fun ad e => .inr ?_)).mono ?_
  · have hk : k = 0 := by
      have := (List.getElem?_eq_some_iff.1 hx).1
      simpa using this
    subst hk
    obtain rfl : 7 = x := by simpa using hx
    rw [ho]
    exact (cell_of_row _ _ 0 _ _ _ (heap_alloc_new V _)).trans rfl
  · injection e with e
    rw [← e]
    exact Nat.le_refl _
  · rintro e w' ⟨rfl, h3, h4⟩
    exact ⟨rfl, ⟨_, h3.out, hN.reset⟩, h4.out.blk (Go.Proofs.Ytkjlmibjpfmfnaa.Fl.blk_below hB hb) (fun hx => hx rfl)⟩
theorem NuS.push (I : ScI R) (h : NuS R w p gn T a b V) (hT : T ≤ 1000000) (hid : i64B id) (o : Obj) (t : TypeId) (fr : Nat × Nat) (ho : o = .cells #[.int .u8 120] 5 fr) : Calls Try.prog 10 #[qptr p, .int .i64 id, limV 0 0, .agg (mCells (mN lo) (.slice (some ⟨V.heap.size, 0, none⟩) 1 1))] (V.alloc o) fun e w' => e = .returned (.int .i64 0) ∧ Hid (NuP R w p gn T a b id lo w') := by
  obtain ⟨h1, h2, ⟨s, hS, hN⟩, hB⟩ := h
  have hb := Go.Proofs.Ytkjlmibjpfmfnaa.Fl.below_one V o
  have hy : Byt (V.alloc o) (V.alloc o).heap.size (some ⟨V.heap.size, 0, none⟩) (mN lo).body := by
    rw [ho]
    exact byt_of_heap (heap_alloc_new V _) (by simp) rfl
  refine ((hS.grows I hb).push I (n := 1) (cp := 1) (lk := 0) (ln := 0) (by have := hN.t; show s.t < _; omega) hid (by decide) (by decide) (mN_ok lo) rfl (by omega) (by omega) hy).mono ?_
  rintro e w' ⟨rfl, h3, h4⟩
  exact ⟨by rw [hN.push0]; rfl, h1, h2, ⟨s, h3.out, hN⟩, h4.out.blk (Go.Proofs.Ytkjlmibjpfmfnaa.Fl.blk_below hB hb) (fun hx => hx rfl)⟩
theorem NuP.next (I : ScI R) (h : NuP R w p gn T a b id lo V) (hT : T ≤ 1000000) : Calls Try.prog 12 #[qptr p, .int .i64 5] V fun e w' => ∃ (cs : Array Value) (lk : Int) (ln : Nat), e = .returned (.tuple #[.agg cs, .int .i64 id, limV lk ln, .bool true]) ∧ Hid ((Try.prog.info? 51).map (·.size) = some cs.size ∧ Go.Proofs.Ytkjlmibjpfmfnaa.Fl.zkA.size = cs.size) ∧ Hid (cs.all (·.oneCell') = true) ∧ Hid (∀ la, NuC R w p gn T a b w'.heap.size lo (VarsW w' cs la)) := by
  obtain ⟨h1, h2, ⟨s, hS, hN⟩, hB⟩ := h
  obtain ⟨k1, c, it, s', k2, k3, k4, k5, k6, k7, k8⟩ := hN.step id lo
  refine (hS.next I (most := 5) (by have := hN.t; have := push_t s id 0 0 (mN lo); show (s.push id 0 0 (mN lo)).t < _; omega) (by decide) k1 k2).mono ?_
  rintro e w' ⟨cs, rfl, hc, hS', hK⟩
  refine ⟨cs, it.lk, it.ln, by rw [k3], own_info hc.out, own_one hc.out, fun la => ?_⟩
  obtain ⟨S', x1, x2, x3, x4⟩ := VarK.made I hc.out hS'.out (vars_below w' cs la) (vars_ck w' cs la) (Nat.le_refl _)
  have hB' : Blk w' gn 81 (nuA a b) := hK.out.blk hB (fun hx => hx rfl)
  obtain ⟨y1, y2, y3⟩ := x1.fields
  rw [k6] at y1
  rw [k7] at y2
  rw [k5] at y3
  have y4 := x1.mid
  rw [k4] at y4
  exact ⟨h1, h2, ⟨s', x2.less x3, k8⟩, x4.blk hB' (fun hx => hx rfl), y1, y2, y3, y4, by have := hB'.lt; omega⟩
theorem arr_info : (Try.prog.info? 81).map (·.size) = some (nuA 0 0).size := by kernel_rfl
theorem arr_one (a b : Nat) : (nuA a b).all (·.oneCell') = true := by simp [nuA, Value.oneCell']
theorem fr_row (V : World) (gn : Nat) (cs : Array Value) : Fr (fun x => x = gn) V (V.setRow gn cs) := ⟨rfl, rfl, rfl, by rw [setRow_size]; exact Nat.le_refl _, fun k _ hn => setRow_other _ _ _ _ hn⟩
theorem NuS.zero (I : ScI R) (h : ∃ s, SV R w p (fun x => x = gn) s V ∧ NuO s T 0 0) (hB : Blk V gn 81 (nuA a b)) (hg : w.heap.size ≤ gn) : NuS R w p gn T 0 0 (V.setRow gn (nuA 0 0)) := by
  obtain ⟨s, hS, hN⟩ := h
  exact ⟨by omega, by omega, ⟨s, hS.turns I (fr_row _ _ _) (fun i e => by rw [show i = gn from e]; exact hg), hN⟩, setRow_heap _ _ _ _ _ _ hB⟩
theorem NuS.all (I : ScI R) (h : NuS R w p gn T a b V) : Calls Try.prog 21 #[qptr p] V fun e w' => e = .returned (.int .i64 0) ∧ V = w' := by
  obtain ⟨h1, h2, ⟨s, hS, hN⟩, hB⟩ := h
  exact (hS.all I).mono (by rintro e w' ⟨rfl, h⟩; exact ⟨by rw [hN.none.1]; rfl, h⟩)
theorem NuS.bytes (I : ScI R) (h : NuS R w p gn T a b V) : Calls Try.prog 20 #[qptr p, .int .u16 7] V fun e w' => e = .returned (.int .i64 0) ∧ V = w' := by
  obtain ⟨h1, h2, ⟨s, hS, hN⟩, hB⟩ := h
  exact (hS.bytes I (st := 7) (by omega)).mono (by rintro e w' ⟨rfl, h⟩; exact ⟨by rw [hN.none.2]; rfl, h⟩)
theorem NuC.bel (h : NuC R w p gn T a b gk lo V) : Below w.heap.size w V := by obtain ⟨_, _, ⟨s, h, _⟩, _⟩ := h; exact h.bel
theorem NuP.bel (h : NuP R w p gn T a b id lo V) : Below w.heap.size w V := by obtain ⟨_, _, ⟨s, h, _⟩, _⟩ := h; exact h.bel
theorem NuC.drewN (I : ScI R) (h : NuC R w p gn T a b gk lo V) (hg : w.heap.size ≤ gn) (n : Nat) : NuC R w p gn T a b gk lo (V.drewN n) := by
  obtain ⟨h1, h2, ⟨s, hS, hN⟩, hB, x1, x2, x3, x4, x5⟩ := h
  exact ⟨h1, h2, ⟨s, hS.turns I ((Fr.refl (fun x => x = gn) V).drewN n) (fun i e => by rw [show i = gn from e]; exact hg), hN⟩, hB.drewN n, x1, x2, x3, x4, x5⟩
/-- The law has counted on. -/
theorem NuC.done (I : ScI R) (h : NuC R w p gn T a b gk lo V) (hg : w.heap.size ≤ gn) (u : Int) (hu : u = (((if lo = true then (b + 1) % 4294967296 else (a + 1) % 4294967296) : Nat) : Int)) (i : Nat) (hi : i = if lo = true then 1 else 0) :
    NuS R w p gn (T + 2) (if lo = true then a else (a + 1) % 4294967296) (if lo = true then (b + 1) % 4294967296 else b) (V.setCell ⟨gn, i, none⟩ (.int .u32 u)) := by
  obtain ⟨h1, h2, ⟨s, hS, hN⟩, hB, _⟩ := h
  refine ⟨?_, ?_, ⟨s, hS.turns I ((Fr.refl (fun x => x = gn) V).setCell (p := ⟨gn, i, none⟩) (.inl rfl) _) (fun i e => by rw [show i = gn from e]; exact hg), hN⟩, ?_⟩
  · cases lo <;> simp <;> omega
  · cases lo <;> simp <;> omega
  · have := hB.set_ i (.int .u32 u)
    subst hu hi
    cases lo <;> exact this
end
end Go.Proofs.Ytkjlmibjpfmfnaa.Sc
