/-
  What the laws of layer 6 share: what must be answered ahead of everything else; chunks that came in.
-/
import Derived.Test.YtabkjgklmibagaaChLaw
set_option linter.unusedVariables false
set_option linter.unusedSimpArgs false
namespace Go.Proofs.Ytabkjgklmibagaa.Chk
open Go.ChangeShapes Go.WideShapes Go.ChangeAt Go.RowKit Go.Deep Go.Proofs.Ytabkjgklmibagaa.Words Go.Proofs.Ytabkjgklmibagaa.Oct Go.Proofs.Ytabkjgklmibagaa.Par

/-! ### chunks that came in -/
abbrev GapSh : Sh := .strct (.pair (.int .u16) (.pair (.int .u16) .nil))
abbrev SkpSh : Sh := .strct (.pair (.int .u16) (.pair .bool (.pair (.int .u32) .nil)))
abbrev CkSh : Sh := .strct (.pair (.int .u8) (.pair .bool (.pair .bool (.pair .bool (.pair .bool (.pair (.int .u32) (.pair (.int .u16) (.pair (.int .u32) (.pair (.int .u32) (.pair (.int .u32) (.pair (.int .u32) (.pair (.int .u32) (.pair (.int .u16) (.pair (.int .u16)
  (.pair (.slice GapSh) (.pair (.slice (.int .u32)) (.pair (.slice SkpSh) (.pair (.slice PrmSh) (.pair Sh.bytes .nil)))))))))))))))))))
theorem ckSh_fits : fitsB Try.prog CkSh 42 0 [] = true := by kernel_rfl
theorem nat_of {k : IntKind} {n : Int} (h0 : 0 ≤ n) : Value.int k n = .int k ((n.toNat : Nat) : Int) := by rw [Int.toNat_of_nonneg h0]
theorem flat_get {α : Type} {f : α → List Value} {m : Nat} (hf : ∀ x, (f x).length = m) : ∀ (l : List α) (k : Nat) (x : α) (j : Nat), l[k]? = some x → j < m → ((l.map f).flatten)[k * m + j]? = (f x)[j]? := by
  intro l
  induction l with
  | nil => intro k x j h; simp at h
  | cons y l ih =>
    intro k x j h hj
    cases k with
    | zero =>
      simp only [List.getElem?_cons_zero, Option.some.injEq] at h
      subst h
      rw [List.map_cons, List.flatten_cons, List.getElem?_append_left (by rw [hf]; omega), Nat.zero_mul, Nat.zero_add]
    | succ k =>
      rw [List.map_cons, List.flatten_cons, List.getElem?_append_right (by rw [hf, Nat.succ_mul]; omega), hf, show (k + 1) * m + j - m = k * m + j by rw [Nat.succ_mul]; omega]
      exact ih k x j (by simpa using h) hj
theorem flat_len {α : Type} {f : α → List Value} {m : Nat} (hf : ∀ x, (f x).length = m) (l : List α) : ((l.map f).flatten).length = l.length * m := by
  induction l with
  | nil => simp
  | cons y l ih => rw [List.map_cons, List.flatten_cons, List.length_append, hf, ih, List.length_cons, Nat.succ_mul]; omega
/-- A slice of structs that came in, as a list. -/
theorem rows_of {α : Type} {w : World} {e : Sh} {v : Value} (f : α → List Value) (hf : ∀ x, (f x).length = e.size) (he : 0 < e.size) (ok : α → Prop) (hs : ∀ cs, cs.length = e.size → Sees w e cs → ∃ x, cs = f x ∧ ok x) (h : Sees w (.slice e) [v]) :
    ∃ (hd : Hd) (l : List α), v = hd.v l.length ∧ hd.okN l.length ∧ Reads w w.heap.size e.size hd.A l.length ((l.map f).flatten) ∧ ∀ x ∈ l, ok x := by
  obtain ⟨A, n, c, rfl, hc, hm, hel⟩ := h.elems
  have hch : ∀ i, i < n → ∃ x : α, (∃ a, A = some a ∧ ∀ j u, (f x)[j]? = some u → w.cell? (a.add (i * e.size + j)) = some u) ∧ ok x := fun i hi => by
    obtain ⟨a, cs, hA, hl, hcell, hse⟩ := hel i hi
    obtain ⟨x, rfl, hx⟩ := hs cs hl hse
    exact ⟨x, ⟨a, hA, hcell⟩, hx⟩
  rcases Nat.eq_zero_or_pos n with h0 | h0
  · subst h0
    exact ⟨⟨A, c⟩, [], rfl, ⟨hc, hm⟩, by simpa using (Reads.none_ (w := w) (B := w.heap.size) (size := e.size) (A := A)), fun x hx => by simp at hx⟩
  · obtain ⟨x0, _⟩ := hch 0 h0
    haveI : Nonempty α := ⟨x0⟩
    obtain ⟨D, hD⟩ : ∃ D : Nat → α, ∀ i, i < n → (∃ a, A = some a ∧ ∀ j u, (f (D i))[j]? = some u → w.cell? (a.add (i * e.size + j)) = some u) ∧ ok (D i) := by
      refine ⟨fun i => if h : i < n then (hch i h).choose else x0, fun i hi => ?_⟩
      simp only [dif_pos hi]
      exact (hch i hi).choose_spec
    refine ⟨⟨A, c⟩, (List.range n).map D, by simp [Hd.v], by simpa [Hd.okN] using ⟨hc, hm⟩, ⟨flat_len hf _, fun _ => ?_⟩, fun x hx => ?_⟩
    · obtain ⟨⟨a, hA, hcell0⟩, _⟩ := hD 0 h0
      have hblk : a.block < w.heap.size := by
        have hl := hf (D 0)
        have hg : (f (D 0))[0]? = some ((f (D 0))[0]'(by omega)) := List.getElem?_eq_getElem (by omega)
        have := World.block_lt_of_cell? w _ (hcell0 0 _ hg)
        rwa [block_of_add] at this
      refine ⟨a, hA, hblk, fun j u hu => ?_⟩
      have hjl : j < ((List.range n).map D).length * e.size := by rw [← flat_len hf]; exact (List.getElem?_eq_some_iff.1 hu).1
      have hjd : j / e.size < n := by
        rw [List.length_map, List.length_range] at hjl
        exact (Nat.div_lt_iff_lt_mul he).2 hjl
      have hjm : j % e.size < e.size := Nat.mod_lt _ he
      have hx : ((List.range n).map D)[j / e.size]? = some (D (j / e.size)) := by rw [List.getElem?_map, List.getElem?_range hjd]; rfl
      have hj : j = j / e.size * e.size + j % e.size := by rw [Nat.mul_comm]; exact (Nat.div_add_mod j e.size).symm
      rw [hj, flat_get hf _ _ _ _ hx hjm] at hu
      obtain ⟨⟨a', hA', hcell⟩, _⟩ := hD (j / e.size) hjd
      rw [hA] at hA'
      injection hA' with hA'
      subst hA'
      rw [hj]
      exact hcell _ _ hu
    · simp only [List.mem_map, List.mem_range] at hx
      obtain ⟨i, hi, rfl⟩ := hx
      exact (hD i hi).2
theorem bounds_u8n {n : Int} (h : (Lit.int .u8 n).wf = true) : 0 ≤ n ∧ n.toNat < 256 := by have := bounds_u8' h; omega
theorem bounds_u16n {n : Int} (h : (Lit.int .u16 n).wf = true) : 0 ≤ n ∧ n.toNat < 65536 := by have := bounds_u16 h; omega
theorem bounds_u32n {n : Int} (h : (Lit.int .u32 n).wf = true) : 0 ≤ n ∧ n.toNat < 4294967296 := by have := bounds_u32 h; omega
theorem one_cell {cs : List Value} (h : cs.length = 1) : ∃ v, cs = [v] := by
  match cs, h with
  | [v], _ => exact ⟨v, rfl⟩
theorem dupC_flat (l : List Nat) : (l.map fun d : Nat => [Value.int .u32 (d : Int)]).flatten = dupC l := by
  induction l with
  | nil => rfl
  | cons d l ih => rw [List.map_cons, List.flatten_cons, ih]; rfl
set_option maxHeartbeats 2000000 in
theorem ck_of {w : World} {cs : Array Value} (h : Sees w CkSh cs.toList) : ∃ c : Ck, CkAt w w.heap.size cs c := by
  obtain ⟨s0, t0, e0, l0, ⟨x0, rfl, h0⟩, s1, t1, e1, l1, ⟨x1, rfl⟩, s2, t2, e2, l2, ⟨x2, rfl⟩, s3, t3, e3, l3, ⟨x3, rfl⟩, s4, t4, e4, l4, ⟨x4, rfl⟩, s5, t5, e5, l5, ⟨x5, rfl, h5⟩, s6, t6, e6, l6, ⟨x6, rfl, h6⟩, s7, t7, e7, l7, ⟨x7, rfl, h7⟩, s8, t8, e8, l8, ⟨x8, rfl, h8⟩, s9, t9, e9, l9, ⟨x9, rfl, h9⟩, s10, t10, e10, l10, ⟨x10, rfl, h10⟩, s11, t11, e11, l11, ⟨x11, rfl, h11⟩, s12, t12, e12, l12, ⟨x12, rfl, h12⟩, s13, t13, e13, l13, ⟨x13, rfl, h13⟩,
    s14, t14, e14, l14, hg, s15, t15, e15, l15, hd, s16, t16, e16, l16, hs, s17, t17, e17, l17, hp, s18, t18, e18, l18, hb, rfl⟩ := h
  obtain ⟨vg, rfl⟩ := one_cell l14
  obtain ⟨vd, rfl⟩ := one_cell l15
  obtain ⟨vs, rfl⟩ := one_cell l16
  obtain ⟨vp, rfl⟩ := one_cell l17
  obtain ⟨vb, rfl⟩ := one_cell l18
  obtain ⟨G, lg, rfl, og, rg, kg⟩ := rows_of (α := Gp) (fun g => [Value.int .u16 (g.1 : Int), .int .u16 (g.2 : Int)]) (fun _ => rfl) (by decide) (fun g => g.1 < 65536 ∧ g.2 < 65536) (fun c _ hc => by
    obtain ⟨c1, r1, rfl, _, ⟨a, rfl, ha⟩, c2, r2, rfl, _, ⟨b, rfl, hb⟩, rfl⟩ := hc
    have h1 := bounds_u16n ha
    have h2 := bounds_u16n hb
    exact ⟨(a.toNat, b.toNat), by simp [Int.toNat_of_nonneg h1.1, Int.toNat_of_nonneg h2.1], h1.2, h2.2⟩) hg
  obtain ⟨D, ld, rfl, od, rd, kd⟩ := rows_of (α := Nat) (fun d => [Value.int .u32 (d : Int)]) (fun _ => rfl) (by decide) (fun d => d < 4294967296) (fun c _ hc => by
    obtain ⟨a, rfl, ha⟩ := hc
    have h1 := bounds_u32n ha
    exact ⟨a.toNat, by simp [Int.toNat_of_nonneg h1.1], h1.2⟩) hd
  obtain ⟨S, ls, rfl, os, rs, ks⟩ := rows_of (α := Skp) (fun s => [Value.int .u16 (s.1 : Int), .bool s.2.1, .int .u32 (s.2.2 : Int)]) (fun _ => rfl) (by decide) (fun s => s.1 < 65536 ∧ s.2.2 < 4294967296) (fun c _ hc => by
    obtain ⟨c1, r1, rfl, _, ⟨a, rfl, ha⟩, c2, r2, rfl, _, ⟨b, rfl⟩, c3, r3, rfl, _, ⟨m, rfl, hm⟩, rfl⟩ := hc
    have h1 := bounds_u16n ha
    have h2 := bounds_u32n hm
    exact ⟨(a.toNat, b, m.toNat), by simp [Int.toNat_of_nonneg h1.1, Int.toNat_of_nonneg h2.1], h1.2, h2.2⟩) hs
  obtain ⟨PA, pc, lp, rfl, op1, op2, rp⟩ := ps_of hp
  obtain ⟨BA, bc, lb, rfl, ob1, ob2, rb⟩ := hb.bytes
  have k0 := bounds_u8n h0
  have k5 := bounds_u32n h5
  have k6 := bounds_u16n h6
  have k7 := bounds_u32n h7
  have k8 := bounds_u32n h8
  have k9 := bounds_u32n h9
  have k10 := bounds_u32n h10
  have k11 := bounds_u32n h11
  have k12 := bounds_u16n h12
  have k13 := bounds_u16n h13
  have kp : ∀ p ∈ lp, p.1 < 65536 := fun p hp => by
    obtain ⟨k, hk, rfl⟩ := List.mem_iff_getElem.1 hp
    obtain ⟨_, _, _, _, _, h3, _⟩ := rp k _ (List.getElem?_eq_getElem hk)
    exact h3
  have rd2 : Reads w w.heap.size 1 D.A ld.length (dupC ld) := by
    rw [← dupC_flat ld]
    exact rd
  refine ⟨⟨x0.toNat, x1, x2, x3, x4, x5.toNat, x6.toNat, x7.toNat, x8.toNat, x9.toNat, x10.toNat, x11.toNat, x12.toNat, x13.toNat, lg, ld, ls, lp, lb⟩, ⟨k0.2, k5.2, k6.2, k7.2, k8.2, k9.2, k10.2, k11.2, k12.2, k13.2, kg, kd, ks, kp⟩, G, D, S, ⟨PA, pc⟩, ⟨BA, bc⟩, ?_, og, od, os, ⟨op1, op2⟩, ⟨ob1, ob2⟩, rg, rd2, rs, rp, rb⟩
  apply Array.toList_inj.1
  rw [e0, e1, e2, e3, e4, e5, e6, e7, e8, e9, e10, e11, e12, e13, e14, e15, e16, e17, e18]
  simp [ckArr, Int.toNat_of_nonneg k0.1, Int.toNat_of_nonneg k5.1, Int.toNat_of_nonneg k6.1, Int.toNat_of_nonneg k7.1, Int.toNat_of_nonneg k8.1, Int.toNat_of_nonneg k9.1, Int.toNat_of_nonneg k10.1, Int.toNat_of_nonneg k11.1, Int.toNat_of_nonneg k12.1, Int.toNat_of_nonneg k13.1, Hd.v]

/-! ### first -/
theorem wpList_build_two {P : Program} {ops : Array Oper} {rest : List Oper} {o : Oper} {a : Act} {w : World} {Q : Exit → Act → World → Prop} (hg : o.guard = none) (t : TypeId) (i j : Nat) (u v : Value) (ho : o.op = .build t #[(i, .const u), (j, .const v)]) (cells : Array Value)
    (hf : P.built t [(i, u), (j, v)] = some cells) (h : wpList P ops Q rest (a.put o.dst (.agg cells)) w) : wpList P ops Q (o :: rest) a w :=
  wpList_build_as hg t _ ho cells (by simpa [Act.eval] using hf) h
/-- A chunk laid into a variable just made. -/
theorem kept_ck (W : World) (z cs : Array Value) : CkBlk ((W.alloc (.cells z 42)).setRow W.heap.size cs) W.heap.size cs ∧ Below W.heap.size W ((W.alloc (.cells z 42)).setRow W.heap.size cs) :=
  ⟨setRow_blk (Blk.new W _ z), below_fr ((Below.refl W.heap.size W).alloc (Nat.le_refl _) _) (setRow_fr _ W.heap.size cs) (Nat.le_refl _) (fun i e => by have e' : i = W.heap.size := e; omega)⟩
def fiveC : Ck := { zeroC 7 with tsn := 5 }
theorem built_five : Try.prog.built 42 [(0, .int .u8 7), (5, .int .u32 5)] = some (ckArr fiveC nilV nilV nilV nilV nilV) := by kernel_rfl
theorem built_zero : Try.prog.built 42 [(0, .int .u8 0)] = some (ckArr (zeroC 0) nilV nilV nilV nilV nilV) := by kernel_rfl
theorem five_ok : fiveC.ok := by
  have z := zero_ok (k := 7) (by omega)
  exact ⟨z.kind, by show 5 < _; omega, z.st, z.mid, z.pp, z.fr, z.tag, z.win, z.out, z.inn, z.gaps, z.dups, z.skips, z.ps⟩
theorem five_bytes : bytesC fiveC = [7, 0, 0, 8, 0, 0, 0, 5] := by decide
theorem five_get : getC [7, 0, 0, 8, 0, 0, 0, 5] = .ok (fiveC, 8) := by rfl
theorem small_nil {c : Ck} (b : Bare c) : Small c := by
  obtain ⟨b1, b2, b3, b4, b5⟩ := b
  exact ⟨by rw [b5]; simp, by rw [b3]; simp, by rw [b4]; simp [sizeL]⟩
end Go.Proofs.Ytabkjgklmibagaa.Chk
