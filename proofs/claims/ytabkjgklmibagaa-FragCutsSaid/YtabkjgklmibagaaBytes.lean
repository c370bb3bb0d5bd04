/-
  Bytes of a call's own, slices.Clone at bytes, and frames: which blocks a step may turn.
-/
import Derived.Test.YtabkjgklmibagaaWords
import Derived.Deep.CutBlock
set_option linter.unusedVariables false
set_option linter.unusedSimpArgs false
namespace Go.Proofs.Ytabkjgklmibagaa.Words
open Go.ChangeShapes Go.WideShapes Go.ChangeAt Go.RowKit

/-! ### frames -/
/-- Only blocks of S, and new ones, have turned. -/
structure Fr (S : Nat → Prop) (w w' : World) : Prop where
  os : w'.os = w.os
  tape : w'.tape = w.tape
  output : w'.output = w.output
  size : w.heap.size ≤ w'.heap.size
  block : ∀ k, k < w.heap.size → ¬ S k → w'.heap[k]? = w.heap[k]?
section
variable {S S' T : Nat → Prop} {a b c w w' : World}
theorem Fr.refl (S : Nat → Prop) (w : World) : Fr S w w := ⟨rfl, rfl, rfl, Nat.le_refl _, fun _ _ _ => rfl⟩
theorem Fr.trans (h : Fr S a b) (k : Fr S' b c) (hs : ∀ x, x < a.heap.size → S' x → S x) : Fr S a c :=
  ⟨k.os.trans h.os, k.tape.trans h.tape, k.output.trans h.output, Nat.le_trans h.size k.size, fun x hx hn => (k.block x (Nat.lt_of_lt_of_le hx h.size) (fun hx' => hn (hs x hx hx'))).trans (h.block x hx hn)⟩
theorem Fr.same (h : Fr S a b) (k : Fr S b c) : Fr S a c := h.trans k (fun _ _ hx => hx)
theorem Fr.mono (h : Fr S a b) (hs : ∀ x, x < a.heap.size → S x → T x) : Fr T a b :=
  ⟨h.os, h.tape, h.output, h.size, fun x hx hn => h.block x hx (fun hx' => hn (hs x hx hx'))⟩
theorem Fr.drewN (h : Fr S a b) (n : Nat) : Fr S a (b.drewN n) := ⟨h.os, h.tape, h.output, h.size, h.block⟩
theorem Fr.drew (h : Fr S a b) : Fr S a b.drew := ⟨h.os, h.tape, h.output, h.size, h.block⟩
theorem Fr.alloc (h : Fr S a b) (o : Obj) : Fr S a (b.alloc o) :=
  ⟨h.os, h.tape, h.output, Nat.le_trans h.size (by simp), fun x hx hn => (Below.heap_alloc b o x (Nat.lt_of_lt_of_le hx h.size)).trans (h.block x hx hn)⟩
theorem Fr.setCell (h : Fr S a b) {p : Addr} (hp : S p.block ∨ a.heap.size ≤ p.block) (u : Value) : Fr S a (b.setCell p u) :=
  ⟨h.os, h.tape, h.output, by simpa [World.setCell] using h.size, fun x hx hn => (Below.heap_setCell b p u x (by
    rintro rfl
    rcases hp with hp | hp
    · exact hn hp
    · omega)).trans (h.block x hx hn)⟩
theorem Fr.grown {row : Option Nat} (h : Fr S a b) (k : b.grownBy c row) (hs : ∀ g, row = some g → S g ∨ a.heap.size ≤ g) : Fr S a c :=
  ⟨k.os.trans h.os, k.tape.trans h.tape, k.output.trans h.output, Nat.le_trans h.size k.size, fun x hx hn => (k.block x (Nat.lt_of_lt_of_le hx h.size) (fun e => by
    rcases hs x e.symm with h1 | h1
    · exact hn h1
    · omega)).trans (h.block x hx hn)⟩
theorem Fr.below {B : Nat} (h : Fr S a b) (k : Below B b c) (hs : ∀ x, B ≤ x → x < a.heap.size → S x) : Fr S a c :=
  ⟨k.os.trans h.os, k.tape.trans h.tape, k.output.trans h.output, Nat.le_trans h.size k.size, fun x hx hn => by
    rcases Nat.lt_or_ge x B with h1 | h1
    · exact (k.block x h1).trans (h.block x hx hn)
    · exact absurd (hs x h1 hx) hn⟩
theorem Fr.grows (h : Fr S a b) (k : Below b.heap.size b c) : Fr S a c := h.below k (fun x h1 h2 => by have := h.size; omega)
theorem Fr.of_below {B : Nat} (h : Below B a b) : Fr (fun k => B ≤ k) a b := ⟨h.os, h.tape, h.output, h.size, fun k _ hn => h.block k (by omega)⟩
theorem Fr.to_below {B : Nat} (h : Fr S a b) (hB : B ≤ a.heap.size) (hs : ∀ x, S x → B ≤ x) : Below B a b :=
  ⟨h.os, h.tape, h.output, h.size, fun x hx => h.block x (by omega) (fun h1 => by have := hs x h1; omega)⟩
/-- Behind something that lies below B, a step that turns what lies from B on alone. -/
theorem below_fr {B : Nat} (h : Below B a b) (k : Fr S b c) (hB : B ≤ a.heap.size) (hs : ∀ x, S x → B ≤ x) : Below B a c := h.trans (k.to_below (Nat.le_trans hB h.size) hs)
theorem Fr.of_grown {row : Option Nat} (h : a.grownBy b row) : Fr (fun k => some k = row) a b := ⟨h.os, h.tape, h.output, h.size, fun k hk hn => h.block k hk hn⟩
theorem Fr.blk {g : Nat} {t : TypeId} {cs : Array Value} (h : Fr S w w') (k : Blk w g t cs) (hg : ¬ S g) : Blk w' g t cs := (h.block g k.lt hg).trans k
theorem Fr.byt {B : Nat} {A : Option Addr} {l : List UInt8} (h : Fr S w w') (k : Byt w B A l) (hB : B ≤ w.heap.size) (hA : ∀ x, A = some x → ¬ S x.block) : Byt w' B A l :=
  ⟨k.1, fun hn => by
    obtain ⟨ad, e, hb, hc⟩ := k.2 hn
    exact ⟨ad, e, hb, fun j u hu => (World.cell?_of_block (h.block _ (by rw [block_of_add]; omega) (by rw [block_of_add]; exact hA ad e))).trans (hc j u hu)⟩⟩
theorem Fr.reads {B size n : Nat} {A : Option Addr} {xs : List Value} (h : Fr S w w') (k : Reads w B size A n xs) (hB : B ≤ w.heap.size) (hA : ∀ x, A = some x → ¬ S x.block) : Reads w' B size A n xs :=
  ⟨k.1, fun hn => by
    obtain ⟨ad, e, hb, hc⟩ := k.2 hn
    exact ⟨ad, e, hb, fun j u hu => (World.cell?_of_block (h.block _ (by rw [block_of_add]; omega) (by rw [block_of_add]; exact hA ad e))).trans (hc j u hu)⟩⟩
theorem Fr.own {B size n : Nat} {e : TypeId} {v : Value} {xs : List Value} (h : Fr S w w') (k : w.ownsRow B e size v n xs) (hv : ∀ g, v.ownBlock = some g → ¬ S g) : w'.ownsRow B e size v n xs := by
  refine ⟨k.1, ?_⟩
  rcases k.2 with hh | ⟨g, cap, cur, h1, h2, h3, h4⟩
  · exact .inl hh
  · subst h1
    have hlt : g < w.heap.size := Blk.lt (t := e) h3
    exact .inr ⟨g, cap, cur, rfl, h2, (h.block g hlt (hv g (by simp [Value.ownBlock]))).trans h3, h4⟩
end

/-- As wpList_append_any, where the append stands behind a guard that says yes. -/
theorem wpList_append_want {P : Program} (w : World) {ops : Array Oper} {rest : List Oper} {o : Oper} {a : Act} {Q : Exit → Act → World → Prop} (hgd : Region.wanted o (yielded ops a.tmps) = true) (s x : Operand) (t : TypeId)
    (ho : o.op = .call { callee := .builtin .append, args := #[s, x], argTypes := #[t, t] })
    (base : Nat) (e : TypeId) (i : TypeInfo) (z : Value) (size bytes : Nat) (ht : P.underlying t = some (.slice e)) (hi : P.info? e = some i) (hz : i.zero = some z)
    (hsize : i.size = size) (hby : i.bytes = bytes) (hzs : z.cells.size = size) (hsz : 0 < size)
    (v : Value) (n : Nat) (xs : List Value) (hs : a.eval s = v) (hown : w.ownsRow base e size v n xs)
    (B : Nat) (A : Option Addr) (m c : Nat) (news : List Value) (hx : a.eval x = .slice A m c) (hr : Reads w B size A m news) (h1 : ∀ u ∈ news, u.oneCell' = true)
    (h63 : n + m ≤ maxLen) (hbytes : (n + m) * bytes ≤ 140737488355328) (hbase : base ≤ w.heap.size)
    (h : ∀ v' w', w'.ownsRow base e size v' (n + m) (xs ++ news) → w.grownBy w' v.ownBlock → (v'.ownBlock = v.ownBlock ∨ v'.ownBlock = some w.heap.size) → wpList P ops Q rest (a.put o.dst v') w') : wpList P ops Q (o :: rest) a w :=
  BigFrame.wpList_want hgd fun _ hK => wp_append_any w s x t ho base e i z size bytes ht hi hz hsize hby hzs hsz v n xs hs hown B A m c news hx hr h1 h63 hbytes hbase fun v' w' h2 h3 h4 => hK _ _ (h v' w' h2 h3 h4)

/-! ### bytes of the call's own -/
theorem u8_info : (Try.prog.info? 5).map (fun i => (i.zero, i.size, i.bytes)) = some (some (.int .u8 0), 1, 1) := by kernel_rfl
/-- A row of bytes of the call's own. -/
abbrev Own (w : World) (B : Nat) (v : Value) (l : List UInt8) : Prop := w.ownsRow B 5 1 v l.length (u8s l)
theorem u8s_set (l : List UInt8) (i : Nat) (b : UInt8) : (u8s l).set i (.int .u8 (b.toNat : Int)) = u8s (l.set i b) := by simp [u8s, List.map_set]
theorem Own.byt {w : World} {B : Nat} {A : Option Addr} {c n : Nat} {l : List UInt8} (h : Own w B (.slice A n c) l) : Byt w w.heap.size A l := by
  have hn : n = l.length := by
    rcases h.2 with ⟨h1, h3⟩ | ⟨g, cap, cur, h1, _⟩
    · injection h1 with _ h2
      omega
    · injection h1
  subst hn
  exact Reads.of_own h
theorem own_mono {w : World} {B B' : Nat} {e : TypeId} {size n : Nat} {v : Value} {xs : List Value} (h : w.ownsRow B e size v n xs) (hB : B' ≤ B) : w.ownsRow B' e size v n xs := by
  refine ⟨h.1, ?_⟩
  rcases h.2 with h | ⟨g, cap, cur, h1, h2, h3⟩
  · exact .inl h
  · exact .inr ⟨g, cap, cur, h1, Nat.le_trans hB h2, h3⟩
theorem own_as {w : World} {B n : Nat} {v : Value} {y : List UInt8} (h : Own w B v y) (hn : n = y.length) : ∃ A c, v = .slice A n c ∧ n ≤ c ∧ c ≤ 9223372036854775807 ∧ Hid (Byt w w.heap.size A y) := by
  obtain ⟨A, c, rfl, h1, h2⟩ := own_slice h
  subst hn
  exact ⟨A, c, rfl, h1, h2, Reads.of_own h⟩

set_option maxHeartbeats 1000000 in
theorem clone_any (A : Option Addr) (l : List UInt8) (c : Nat) (w : World) (hl : l.length ≤ 1000000) (h : Byt w w.heap.size A l) :
    Calls Try.prog 39 #[.slice A l.length c] w fun e w' => (∃ v, e = .returned v ∧ Own w' w.heap.size v l) ∧ Below w.heap.size w w' := by
  obtain ⟨i0, hi0, hz0, hz1, hz2⟩ := info_parts3 u8_info
  have hnil := fun (W : World) (a : Option Addr) (n c : Nat) => Lib.run_eql_slice_nil (P := Try.prog) W 24 5 a n c 0 0 Try.underlying24
  rcases A with _ | ad
  · have h0 : l = [] := by
      rcases Nat.eq_zero_or_pos l.length with h0 | h0
      · exact List.eq_nil_of_length_eq_zero h0
      · obtain ⟨ad, e, _⟩ := h.2 h0; cases e
    subst h0
    go_enter Try.func39, Try.ntmps39
    go_wp2
    go_ret
    exact ⟨⟨_, rfl, World.ownsRow_nil _ _ _ _⟩, Below.refl _ _⟩
  · have HB := Lib.hid h
    obtain ⟨n, hn⟩ : ∃ n, n = l.length := ⟨_, rfl⟩
    rw [← hn] at hl ⊢
    have HN := Lib.hid hn
    clear h hn
    go_enter Try.func39, Try.ntmps39
    go_wp2_with (at_builtin; refine wpList_append_any _ rfl (.tmp 5) (.tmp 6) _ rfl w.heap.size 5 i0 _ 1 1 Try.underlying24 hi0 hz0 hz1 hz2 rfl (by omega) (.slice (some ⟨w.heap.size, 0, none⟩) 0 0) 0 [] rfl (own_empty w _) w.heap.size (some ad) n c (u8s l) rfl (by have := HB.out; unfold Byt at this; rw [← HN.out] at this; exact this.alloc (Nat.le_refl _) _) (u8s_one l) (by simp only [maxLen]; omega) (by omega) (by simp) ?_; intro v1 w1 hown1 hg1 hat1)
    go_ret
    refine ⟨⟨v1, rfl, ?_⟩, ?_⟩
    · simp only [Nat.zero_add, List.nil_append] at hown1
      unfold Own
      rw [← HN.out]
      exact hown1
    · exact ((Below.refl _ _).alloc (Nat.le_refl _) _).grown hg1 (by simp) (fun b e => by simp [Value.ownBlock] at e; omega)
/-- Clone, handed a slice whose length is named otherwise. -/
theorem clone_as (A : Option Addr) (l : List UInt8) (n c : Nat) (w : World) (hn : n = l.length) (hl : l.length ≤ 1000000) (h : Byt w w.heap.size A l) :
    Calls Try.prog 39 #[.slice A n c] w fun e w' => (∃ v, e = .returned v ∧ Own w' w.heap.size v l) ∧ Below w.heap.size w w' := by
  subst hn
  exact clone_any A l c w hl h

/-- A piece of what came in, copied: what many laws begin with. -/
theorem copied {w W1 w1 : World} {q : Nat} {v : Value} {x : List UInt8} (hb : Below w.heap.size w W1) (h : w1.ownsRow W1.heap.size 5 1 v (0 + q) ([] ++ u8s x)) (hq : q = x.length)
    (hg : (W1.alloc (.cells #[] 5)).grownBy w1 (Value.slice (some ⟨W1.heap.size, 0, none⟩) 0 0).ownBlock) :
    ∃ n A c, v = .slice A n c ∧ Hid (n = x.length) ∧ n ≤ q ∧ n ≤ c ∧ c ≤ 9223372036854775807 ∧ Hid (w1.ownsRow W1.heap.size 5 1 (.slice A n c) n (u8s x)) ∧ Hid (Below W1.heap.size W1 w1) := by
  simp only [Nat.zero_add, List.nil_append] at h
  obtain ⟨A, c, rfl, h1, h2⟩ := own_slice h
  refine ⟨q, A, c, rfl, hq, Nat.le_refl _, h1, h2, h, ?_⟩
  refine ((Below.refl _ W1).alloc (Nat.le_refl _) _).grown hg (by simp) (fun b e => ?_)
  have : some W1.heap.size = some b := e
  injection this with this
  omega
theorem byt_of_heap {w : World} {B g : Nat} {t : TypeId} {fr : Nat × Nat} {cs : Array Value} (h : w.heap[g]? = some (.cells cs t fr)) (hB : g < B) {l : List UInt8} (hl : cs.toList.take l.length = u8s l) : Byt w B (some ⟨g, 0, none⟩) l := by
  refine ⟨by simp [u8s_length], fun _ => ⟨_, rfl, hB, fun j u hu => ?_⟩⟩
  have hj : j < l.length := by
    have := (List.getElem?_eq_some_iff.1 hu).1
    simpa [u8s_length] using this
  have hc : w.cell? ((⟨g, 0, none⟩ : Addr).add j) = cs[j]? := by
    rw [← cell_of_row w g j cs t fr h]
    unfold Addr.add
    split
    · rename_i e; rw [e]
    · simp
  rw [hc, ← hu, ← hl, List.getElem?_take, if_pos hj]
  simp
theorem heap_kept (w : World) (o : Obj) {g : Nat} {x : Obj} (h : w.heap[g]? = some x) : (w.alloc o).heap[g]? = some x := by
  have hlt : g < w.heap.size := by
    rcases Nat.lt_or_ge g w.heap.size with h1 | h1
    · exact h1
    · rw [Array.getElem?_eq_none h1] at h; cases h
  rw [Below.heap_alloc w o g hlt]; exact h
/-- 'string(b)', b named otherwise. -/
theorem str_as {P : Program} {w : World} {B : Nat} {A : Option Addr} {l l' : List UInt8} (h : Byt w B A l) (he : l = l') (src dst e : TypeId) (hs : P.underlying src = some (.slice e)) (hu : P.underlying e = some (.int .u8)) (hd : P.underlying dst = some .string) (n c : Nat) (hn : n = l.length) :
    (convert src dst (.slice A n c)).run P w = .ok (.string ⟨l'.toArray⟩) w := he ▸ run_str h src dst e hs hu hd n c hn
/-- A number laid into a range: int(uint(a) % uint(m)). -/
theorem u64rem (a m : Int) (hm : 0 < m) (h63 : m ≤ 9223372036854775807) : ∃ k : Nat, wrap64 ((IntKind.u64.wrap a).tmod m) = (k : Int) ∧ (k : Int) < m := by
  have h0 : 0 ≤ IntKind.u64.wrap a := by rw [IntKind.wrap_u64]; omega
  rw [Int.tmod_eq_emod_of_nonneg h0]
  have h1 := Int.emod_nonneg (IntKind.u64.wrap a) (show m ≠ 0 by omega)
  have h2 := Int.emod_lt_of_pos (IntKind.u64.wrap a) hm
  refine ⟨((IntKind.u64.wrap a) % m).toNat, ?_, by omega⟩
  rw [IntWalk.wrap64_in _ ⟨by omega, by omega⟩]
  omega
/-- 'b[k] ^= 0xff' at bytes of the call's own: what the walk needs of it, and what it leaves. -/
theorem flip_at {w : World} {B n c k : Nat} {A : Option Addr} {l : List UInt8} (h : w.ownsRow B 5 1 (.slice A n c) n (u8s l)) (hn : n = l.length) (hk : k < n) :
    ∃ (g : Nat) (x : UInt8) (l' : List UInt8), A = some ⟨g, 0, none⟩ ∧ w.cell? ⟨g, k, none⟩ = some (.int .u8 (x.toNat : Int)) ∧ w.frozen? ⟨g, k, none⟩ = false ∧ n = l'.length ∧
      ∀ y : Int, y = bits .xor .u8 (x.toNat : Int) 255 → Hid ((w.setCell ⟨g, k, none⟩ (.int .u8 y)).ownsRow B 5 1 (.slice A n c) n (u8s l')) ∧ Hid (Fr (fun i => some i = (Value.slice A n c).ownBlock) w (w.setCell ⟨g, k, none⟩ (.int .u8 y))) := by
  obtain ⟨g, cap, hA, hg1, hg2⟩ := h.form (by omega)
  injection hA with hA _ hcc
  subst hA hcc
  have hk2 : k < l.length := by omega
  have hcell : w.cell? ⟨g, k, none⟩ = (u8s l)[k]? := h.cellAt k (by omega)
  rw [u8s_get, List.getElem?_eq_getElem hk2] at hcell
  simp only [Option.map_some] at hcell
  refine ⟨g, l[k], l.set k (l[k] ^^^ 255), rfl, hcell, h.frozenAt k, by rw [List.length_set]; exact hn, fun y hy => ⟨?_, Fr.setCell (S := fun i => some i = (Value.slice (some ⟨g, 0, none⟩) n c).ownBlock) (Fr.refl _ w) (p := ⟨g, k, none⟩) (.inl rfl) _⟩⟩
  have e : y = (((l[k] ^^^ 255 : UInt8)).toNat : Int) := by
    rw [hy, show (255 : Int) = ((255 : Nat) : Int) by rfl, u8_xor_nat _ _ (l[k]).toNat_lt (by decide), UInt8.toNat_xor]
    rfl
  rw [e, ← u8s_set]
  exact (h.stored k _).1
/-- 'b[k] ^= t' at bytes of the call's own. -/
theorem flip_by {w : World} {B n c k : Nat} {A : Option Addr} {l : List UInt8} (t : UInt8) (h : w.ownsRow B 5 1 (.slice A n c) n (u8s l)) (hn : n = l.length) (hk : k < n) :
    ∃ (g : Nat) (x : UInt8), A = some ⟨g, 0, none⟩ ∧ B ≤ g ∧ w.cell? ⟨g, k, none⟩ = some (.int .u8 (x.toNat : Int)) ∧ w.frozen? ⟨g, k, none⟩ = false ∧ l[k]? = some x ∧
      ∀ y : Int, y = bits .xor .u8 (x.toNat : Int) (t.toNat : Int) → Hid ((w.setCell ⟨g, k, none⟩ (.int .u8 y)).ownsRow B 5 1 (.slice A n c) n (u8s (l.set k (x ^^^ t)))) := by
  obtain ⟨g, cap, hA, hg1, hg2⟩ := h.form (by omega)
  injection hA with hA _ hcc
  subst hA hcc
  have hk2 : k < l.length := by omega
  have hcell : w.cell? ⟨g, k, none⟩ = (u8s l)[k]? := h.cellAt k (by omega)
  rw [u8s_get, List.getElem?_eq_getElem hk2] at hcell
  simp only [Option.map_some] at hcell
  refine ⟨g, l[k], rfl, hg1, hcell, h.frozenAt k, List.getElem?_eq_getElem hk2, fun y hy => ?_⟩
  have e : y = (((l[k] ^^^ t : UInt8)).toNat : Int) := by
    rw [hy, u8_xor_nat _ _ (l[k]).toNat_lt t.toNat_lt, UInt8.toNat_xor]
  rw [e, ← u8s_set]
  exact (h.stored k _).1
theorem set_ne {l : List UInt8} {k : Nat} {x t : UInt8} (h : l[k]? = some x) (ht : t ≠ 0) : l.set k (x ^^^ t) ≠ l := by
  intro e
  have hk : k < l.length := (List.getElem?_eq_some_iff.1 h).1
  have h1 : (l.set k (x ^^^ t))[k]? = some (x ^^^ t) := by rw [List.getElem?_set_self hk]
  rw [e, h] at h1
  injection h1 with h1
  apply ht
  have h2 : x ^^^ (x ^^^ t) = x ^^^ x := by rw [← h1]
  rw [← UInt8.xor_assoc, UInt8.xor_self, UInt8.zero_xor] at h2
  exact h2
end Go.Proofs.Ytabkjgklmibagaa.Words
