/-
  Parameters in memory; the document's answers of layer 5 (flumeref05): Copy, Same, Put, Get; the laws' size.
-/
import Derived.Test.YtabkjgklmibagaaParPlain
import Derived.Test.YtabkjgklmibagaaSees
import Derived.Test.YtabkjgklmibagaaOctText
set_option linter.unusedVariables false
set_option linter.unusedSimpArgs false
namespace Go.Proofs.Ytabkjgklmibagaa.Par
open Go.ChangeShapes Go.WideShapes Go.ChangeAt Go.RowKit Go.Deep Go.Proofs.Ytabkjgklmibagaa.Words Go.Proofs.Ytabkjgklmibagaa.Oct

/-! ### parameters that are read -/
/-- A slice of parameters that reads as the list ls, below block B. -/
def Ps (w : World) (B : Nat) (A : Option Addr) (ls : List Prm) : Prop :=
  ∀ k p, ls[k]? = some p → ∃ ad a c, A = some ad ∧ ad.block < B ∧ p.1 < 65536 ∧ w.cell? (ad.add (k * 2)) = some (.int .u16 (p.1 : Int)) ∧
    w.cell? ⟨(ad.add (k * 2)).block, (ad.add (k * 2)).off + 1, none⟩ = some (.slice a p.2.length c) ∧ p.2.length ≤ c ∧ c ≤ 9223372036854775807 ∧ Byt w B a p.2
section
variable {w w' : World} {B B' : Nat} {A : Option Addr} {ls : List Prm}
theorem Ps.keep (h : Ps w B A ls) (hk : ∀ p : Addr, p.block < B → w'.cell? p = w.cell? p) : Ps w' B A ls := fun k p hp => by
  obtain ⟨ad, a, c, h1, h2, h3, h4, h5, h6, h7, h8⟩ := h k p hp
  have hb : (ad.add (k * 2)).block < B := by rw [block_of_add]; exact h2
  exact ⟨ad, a, c, h1, h2, h3, (hk _ hb).trans h4, (hk ⟨(ad.add (k * 2)).block, (ad.add (k * 2)).off + 1, none⟩ hb).trans h5, h6, h7, h8.keep hk⟩
theorem Ps.more (h : Ps w B A ls) (hB : B ≤ B') : Ps w B' A ls := fun k p hp => by
  obtain ⟨ad, a, c, h1, h2, h3, h4, h5, h6, h7, h8⟩ := h k p hp
  exact ⟨ad, a, c, h1, by omega, h3, h4, h5, h6, h7, h8.more hB⟩
theorem Ps.below (h : Ps w B A ls) (hb : Below B w w') : Ps w' B A ls := h.keep fun _ hp => hb.cell hp
theorem Ps.drewN (h : Ps w B A ls) (n : Nat) : Ps (w.drewN n) B A ls := h
theorem Ps.nil (w : World) (B : Nat) (A : Option Addr) : Ps w B A [] := fun k p hp => by simp at hp
end
abbrev PrmSh : Sh := .strct (.pair (.int .u16) (.pair Sh.bytes .nil))
theorem prmSh_fits : fitsB Try.prog (.slice PrmSh) 40 0 [] = true := by kernel_rfl
/-- What came in. -/
theorem ps_of {w : World} {v : Value} (h : Sees w (.slice PrmSh) [v]) : ∃ (A : Option Addr) (c : Nat) (ls : List Prm), v = .slice A ls.length c ∧ ls.length ≤ c ∧ c ≤ 9223372036854775807 ∧ Ps w w.heap.size A ls := by
  obtain ⟨A, n, c, rfl, hc, hm, hel⟩ := h.elems
  obtain ⟨D, hD⟩ := choose_lt (α := Prm) (n := n) (p := fun k p => ∃ ad a c, A = some ad ∧ ad.block < w.heap.size ∧ p.1 < 65536 ∧ w.cell? (ad.add (k * 2)) = some (.int .u16 (p.1 : Int)) ∧
    w.cell? ⟨(ad.add (k * 2)).block, (ad.add (k * 2)).off + 1, none⟩ = some (.slice a p.2.length c) ∧ p.2.length ≤ c ∧ c ≤ 9223372036854775807 ∧ Byt w w.heap.size a p.2) (fun i hi => by
      obtain ⟨ad, cs, hA, hl, hcell, hs⟩ := hel i hi
      obtain ⟨c1, r1, rfl, h1, ⟨K, rfl, hK⟩, c2, r2, rfl, h2, hb, rfl⟩ := hs
      match c2, h2, hb with
      | [u], _, hb =>
        obtain ⟨a, cb, lb, rfl, h5, h6, h7⟩ := hb.bytes
        have bK := bounds_u16 hK
        have e0 := hcell 0 _ rfl
        have e1 := hcell 1 _ rfl
        refine ⟨(K.toNat, lb), ad, a, cb, hA, ?_, by show K.toNat < 65536; omega, ?_, ?_, h5, h6, h7⟩
        · have := World.block_lt_of_cell? w _ e0
          rwa [block_of_add] at this
        · show _ = some (Value.int .u16 ((K.toNat : Nat) : Int))
          rw [show ((K.toNat : Nat) : Int) = K by omega]
          exact e0
        · rw [← add_of_add, add_lit _ (by omega)] at e1
          exact e1)
  refine ⟨A, c, (List.range n).map D, by simp, by simpa using hc, hm, fun k p hp => ?_⟩
  rw [List.getElem?_map] at hp
  by_cases hk : k < n
  · rw [List.getElem?_range hk] at hp
    simp only [Option.map_some, Option.some.injEq] at hp
    subst hp
    exact hD k hk
  · rw [List.getElem?_eq_none (by simpa using hk)] at hp
    cases hp

/-! ### parameters of the call's own -/
theorem prm_info : (Try.prog.info? 74).map (fun i => (i.zero, i.size, i.bytes)) = some (some (.agg #[.int .u16 0, .slice none 0 0]), 2, 32) := by kernel_rfl
/-- A row of parameters of the call's own, their values rows of bytes of its own. -/
def OwnPs (w : World) (B : Nat) (v : Value) (ls : List Prm) : Prop :=
  ∃ xs, w.ownsRow B 74 2 v ls.length xs ∧ ∀ k p, ls[k]? = some p → p.1 < 65536 ∧ ∃ a c, xs[k * 2]? = some (.int .u16 (p.1 : Int)) ∧ xs[k * 2 + 1]? = some (.slice a p.2.length c) ∧ p.2.length ≤ c ∧ c ≤ 9223372036854775807 ∧ Own w B (.slice a p.2.length c) p.2
theorem own_ne {w : World} {B B' : Nat} {e e' : TypeId} {s s' n n' : Nat} {v v' : Value} {xs xs' : List Value} (h : w.ownsRow B e s v n xs) (h' : w.ownsRow B' e' s' v' n' xs') (hne : e ≠ e') : ∀ g, v.ownBlock = some g → v'.ownBlock ≠ some g := by
  intro g hg hg'
  rcases h.2 with ⟨rfl, _⟩ | ⟨b, cap, cur, rfl, _, hb, _⟩
  · simp [Value.ownBlock] at hg
  · rcases h'.2 with ⟨rfl, _⟩ | ⟨b', cap', cur', rfl, _, hb', _⟩
    · simp [Value.ownBlock] at hg'
    · simp only [Value.ownBlock, Option.some.injEq] at hg hg'
      subst hg hg'
      exact Blk.ne_ (t := e) (t' := e') hb hb' hne rfl
section
variable {w w' : World} {B B' : Nat} {v : Value} {ls : List Prm}
theorem OwnPs.nil (w : World) (B : Nat) : OwnPs w B (.slice none 0 0) [] := ⟨[], World.ownsRow_nil _ _ _ _, fun k p h => by simp at h⟩
theorem OwnPs.fr {S : Nat → Prop} (h : OwnPs w B v ls) (k : Fr S w w') (hS : ∀ i, S i → i < w.heap.size → i < B) : OwnPs w' B v ls := by
  obtain ⟨xs, h1, h2⟩ := h
  refine ⟨xs, k.own h1 (fun g hg hi => by have := h1.lt g hg; have := hS g hi this.2; omega), fun i p hp => ?_⟩
  obtain ⟨h3, a, c, h4, h5, h6, h7, h8⟩ := h2 i p hp
  exact ⟨h3, a, c, h4, h5, h6, h7, k.own h8 (fun g hg hi => by have := h8.lt g hg; have := hS g hi this.2; omega)⟩
theorem OwnPs.grows (h : OwnPs w B v ls) (k : Below w.heap.size w w') : OwnPs w' B v ls := h.fr (Fr.of_below k) (fun i hi hlt => by omega)
theorem OwnPs.mono (h : OwnPs w B v ls) (hB : B' ≤ B) : OwnPs w B' v ls := by
  obtain ⟨xs, h1, h2⟩ := h
  refine ⟨xs, own_mono h1 hB, fun i p hp => ?_⟩
  obtain ⟨h3, a, c, h4, h5, h6, h7, h8⟩ := h2 i p hp
  exact ⟨h3, a, c, h4, h5, h6, h7, own_mono h8 hB⟩
theorem OwnPs.slice (h : OwnPs w B v ls) : ∃ A c, v = .slice A ls.length c ∧ ls.length ≤ c ∧ c ≤ 9223372036854775807 := by
  obtain ⟨xs, h1, _⟩ := h
  exact own_slice h1
theorem OwnPs.ps {A : Option Addr} {n c : Nat} (h : OwnPs w B (.slice A n c) ls) : Ps w w.heap.size A ls := fun k p hp => by
  obtain ⟨xs, h1, h2⟩ := h
  obtain ⟨h3, a, c', h4, h5, h6, h7, h8⟩ := h2 k p hp
  have hk : k < ls.length := (List.getElem?_eq_some_iff.1 hp).1
  obtain ⟨g, cap, hv, hg1, hg2⟩ := h1.form (by omega)
  injection hv with hv _ _
  subst hv
  have hcell := h1.cells (g := g) rfl
  refine ⟨⟨g, 0, none⟩, a, c', rfl, hg2, h3, hcell _ _ h4, ?_, h6, h7, Own.byt h8⟩
  have := hcell _ _ h5
  rwa [← add_of_add, add_lit _ (by omega)] at this
/-- Each cell of such a row is one cell. -/
theorem cells_one {xs : List Value} {ls : List Prm} {B : Nat} {w : World} (hl : xs.length = ls.length * 2) (h : ∀ k p, ls[k]? = some p → p.1 < 65536 ∧ ∃ a c, xs[k * 2]? = some (.int .u16 (p.1 : Int)) ∧ xs[k * 2 + 1]? = some (.slice a p.2.length c) ∧ p.2.length ≤ c ∧ c ≤ 9223372036854775807 ∧ Own w B (.slice a p.2.length c) p.2) : ∀ u ∈ xs, u.oneCell' = true := by
  intro u hu
  obtain ⟨i, hi, rfl⟩ := List.mem_iff_getElem.1 hu
  have hk : i / 2 < ls.length := by omega
  obtain ⟨_, a, c, h1, h2, _⟩ := h (i / 2) _ (List.getElem?_eq_getElem hk)
  rcases Nat.mod_two_eq_zero_or_one i with hm | hm
  · rw [show i / 2 * 2 = i by omega, List.getElem?_eq_getElem hi] at h1
    injection h1 with h1
    rw [h1]; rfl
  · rw [show i / 2 * 2 + 1 = i by omega, List.getElem?_eq_getElem hi] at h2
    injection h2 with h2
    rw [h2]; rfl
/-- A row of parameters behind another: 'append(p, q...)'. -/
theorem OwnPs.app {vq v' : Value} {lq : List Prm} {xs xq : List Value} {n : Nat} (hx : w.ownsRow B 74 2 v ls.length xs) (hxs : ∀ k p, ls[k]? = some p → p.1 < 65536 ∧ ∃ a c, xs[k * 2]? = some (.int .u16 (p.1 : Int)) ∧ xs[k * 2 + 1]? = some (.slice a p.2.length c) ∧ p.2.length ≤ c ∧ c ≤ 9223372036854775807 ∧ Own w B (.slice a p.2.length c) p.2)
    (hq : xq.length = lq.length * 2) (hqs : ∀ k p, lq[k]? = some p → p.1 < 65536 ∧ ∃ a c, xq[k * 2]? = some (.int .u16 (p.1 : Int)) ∧ xq[k * 2 + 1]? = some (.slice a p.2.length c) ∧ p.2.length ≤ c ∧ c ≤ 9223372036854775807 ∧ Own w B (.slice a p.2.length c) p.2)
    (hg : w.grownBy w' v.ownBlock) (ho : w'.ownsRow B 74 2 v' n (xs ++ xq)) (hn : n = ls.length + lq.length) : OwnPs w' B v' (ls ++ lq) := by
  have hf := Fr.of_grown hg
  have keep : ∀ {u : Value} {l : List UInt8}, Own w B u l → Own w' B u l := fun {u l} hu => hf.own hu (fun g hg hi => own_ne hx hu (by decide) g hi.symm hg)
  have hl := hx.1
  refine ⟨_, by rw [List.length_append, ← hn]; exact ho, fun k q hk => ?_⟩
  by_cases hlt : k < ls.length
  · rw [List.getElem?_append_left hlt] at hk
    obtain ⟨h3, a, c, h4, h5, h6, h7, h8⟩ := hxs k q hk
    exact ⟨h3, a, c, by rw [List.getElem?_append_left (by omega)]; exact h4, by rw [List.getElem?_append_left (by omega)]; exact h5, h6, h7, keep h8⟩
  · rw [List.getElem?_append_right (by omega)] at hk
    obtain ⟨h3, a, c, h4, h5, h6, h7, h8⟩ := hqs (k - ls.length) q hk
    refine ⟨h3, a, c, ?_, ?_, h6, h7, keep h8⟩
    · rw [List.getElem?_append_right (by omega), show k * 2 - xs.length = (k - ls.length) * 2 by omega]; exact h4
    · rw [List.getElem?_append_right (by omega), show k * 2 + 1 - xs.length = (k - ls.length) * 2 + 1 by omega]; exact h5
/-- One parameter more behind a row of its own. -/
theorem OwnPs.snoc {v' : Value} {a : Option Addr} {c n : Nat} {p : Prm} {xs : List Value} (h : OwnPs w B v ls) (hg : w.grownBy w' v.ownBlock) (hx : w.ownsRow B 74 2 v ls.length xs) (ho : w'.ownsRow B 74 2 v' n (xs ++ [.int .u16 (p.1 : Int), .slice a p.2.length c])) (hn : n = ls.length + 1)
    (hp : p.1 < 65536) (hc : p.2.length ≤ c) (hm : c ≤ 9223372036854775807) (hv : Own w B (.slice a p.2.length c) p.2) (hxs : ∀ k q, ls[k]? = some q → q.1 < 65536 ∧ ∃ a c, xs[k * 2]? = some (.int .u16 (q.1 : Int)) ∧ xs[k * 2 + 1]? = some (.slice a q.2.length c) ∧ q.2.length ≤ c ∧ c ≤ 9223372036854775807 ∧ Own w B (.slice a q.2.length c) q.2) : OwnPs w' B v' (ls ++ [p]) := by
  have hf := Fr.of_grown hg
  have keep : ∀ {u : Value} {l : List UInt8}, Own w B u l → Own w' B u l := fun {u l} hu => hf.own hu (fun g hg hi => own_ne hx hu (by decide) g hi.symm hg)
  have hl := hx.1
  refine ⟨_, by rw [List.length_append, List.length_singleton, ← hn]; exact ho, fun k q hq => ?_⟩
  by_cases hk : k < ls.length
  · rw [List.getElem?_append_left hk] at hq
    obtain ⟨h3, a', c', h4, h5, h6, h7, h8⟩ := hxs k q hq
    exact ⟨h3, a', c', by rw [List.getElem?_append_left (by omega)]; exact h4, by rw [List.getElem?_append_left (by omega)]; exact h5, h6, h7, keep h8⟩
  · rw [List.getElem?_append_right (by omega)] at hq
    have hk0 : k - ls.length = 0 := by
      have := (List.getElem?_eq_some_iff.1 hq).1
      simp at this
      omega
    rw [hk0] at hq
    simp only [List.getElem?_cons_zero, Option.some.injEq] at hq
    subst hq
    have hkl : k = ls.length := by omega
    subst hkl
    refine ⟨hp, a, c, ?_, ?_, hc, hm, keep hv⟩
    · rw [List.getElem?_append_right (by omega), show ls.length * 2 - xs.length = 0 by omega]; rfl
    · rw [List.getElem?_append_right (by omega), show ls.length * 2 + 1 - xs.length = 1 by omega]; rfl
end

/-- What a copied value leaves: its bytes in a row of the call's own, the loop's variable before its field is stored. -/
theorem val_copied {w wr w1 : World} {g nv cv kd : Nat} {a : Option Addr} {v1 : Value} {l : List UInt8} (hb : Below w.heap.size w wr) (hg0 : g = wr.heap.size)
    (hown : w1.ownsRow w.heap.size 5 1 v1 (0 + nv) ([] ++ u8s l)) (hnv : nv = l.length)
    (hg : ((wr.alloc (.cells #[.int .u16 (kd : Int), .slice a nv cv] 74)).alloc (.cells #[] 5)).grownBy w1 (Value.slice (some ⟨wr.heap.size + 1, 0, none⟩) 0 0).ownBlock) :
    ∃ A' c', v1 = .slice A' nv c' ∧ nv ≤ c' ∧ c' ≤ 9223372036854775807 ∧ Hid (Blk w1 g 74 #[.int .u16 (kd : Int), .slice a nv cv]) ∧
      Hid (Blk (w1.setCell ⟨g, 1, none⟩ (.slice A' nv c')) g 74 #[.int .u16 (kd : Int), .slice A' nv c']) ∧
      Hid (Own (w1.setCell ⟨g, 1, none⟩ (.slice A' nv c')) w.heap.size (.slice A' nv c') l) ∧ Hid (Below wr.heap.size wr (w1.setCell ⟨g, 1, none⟩ (.slice A' nv c'))) := by
  subst hg0
  simp only [Nat.zero_add, List.nil_append] at hown
  obtain ⟨A', c', rfl, h1, h2⟩ := own_slice hown
  have hb1 : Blk w1 wr.heap.size 74 #[.int .u16 (kd : Int), .slice a nv cv] := ((Blk.new wr 74 #[.int .u16 (kd : Int), .slice a nv cv]).alloc _).grown hg (by simp [Value.ownBlock])
  have hne : (Value.slice A' nv c').ownBlock ≠ some wr.heap.size := own_blk_ne hown hb1 (by decide)
  have F : Fr (fun k => k = wr.heap.size) w1 (w1.setCell ⟨wr.heap.size, 1, none⟩ (.slice A' nv c')) := (Fr.refl (fun k => k = wr.heap.size) w1).setCell (p := ⟨wr.heap.size, 1, none⟩) (.inl rfl) _
  refine ⟨A', c', rfl, h1, h2, hb1, ?_, ?_, ?_⟩
  · have := hb1.set_ 1 (.slice A' nv c')
    show Blk _ _ _ _
    simpa using this
  · refine F.own ?_ (fun g hg e => hne (by rw [hg, e]))
    rw [hnv] at hown ⊢
    exact hown
  · have h3 : Below wr.heap.size wr w1 := (((Below.refl wr.heap.size wr).alloc (Nat.le_refl _) _).alloc (by simp) _).grown hg (by simp; omega) (fun b e => by simp [Value.ownBlock] at e; omega)
    exact h3.setCell (p := ⟨wr.heap.size, 1, none⟩) (Nat.le_refl _) _
theorem two_reads (w : World) (g : Nat) (hg : g = w.heap.size) (u0 u1 : Value) (t : TypeId) : Reads (w.alloc (.cells #[u0, u1] t)) (g + 1) 2 (some ⟨g, 0, none⟩) 1 [u0, u1] := by
  subst hg
  have hb := Blk.new w t #[u0, u1]
  refine ⟨rfl, fun _ => ⟨_, rfl, by simp, fun j u hu => ?_⟩⟩
  rw [hb.cellAdd, ← hu]
  match j with
  | 0 => rfl
  | 1 => rfl
  | j + 2 => rfl
/-- The row behind the copied value's variable, ahead of the append; and behind it. -/
theorem row_ready {w wr w1 w2 : World} {v : Value} {ls : List Prm} {k : Nat} {o : Obj} (h : OwnPs wr w.heap.size v (ls.take k)) (hk : k ≤ ls.length) (hb : Below wr.heap.size wr w2) :
    ∃ xs, Hid (OwnPs (w2.alloc o) w.heap.size v (ls.take k)) ∧ Hid ((w2.alloc o).ownsRow w.heap.size 74 2 v k xs) ∧ Hid (∀ i q, (ls.take k)[i]? = some q → q.1 < 65536 ∧ ∃ a c, xs[i * 2]? = some (.int .u16 (q.1 : Int)) ∧ xs[i * 2 + 1]? = some (.slice a q.2.length c) ∧ q.2.length ≤ c ∧ c ≤ 9223372036854775807 ∧ Own (w2.alloc o) w.heap.size (.slice a q.2.length c) q.2) := by
  have h4 : OwnPs (w2.alloc o) w.heap.size v (ls.take k) := h.grows (hb.alloc hb.size o)
  obtain ⟨xs, h1, h2⟩ := id h4
  have hl : (ls.take k).length = k := by rw [List.length_take]; omega
  rw [hl] at h1
  exact ⟨xs, h4, h1, h2⟩
/-! ### Copy -/

end Go.Proofs.Ytabkjgklmibagaa.Par
