/-
  For the document's Seal: a key that is laid byte by byte, and two rows of bytes that grow in turn.
-/
import Derived.Test.YtmbgjijajakgeaaDoorMacRP
import Derived.Test.YtmbgjijajakgeaaDoorBytes
set_option linter.unusedVariables false
set_option linter.unusedSimpArgs false
namespace Go.Proofs.YtmbgjijajakgeaaDoor.Sha
open Go.ChangeShapes Go.WideShapes Go.ChangeAt Go.RowKit Go.Proofs.YtmbgjijajakgeaaDoor.Words

/-- A key of which the first i bytes are laid. -/
def keyP (s : List UInt8) (i : Nat) : List UInt8 := s.take i ++ List.replicate (64 - i) 0
theorem keyP_zero (s : List UInt8) : keyP s 0 = Zb 64 := by simp [keyP, Zb]
theorem keyP_length {s : List UInt8} {i : Nat} (h : i ≤ s.length) (h64 : s.length ≤ 64) : (keyP s i).length = 64 := by
  simp only [keyP, List.length_append, List.length_take, List.length_replicate]
  omega
theorem keyP_step {s : List UInt8} {i : Nat} (h : i < s.length) (h64 : s.length ≤ 64) : keyP s (i + 1) = (keyP s i).set i (s.getD i 0) := by
  have e : (s.take i).length = i := by rw [List.length_take]; omega
  apply List.ext_getElem?
  intro j
  unfold keyP
  rw [List.getElem?_set]
  by_cases hj : i = j
  · subst hj
    rw [if_pos rfl, if_pos (by simp only [List.length_append, List.length_take, List.length_replicate]; omega), List.getElem?_append_left (by rw [List.length_take]; omega), List.getElem?_take, if_pos (by omega), List.getD_eq_getElem?_getD, List.getElem?_eq_getElem h]
    rfl
  · rw [if_neg hj]
    by_cases hji : j < i
    · rw [List.getElem?_append_left (by rw [List.length_take]; omega), List.getElem?_append_left (by rw [List.length_take]; omega), List.getElem?_take, List.getElem?_take, if_pos (by omega), if_pos hji]
    · rw [List.getElem?_append_right (by rw [List.length_take]; omega), List.getElem?_append_right (by rw [List.length_take]; omega), List.getElem?_replicate, List.getElem?_replicate, List.length_take, List.length_take]
      have : (j - min (i + 1) s.length < 64 - (i + 1)) = (j - min i s.length < 64 - i) := by apply propext; omega
      simp only [this]
theorem keyP_all {kb : List UInt8} : keyP (keyS kb) (keyS kb).length = key64 kb := by
  rw [key64_eq]
  unfold keyP
  rw [List.take_length]
/-- Two rows of bytes of the call's own, in different blocks. -/
structure TwoR (B : Nat) (l1 l2 : List UInt8) (v1 v2 : Value) (W : World) : Prop where
  o1 : W.ownsRow B 5 1 v1 l1.length (u8s l1)
  o2 : W.ownsRow B 5 1 v2 l2.length (u8s l2)
  ne : ∀ g, v1.ownBlock = some g → v2.ownBlock ≠ some g
  le : B ≤ W.heap.size
section
variable {B : Nat} {l1 l2 : List UInt8} {v1 v2 : Value} {W W' : World}
theorem TwoR.swap (h : TwoR B l1 l2 v1 v2 W) : TwoR B l2 l1 v2 v1 W := ⟨h.o2, h.o1, fun g e1 e2 => h.ne g e2 e1, h.le⟩
theorem TwoR.nil (hB : B ≤ W.heap.size) : TwoR B [] [] (.slice none 0 0) (.slice none 0 0) W := ⟨World.ownsRow_nil _ _ _ _, World.ownsRow_nil _ _ _ _, fun g e => by simp [Value.ownBlock] at e, hB⟩
theorem TwoR.alloc (h : TwoR B l1 l2 v1 v2 W) (o : Obj) : TwoR B l1 l2 v1 v2 (W.alloc o) := ⟨h.o1.alloc o, h.o2.alloc o, h.ne, by have := h.le; simp; omega⟩
theorem TwoR.grows (h : TwoR B l1 l2 v1 v2 W) (hb : Below W.heap.size W W') : TwoR B l1 l2 v1 v2 W' :=
  ⟨(Fr.of_below hb).own h.o1 (fun g hg hi => by have := (h.o1.lt g hg).2; omega), (Fr.of_below hb).own h.o2 (fun g hg hi => by have := (h.o2.lt g hg).2; omega), h.ne, Nat.le_trans h.le hb.size⟩
theorem TwoR.kept (h : TwoR B l1 l2 v1 v2 W) {S : Nat → Prop} (f : Fr S W W') (hS : ∀ x, S x → x < B) : TwoR B l1 l2 v1 v2 W' :=
  ⟨f.own h.o1 (fun g hg hi => by have := (h.o1.lt g hg).1; have := hS g hi; omega), f.own h.o2 (fun g hg hi => by have := (h.o2.lt g hg).1; have := hS g hi; omega), h.ne, Nat.le_trans h.le f.size⟩
/-- append of bytes to the first. -/
theorem TwoR.add {Bx m c : Nat} {A : Option Addr} {x : List UInt8} (h : TwoR B l1 l2 v1 v2 W) (hm : m = x.length) (hr : Byt W Bx A x) (hl : l1.length + x.length ≤ 100000) (ty : TypeId) :
    ∃ v' w', (Builtin.append_ #[22, 22] ty #[v1, .slice A m c]).run Tryd.prog W = .ok v' w' ∧ TwoR B (l1 ++ x) l2 v' v2 w' ∧ Below B W w' ∧ Fr (fun k => some k = v1.ownBlock) W w' := by
  obtain ⟨i, hi, hz, hs, hb⟩ := info_parts3 u8_info
  obtain ⟨v', w', hrun, ho, hg, hn⟩ := run_append_any (P := Tryd.prog) W B 22 ty 5 i _ 1 1 Tryd.underlying22 hi hz hs hb rfl (by omega) v1 l1.length (u8s l1) h.o1 Bx A m c (u8s x) (by rw [hm]; exact hr) (u8s_one _) (by simp only [maxLen]; omega) (by omega) h.le
  have hbl : Below B W w' := (Below.refl B W).grown hg h.le (fun k e => (h.o1.lt k e).1)
  refine ⟨v', w', hrun, ⟨?_, h.o2.kept hg ?_, ?_, Nat.le_trans h.le hbl.size⟩, hbl, Fr.of_grown hg⟩
  · rw [List.length_append, u8s_append, ← hm]; exact ho
  · cases hv : v2.ownBlock with
    | none => exact .inl rfl
    | some g => exact .inr (fun e => h.ne g e.symm hv)
  · intro g e1 e2
    rcases hn with e | e
    · exact h.ne g (e ▸ e1) e2
    · rw [e] at e1
      cases e1
      have := (h.o2.lt _ e2).2
      omega
/-- A byte more, built in a block of its own. -/
theorem TwoR.push (h : TwoR B l1 l2 v1 v2 W) (b : UInt8) (hl : l1.length ≤ 10000) (ty : TypeId) :
    ∃ v' w', (Builtin.append_ #[22, 22] ty #[v1, .slice (some ⟨W.heap.size, 0, none⟩) 1 1]).run Tryd.prog (W.alloc (.cells #[.int .u8 (b.toNat : Int)] 5)) = .ok v' w' ∧ TwoR B (l1 ++ [b]) l2 v' v2 w' ∧ Below B W w' ∧ Fr (fun k => some k = v1.ownBlock) W w' := by
  have hr : Byt (W.alloc (.cells #[.int .u8 (b.toNat : Int)] 5)) (W.heap.size + 1) (some ⟨W.heap.size, 0, none⟩) [b] := (Blk.new W 5 #[.int .u8 (b.toNat : Int)]).byt (l := [b]) (by omega) rfl
  obtain ⟨v', w', h1, h2, h3, h4⟩ := (h.alloc (.cells #[.int .u8 (b.toNat : Int)] 5)).add (m := 1) (c := 1) rfl hr (by simp only [List.length_singleton]; omega) ty
  exact ⟨v', w', h1, h2, ((below_new W _).mono h.le).trans h3, ((Fr.refl _ W).alloc _).same h4⟩
theorem TwoR.byt1 (h : TwoR B l1 l2 v1 v2 W) : ∃ A c, v1 = .slice A l1.length c ∧ l1.length ≤ c ∧ c ≤ 9223372036854775807 ∧ Byt W W.heap.size A l1 := by
  obtain ⟨A, c, rfl, h1, h2⟩ := own_slice h.o1
  exact ⟨A, c, rfl, h1, h2, Reads.of_own h.o1⟩
theorem TwoR.ne_blk (h : TwoR B l1 l2 v1 v2 W) {g : Nat} {t : TypeId} {cs : Array Value} (k : Blk W g t cs) (ht : 5 ≠ t) : v1.ownBlock ≠ some g := own_blk_ne h.o1 k ht
end
theorem take_snoc {α : Type} (d : α) {k : List α} {j : Nat} (hj : j < k.length) : k.take (j + 1) = k.take j ++ [k.getD j d] := by
  rw [List.take_add_one, List.getD_eq_getElem?_getD, List.getElem?_eq_getElem hj]
  rfl
theorem mask_snoc (m : UInt8) {k : List UInt8} {j : Nat} (hj : j < k.length) : mask m (k.take (j + 1)) = mask m (k.take j) ++ [k.getD j 0 ^^^ m] := by
  rw [take_snoc 0 hj, mask, List.map_append]
  rfl
end Go.Proofs.YtmbgjijajakgeaaDoor.Sha
