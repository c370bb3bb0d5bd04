/-
  Contracts of package octet's writers.
-/
import Derived.Test.YtabkjgklmibagaaOct
import Derived.Lib.AppendZerosOnto
set_option linter.unusedVariables false
set_option linter.unusedSimpArgs false
namespace Go.Proofs.Ytabkjgklmibagaa.Words
open Go.ChangeShapes Go.WideShapes Go.ChangeAt Go.RowKit
theorem zeroCells_one (z : Value) (hz : z.cells = #[z]) (k : Nat) : (Builtin.zeroCells z.cells k).toList = List.replicate k z := by
  rw [hz]
  unfold Builtin.zeroCells
  apply List.ext_getElem
  · simp
  · intro i h1 h2
    simp [Nat.mod_one]

/-- 'append(s, make([]byte, k)...)' at bytes of the call's own. -/
theorem run_append_zeros_own (w : World) (base : Nat) (v : Value) (n : Nat) (xs : List Value) (hown : w.ownsRow base 5 1 v n xs) (ty : TypeId) (kd : IntKind) (k : Nat) (h0 : 0 < k) (h63 : n + k ≤ 140737488355328) (hbase : base ≤ w.heap.size) :
    ∃ v' w', (Builtin.append_ #[24, 3] ty #[v, .int kd (k : Int)]).run Try.prog w = .ok v' w' ∧ w'.ownsRow base 5 1 v' (n + k) (xs ++ List.replicate k (.int .u8 0)) ∧ w.grownBy w' v.ownBlock ∧
      (v'.ownBlock = v.ownBlock ∨ v'.ownBlock = some w.heap.size) := by
  obtain ⟨i, hi, hz, hs, hb⟩ := info_parts3 u8_info
  have hone : (Value.int .u8 0).cells = #[Value.int .u8 0] := rfl
  have hzc := zeroCells_one (Value.int .u8 0) hone
  have hzs : ∀ m, (Builtin.zeroCells (Value.int .u8 0).cells m).size = m := fun m => by rw [size_zeroCells, hone]; simp
  have hlen : (xs ++ List.replicate k (Value.int .u8 0)).length = (n + k) * 1 := by rw [List.length_append, hown.1, List.length_replicate]; omega
  have grown : ∀ (old : Nat) (row : Option Nat),
      (w.drew.alloc (.cells (xs.toArray ++ Builtin.zeroCells (Value.int .u8 0).cells k ++ Builtin.zeroCells (Value.int .u8 0).cells (grownCap w (n + k) old 5 - (n + k))) 5)).ownsRow base 5 1
        (.slice (some ⟨w.heap.size, 0, none⟩) (n + k) (grownCap w (n + k) old 5)) (n + k) (xs ++ List.replicate k (.int .u8 0)) ∧
      w.grownBy (w.drew.alloc (.cells (xs.toArray ++ Builtin.zeroCells (Value.int .u8 0).cells k ++ Builtin.zeroCells (Value.int .u8 0).cells (grownCap w (n + k) old 5 - (n + k))) 5)) row := by
    intro old row
    have hge := grownCap_ge w (n + k) old 5
    have hcm : grownCap w (n + k) old 5 ≤ maxLen := grownCap_le_maxLen w (n + k) old _ (by simp only [maxLen]; omega)
    refine ⟨⟨hlen, .inr ⟨w.heap.size, _, _, rfl, hbase, heap_alloc_new w.drew _, hge, hcm, ?_, ?_⟩⟩, ⟨rfl, rfl, rfl, by simp, fun j hj _ => Below.heap_alloc w.drew _ j hj⟩⟩
    · simp only [Array.size_append, List.size_toArray, hzs, hown.1]
      omega
    · simp only [Array.toList_append, hzc, List.append_assoc]
      rw [← List.append_assoc, ← hlen]
      exact List.take_left
  rcases hown.2 with ⟨rfl, rfl⟩ | ⟨g, cap, cur, rfl, hbg, hg, hnc, hcm, hcs, htake⟩
  · have hx : xs = [] := List.eq_nil_of_length_eq_zero (by simpa using hown.1)
    subst hx
    have hr := Lib.run_append_nil_zeros (P := Try.prog) w 24 3 ty 5 i _ kd .i64 Try.underlying24 Try.underlying3 hi hz k h0 (by omega) (by omega) (by rw [hb]; omega)
    have hgr := grown 0 (Value.ownBlock (.slice none 0 0))
    simp only [Nat.zero_add, List.nil_append, Array.empty_append] at hgr ⊢
    exact ⟨_, _, hr, hgr.1, hgr.2, Or.inr rfl⟩
  · by_cases hroom : n + k ≤ cap
    · have hst := run_storeCells_at Try.prog g n 5 (List.replicate k (Value.int .u8 0)) 0 cur w hg (by rw [List.length_replicate, hcs]; omega) (fun u hu => by rw [List.eq_of_mem_replicate hu]; rfl)
      simp only [Nat.add_zero] at hst
      have hw : IntKind.i64.wrap (k : Int) = k := by rw [IntKind.wrap_i64]; omega
      have hneg : ¬ ((k : Int) < 0) := by omega
      have h48 : ¬ (281474976710656 < (k : Int)) := by omega
      have hk : k ≠ 0 := by omega
      have hone' : (Value.int .u8 0).cells.size = 1 := rfl
      refine ⟨.slice (some ⟨g, 0, none⟩) (n + k) cap, w.setRow g (cur.toList.take n ++ List.replicate k (Value.int .u8 0) ++ cur.toList.drop (n + k)).toArray, ?_, ⟨hlen, .inr ⟨g, cap, _, rfl, hbg, setRow_heap w g cur _ _ _ hg, hroom, hcm, ?_, ?_⟩⟩, ⟨rfl, rfl, rfl, by simp, fun j _ hj => setRow_other w g j _ (fun e => hj (by simp [Value.ownBlock, e]))⟩, Or.inl rfl⟩
      · simp [Builtin.append_, run_underlying Try.underlying24, run_underlying Try.underlying3, sizeOf, typeInfo, zeroValue, hi, hz, hs, hb, asInt, asIntOf, hw, hneg, h48, hk, hroom, Addr.add_lit, hzc]
        simp only [List.append_assoc, List.length_replicate] at hst
        rw [hst]
        rfl
      · simp only [List.size_toArray, List.length_append, List.length_take, List.length_drop, Array.length_toList, List.length_replicate]
        omega
      · have htk : cur.toList.take n = xs := by simpa using htake
        rw [htk, ← hlen]
        exact List.take_left
    · have holds : ∀ j u, xs[j]? = some u → w.drew.cell? ((⟨g, 0, none⟩ : Addr).add j) = some u := hown.cells (g := g) rfl
      have hfo := run_firstCells_some (P := Try.prog) w.drew i.size n ⟨g, 0, none⟩ n cap xs (by rw [hs]; exact hown.1) holds
      have hr := Lib.run_append_grow_zeros (P := Try.prog) w 24 3 ty 5 i _ kd .i64 Try.underlying24 Try.underlying3 hi hz (some ⟨g, 0, none⟩) n cap xs hfo k h0 (by omega) (by omega) (by omega) (by rw [hb]; omega) (by have := growslice_fits (bytes := 1) (show cap < n + k by omega) (by omega); rw [hb]; omega)
      have hgr := grown cap (Value.ownBlock (.slice (some ⟨g, 0, none⟩) n cap))
      exact ⟨_, _, hr, hgr.1, hgr.2, Or.inr rfl⟩

end Go.Proofs.Ytabkjgklmibagaa.Words
namespace Go.Proofs.Ytabkjgklmibagaa.Oct
open Go.ChangeShapes Go.WideShapes Go.ChangeAt Go.RowKit Go.Proofs.Ytabkjgklmibagaa.Words
/-- The writer behind the pointer to block p: its list v, of its own from block B on, bears the bytes l. -/
structure Wr (w : World) (p B : Nat) (v : Value) (l : List UInt8) : Prop where
  blk : Blk w p 62 #[v]
  own : Own w B v l

/-- The frame of a writer's step. -/
abbrev AtW (p : Nat) (v : Value) : Nat → Prop := fun k => k = p ∨ some k = v.ownBlock
section
variable {w w' : World} {p B : Nat} {v : Value} {l : List UInt8}
theorem Wr.ne (h : Wr w p B v l) : v.ownBlock ≠ some p := own_blk_ne h.own h.blk (by decide)
theorem Wr.fr {S : Nat → Prop} (h : Wr w p B v l) (k : Fr S w w') (hp : ¬ S p) (hv : ∀ g, v.ownBlock = some g → ¬ S g) : Wr w' p B v l := ⟨k.blk h.blk hp, k.own h.own hv⟩
theorem Wr.below {C : Nat} (h : Wr w p B v l) (k : Below C w w') (hp : p < C) (hv : ∀ g, v.ownBlock = some g → g < C) : Wr w' p B v l :=
  h.fr (Fr.of_below k) (by omega) (fun g hg => by have := hv g hg; omega)

theorem Wr.grows (h : Wr w p B v l) (k : Below w.heap.size w w') : Wr w' p B v l := h.below k h.blk.lt (fun g hg => (h.own.lt g hg).2)
theorem Wr.byt {A : Option Addr} {n c : Nat} (h : Wr w p B (.slice A n c) l) : Byt w w.heap.size A l := Own.byt h.own
end
/-- What a writer's step leaves. -/
def Wrote (w : World) (p B : Nat) (v : Value) (l : List UInt8) (e : Ending) (w' : World) : Prop :=
  ∃ v', e = .returned (.tuple #[]) ∧ Wr w' p B v' l ∧ Fr (AtW p v) w w' ∧ (v'.ownBlock = v.ownBlock ∨ ∃ g, v'.ownBlock = some g ∧ w.heap.size ≤ g)

theorem wrote {w wA w1 : World} {p B n m : Nat} {v v1 : Value} {l news : List UInt8} (h : Wr w p B v l) (ha : Below w.heap.size w wA) (hn : n = l.length) (hm : m = news.length) (hown : w1.ownsRow B 5 1 v1 (n + m) (u8s l ++ u8s news)) (hg : wA.grownBy w1 v.ownBlock)
    (hat : v1.ownBlock = v.ownBlock ∨ v1.ownBlock = some wA.heap.size) :
    Hid (Blk w1 p 62 #[v]) ∧ Hid (Wrote w p B v (l ++ news) (.returned (.tuple #[])) (w1.setCell ⟨p, 0, none⟩ v1)) := by
  have hs := ha.size
  have F1 : Fr (AtW p v) w w1 := (Fr.refl (AtW p v) w).grows ha |>.grown hg (fun g hg => .inl (.inr hg.symm))
  have hb : Blk w1 p 62 #[v] := (Fr.of_grown hg).blk ((h.grows ha).blk) (fun e => h.ne e.symm)
  have hne : v1.ownBlock ≠ some p := own_blk_ne hown hb (by decide)
  have F2 : Fr (At p) w1 (w1.setCell ⟨p, 0, none⟩ v1) := (Fr.refl (At p) w1).setCell (p := ⟨p, 0, none⟩) (.inl rfl) _
  refine ⟨hb, v1, rfl, ⟨by have := hb.set_ 0 v1; simpa using this, ?_⟩, F1.trans F2 (fun x _ hx => .inl hx), ?_⟩
  · unfold Own
    rw [List.length_append, ← hn, ← hm, u8s_append]
    exact F2.own hown (fun g hg hp => hne (by rw [hg]; have : g = p := hp; rw [this]))
  · rcases hat with h | h
    · exact .inl h
    · exact .inr ⟨_, h, hs⟩

/-- Bytes just laid into a row. -/
theorem lits_byt (w : World) (cs : Array Value) (l : List UInt8) (h : cs = (u8s l).toArray) : Byt (w.alloc (.cells cs 5)) (w.heap.size + 1) (some ⟨w.heap.size, 0, none⟩) l := by
  subst h
  exact (Blk.new w 5 _).byt (by omega) (by rw [← u8s_length, List.take_length])

theorem be_1 (x : Nat) : be x 1 = [byteAt x 0] := rfl
theorem be_2 (x : Nat) : be x 2 = [byteAt x 1, byteAt x 0] := rfl
theorem be_4 (x : Nat) : be x 4 = [byteAt x 3, byteAt x 2, byteAt x 1, byteAt x 0] := rfl
theorem cells_1 (x : Nat) (y0 : Int) (h0 : y0 = (x : Int) % 256) : #[Value.int .u8 y0] = (u8s (be x 1)).toArray := by
  rw [be_1, h0]
  have e0 := byteAt_walk x 0
  simp only [Nat.mul_zero, Int.pow_zero, Int.ediv_one] at e0
  simp only [u8s, List.map_cons, List.map_nil, ← e0]

theorem cells_2 (x : Nat) (y1 y0 : Int) (h1 : y1 = (x : Int) / 256 % 256) (h0 : y0 = (x : Int) % 256) : #[Value.int .u8 y1, Value.int .u8 y0] = (u8s (be x 2)).toArray := by
  rw [be_2, h0, h1]
  have e0 := byteAt_walk x 0
  have e1 := byteAt_walk x 1
  simp only [Nat.mul_zero, Int.pow_zero, Int.ediv_one] at e0
  simp only [u8s, List.map_cons, List.map_nil, ← e0, ← e1]
  rfl

theorem cells_4 (x : Nat) (y3 y2 y1 y0 : Int) (h3 : y3 = (x : Int) / 16777216 % 256) (h2 : y2 = (x : Int) / 65536 % 256) (h1 : y1 = (x : Int) / 256 % 256) (h0 : y0 = (x : Int) % 256) :
    #[Value.int .u8 y3, Value.int .u8 y2, Value.int .u8 y1, Value.int .u8 y0] = (u8s (be x 4)).toArray := by
  rw [be_4, h0, h1, h2, h3]
  have e0 := byteAt_walk x 0
  have e1 := byteAt_walk x 1
  have e2 := byteAt_walk x 2
  have e3 := byteAt_walk x 3
  simp only [Nat.mul_zero, Int.pow_zero, Int.ediv_one] at e0
  simp only [u8s, List.map_cons, List.map_nil, ← e0, ← e1, ← e2, ← e3]
  rfl

theorem byte_of (x : Nat) (k : Nat) : (x : Int) / 2 ^ (8 * k) % 256 = ((byteAt x k).toNat : Int) := byteAt_walk x k

set_option maxHeartbeats 1000000 in
theorem wr_u8 {w : World} {p B : Nat} {v : Value} {l : List UInt8} (x : Nat) (hx : x < 256) (h : Wr w p B v l) (hB : B ≤ w.heap.size) (hl : l.length ≤ 1000000) :
    Calls Try.prog 34 #[rptr p, .int .u8 (x : Int)] w (Wrote w p B v (l ++ be x 1)) := by
  obtain ⟨i0, hi0, hz0, hz1, hz2⟩ := info_parts3 u8_info
  have c0 : w.cell? ⟨p, 0, none⟩ = some v := h.blk.cell 0
  have HW := Lib.hid h
  obtain ⟨A, c, rfl, h1, h2⟩ := own_slice h.own
  obtain ⟨q, hq⟩ : ∃ q, q = l.length := ⟨_, rfl⟩
  have HQ := Lib.hid hq
  rw [← hq] at c0 hl h1 ⊢
  have HO : Hid (w.ownsRow B 5 1 (.slice A q c) q (u8s l)) := by have := h.own; unfold Own at this; rw [← hq] at this; exact this
  clear h hq
  rw [← HQ.out] at HW
  go_enter Try.func34, Try.ntmps34
  go_wp2_with (at_builtin; refine wpList_append_any _ rfl (.tmp 8) (.tmp 10) _ rfl B 5 i0 _ 1 1 Try.underlying24 hi0 hz0 hz1 hz2 rfl (by omega) (.slice A q c) q (u8s l) rfl (HO.out.alloc _) (w.heap.size + 1) (some ⟨w.heap.size, 0, none⟩) 1 1 (u8s (be x 1)) rfl (lits_byt w _ _ (cells_1 x _ (by omega))) (u8s_one _) (by simp only [maxLen]; omega) (by omega) (Nat.le_trans hB (by simp)) ?_; intro v1 w1 hown1 hg1 hat1; obtain ⟨A1, c1', rfl, _, _⟩ := own_slice hown1; obtain ⟨HB1, HF1⟩ := wrote HW.out ((Below.refl _ w).alloc (Nat.le_refl _) _) HQ.out (by rw [be_length]) hown1 hg1 hat1; have c1 : w1.cell? ⟨p, 0, none⟩ = some (.slice A q c) := HB1.out.cell 0; have f1 := HB1.out.frozen 0; clear hown1 hg1 hat1)
  go_end0
  exact HF1.out

set_option maxHeartbeats 1000000 in
theorem wr_u16 {w : World} {p B : Nat} {v : Value} {l : List UInt8} (x : Nat) (hx : x < 65536) (h : Wr w p B v l) (hB : B ≤ w.heap.size) (hl : l.length ≤ 1000000) :
    Calls Try.prog 18 #[rptr p, .int .u16 (x : Int)] w (Wrote w p B v (l ++ be x 2)) := by
  obtain ⟨i0, hi0, hz0, hz1, hz2⟩ := info_parts3 u8_info
  have c0 : w.cell? ⟨p, 0, none⟩ = some v := h.blk.cell 0
  have HW := Lib.hid h
  obtain ⟨A, c, rfl, h1, h2⟩ := own_slice h.own
  obtain ⟨q, hq⟩ : ∃ q, q = l.length := ⟨_, rfl⟩
  have HQ := Lib.hid hq
  rw [← hq] at c0 hl h1 ⊢
  have HO : Hid (w.ownsRow B 5 1 (.slice A q c) q (u8s l)) := by have := h.own; unfold Own at this; rw [← hq] at this; exact this
  clear h hq
  rw [← HQ.out] at HW
  go_enter Try.func18, Try.ntmps18
  go_wp2_with (at_builtin; refine wpList_append_any _ rfl (.tmp 8) (.tmp 14) _ rfl B 5 i0 _ 1 1 Try.underlying24 hi0 hz0 hz1 hz2 rfl (by omega) (.slice A q c) q (u8s l) rfl (HO.out.alloc _) (w.heap.size + 1) (some ⟨w.heap.size, 0, none⟩) 2 2 (u8s (be x 2)) rfl (lits_byt w _ _ (cells_2 x _ _ (by omega) (by omega))) (u8s_one _) (by simp only [maxLen]; omega) (by omega) (Nat.le_trans hB (by simp)) ?_; intro v1 w1 hown1 hg1 hat1; obtain ⟨A1, c1', rfl, _, _⟩ := own_slice hown1; obtain ⟨HB1, HF1⟩ := wrote HW.out ((Below.refl _ w).alloc (Nat.le_refl _) _) HQ.out (by rw [be_length]) hown1 hg1 hat1; have c1 : w1.cell? ⟨p, 0, none⟩ = some (.slice A q c) := HB1.out.cell 0; have f1 := HB1.out.frozen 0; clear hown1 hg1 hat1)
  go_end0
  exact HF1.out

set_option maxHeartbeats 1000000 in
theorem wr_u32 {w : World} {p B : Nat} {v : Value} {l : List UInt8} (x : Nat) (hx : x < 4294967296) (h : Wr w p B v l) (hB : B ≤ w.heap.size) (hl : l.length ≤ 1000000) :
    Calls Try.prog 19 #[rptr p, .int .u32 (x : Int)] w (Wrote w p B v (l ++ be x 4)) := by
  obtain ⟨i0, hi0, hz0, hz1, hz2⟩ := info_parts3 u8_info
  have c0 : w.cell? ⟨p, 0, none⟩ = some v := h.blk.cell 0
  have HW := Lib.hid h
  obtain ⟨A, c, rfl, h1, h2⟩ := own_slice h.own
  obtain ⟨q, hq⟩ : ∃ q, q = l.length := ⟨_, rfl⟩
  have HQ := Lib.hid hq
  rw [← hq] at c0 hl h1 ⊢
  have HO : Hid (w.ownsRow B 5 1 (.slice A q c) q (u8s l)) := by have := h.own; unfold Own at this; rw [← hq] at this; exact this
  clear h hq
  rw [← HQ.out] at HW
  go_enter Try.func19, Try.ntmps19
  go_wp2_with (at_builtin; refine wpList_append_any _ rfl (.tmp 8) (.tmp 20) _ rfl B 5 i0 _ 1 1 Try.underlying24 hi0 hz0 hz1 hz2 rfl (by omega) (.slice A q c) q (u8s l) rfl (HO.out.alloc _) (w.heap.size + 1) (some ⟨w.heap.size, 0, none⟩) 4 4 (u8s (be x 4)) rfl (lits_byt w _ _ (cells_4 x _ _ _ _ (by omega) (by omega) (by omega) (by omega))) (u8s_one _) (by simp only [maxLen]; omega) (by omega) (Nat.le_trans hB (by simp)) ?_; intro v1 w1 hown1 hg1 hat1; obtain ⟨A1, c1', rfl, _, _⟩ := own_slice hown1; obtain ⟨HB1, HF1⟩ := wrote HW.out ((Below.refl _ w).alloc (Nat.le_refl _) _) HQ.out (by rw [be_length]) hown1 hg1 hat1; have c1 : w1.cell? ⟨p, 0, none⟩ = some (.slice A q c) := HB1.out.cell 0; have f1 := HB1.out.frozen 0; clear hown1 hg1 hat1)
  go_end0
  exact HF1.out

set_option maxHeartbeats 1000000 in
theorem wr_put {w : World} {p B C : Nat} {v : Value} {l news : List UInt8} {A2 : Option Addr} {n2 c2 : Nat} (h : Wr w p B v l) (hB : B ≤ w.heap.size) (hl : l.length ≤ 1000000) (hn : n2 = news.length) (hm : n2 ≤ 1000000) (hby : Byt w C A2 news) :
    Calls Try.prog 21 #[rptr p, .slice A2 n2 c2] w (Wrote w p B v (l ++ news)) := by
  obtain ⟨i0, hi0, hz0, hz1, hz2⟩ := info_parts3 u8_info
  have c0 : w.cell? ⟨p, 0, none⟩ = some v := h.blk.cell 0
  have HW := Lib.hid h
  obtain ⟨A, c, rfl, h1, h2⟩ := own_slice h.own
  obtain ⟨q, hq⟩ : ∃ q, q = l.length := ⟨_, rfl⟩
  have HQ := Lib.hid hq
  rw [← hq] at c0 hl h1 ⊢
  have HO : Hid (w.ownsRow B 5 1 (.slice A q c) q (u8s l)) := by have := h.own; unfold Own at this; rw [← hq] at this; exact this
  have HY : Hid (Reads w C 1 A2 n2 (u8s news)) := by have := hby; unfold Byt at this; rw [← hn] at this; exact this
  have HN := Lib.hid hn
  clear h hq hby hn
  rw [← HQ.out] at HW
  go_enter Try.func21, Try.ntmps21
  go_wp2_with (at_builtin; refine wpList_append_any _ rfl (.tmp 8) (.tmp 9) _ rfl B 5 i0 _ 1 1 Try.underlying24 hi0 hz0 hz1 hz2 rfl (by omega) (.slice A q c) q (u8s l) rfl HO.out C A2 n2 c2 (u8s news) rfl HY.out (u8s_one _) (by simp only [maxLen]; omega) (by omega) hB ?_; intro v1 w1 hown1 hg1 hat1; obtain ⟨A1, c1', rfl, _, _⟩ := own_slice hown1; obtain ⟨HB1, HF1⟩ := wrote HW.out (Below.refl _ w) HQ.out HN.out hown1 hg1 hat1; have c1 : w1.cell? ⟨p, 0, none⟩ = some (.slice A q c) := HB1.out.cell 0; have f1 := HB1.out.frozen 0; clear hown1 hg1 hat1)
  go_end0
  exact HF1.out

theorem wr_len {w : World} {p B : Nat} {v : Value} {l : List UInt8} (h : Wr w p B v l) :
    Calls Try.prog 22 #[rptr p] w fun e w' => e = .returned (.int .i64 (l.length : Int)) ∧ w = w' := by
  have c0 : w.cell? ⟨p, 0, none⟩ = some v := h.blk.cell 0
  obtain ⟨A, c, rfl, h1, h2⟩ := own_slice h.own
  obtain ⟨q, hq⟩ : ∃ q, q = l.length := ⟨_, rfl⟩
  rw [← hq] at c0 h1 ⊢
  clear h hq
  go_enter Try.func22, Try.ntmps22
  go_wp2_with fail
  go_ret
  exact ⟨rfl, rfl⟩

theorem wr_out {w : World} {p B : Nat} {v : Value} {l : List UInt8} (h : Wr w p B v l) (hl : l.length ≤ 1000000) :
    Calls Try.prog 24 #[rptr p] w fun e w' => (∃ u, e = .returned u ∧ Own w' w.heap.size u l) ∧ Below w.heap.size w w' := by
  have c0 : w.cell? ⟨p, 0, none⟩ = some v := h.blk.cell 0
  obtain ⟨A, c, rfl, h1, h2⟩ := own_slice h.own
  have C := Lib.hid (clone_any A l c w hl h.byt)
  clear h
  go_enter Try.func24, Try.ntmps24
  go_wp2_with fail
  refine C.out.mono ?_
  rintro e w1 ⟨⟨u, rfl, ho⟩, hb⟩
  go_wp2_with fail
  go_ret
  exact ⟨⟨u, rfl, ho⟩, hb⟩

theorem padN_zero (len : Nat) (n : Int) (h : n < 1 ∨ len % n.toNat = 0) : padN len n = 0 := by
  unfold padN
  split
  · rename_i h0
    rcases h with h | h
    · omega
    · rw [h, Nat.sub_zero, Nat.mod_self]
  · rfl

theorem padN_some (len m : Nat) (h0 : 0 < m) (h : len % m ≠ 0) : padN len (m : Int) = m - len % m := by
  unfold padN
  rw [if_pos (by omega), Int.toNat_natCast]
  have := Nat.mod_lt len h0
  exact Nat.mod_eq_of_lt (by omega)

theorem u8s_zeros (k : Nat) : u8s (List.replicate k 0) = List.replicate k (.int .u8 0) := by simp [u8s]

set_option maxHeartbeats 1000000 in
theorem wr_pad {w : World} {p B : Nat} {v : Value} {l : List UInt8} (n : Int) (h : Wr w p B v l) (hB : B ≤ w.heap.size) (hl : l.length ≤ 1000000) (hn : -9223372036854775808 ≤ n ∧ n ≤ 1000000) :
    Calls Try.prog 36 #[rptr p, .int .i64 n] w (Wrote w p B v (l ++ List.replicate (padN l.length n) 0)) := by
  have same : ∀ n : Int, padN l.length n = 0 → Wrote w p B v (l ++ List.replicate (padN l.length n) 0) (.returned (.tuple #[])) w := fun n h0 => by
    rw [h0]
    exact ⟨v, rfl, by simpa using h, Fr.refl _ _, .inl rfl⟩
  have SAME := Lib.hid same
  clear same
  obtain ⟨i0, hi0, hz0, hz1, hz2⟩ := info_parts3 u8_info
  have c0 : w.cell? ⟨p, 0, none⟩ = some v := h.blk.cell 0
  have HW := Lib.hid h
  obtain ⟨A, c, rfl, h1, h2⟩ := own_slice h.own
  obtain ⟨q, hq⟩ : ∃ q, q = l.length := ⟨_, rfl⟩
  have HQ := Lib.hid hq
  rw [← hq] at c0 hl h1 SAME ⊢
  have HO : Hid (w.ownsRow B 5 1 (.slice A q c) q (u8s l)) := by have := h.own; unfold Own at this; rw [← hq] at this; exact this
  clear h hq
  rw [← HQ.out] at HW
  by_cases hn1 : n < 1
  · go_enter Try.func36, Try.ntmps36
    go_wp2_with fail
    go_end0
    exact SAME.out n (padN_zero _ _ (.inl hn1))
  · obtain ⟨m, rfl⟩ : ∃ m : Nat, n = (m : Int) := ⟨n.toNat, by omega⟩
    have hm0 : 0 < m := by omega
    have hm1 : m ≤ 1000000 := by omega
    have hmi : ¬ ((m : Int) < 1) := by omega
    have hml := Nat.mod_lt q hm0
    obtain ⟨r, hr⟩ : ∃ r, r = q % m := ⟨_, rfl⟩
    have hri : (q : Int) % (m : Int) = (r : Int) := by rw [hr]; rfl
    rw [← hr] at hml
    have HR := Lib.hid hr
    clear hn hn1 hr
    by_cases hr0 : r = 0
    · subst hr0
      go_enter Try.func36, Try.ntmps36
      go_wp2_with fail
      go_end0
      exact SAME.out m (padN_zero _ _ (.inr (by rw [Int.toNat_natCast]; exact HR.out.symm)))
    · obtain ⟨k, hk⟩ : ∃ k : Nat, k = m - r := ⟨_, rfl⟩
      have hki : (m : Int) - (r : Int) = (k : Int) := by omega
      have hk0 : 0 < k := by omega
      have hk1 : k ≤ m := by omega
      have HP : Hid (padN q (m : Int) = k) := by rw [hk, HR.out]; exact padN_some q m hm0 (by rw [← HR.out]; exact hr0)
      have hrz : ((r : Int) == 0) = false := by simp; omega
      have hkw : IntKind.i64.wrap (k : Int) = (k : Int) := IntWalk.i64_in _ (by omega)
      have hlo : ¬ (2147483647 - (q : Int) < (k : Int)) := by omega
      have HRUN := Lib.hid (run_append_zeros_own w B (.slice A q c) q (u8s l) HO.out)
      clear hk
      go_enter Try.func36, Try.ntmps36
      go_wp2_with (at_builtin; obtain ⟨v1, w1, hrun, hown1, hg1, hat1⟩ := HRUN.out 24 .i64 k hk0 (by omega) hB; obtain ⟨A1, c1', rfl, _, _⟩ := own_slice hown1; refine Lib.wpList_append_run _ rfl (.tmp 32) (.tmp 35) _ _ rfl _ _ rfl rfl _ _ hrun ?_; rw [← u8s_zeros] at hown1; obtain ⟨HB1, HF1⟩ := wrote HW.out (Below.refl _ w) HQ.out (by simp) hown1 hg1 hat1; have c1 : w1.cell? ⟨p, 0, none⟩ = some (.slice A q c) := HB1.out.cell 0; have f1 := HB1.out.frozen 0; clear hown1 hg1 hat1 hrun)
      go_end0
      rw [HP.out]
      exact HF1.out

end Go.Proofs.Ytabkjgklmibagaa.Oct
