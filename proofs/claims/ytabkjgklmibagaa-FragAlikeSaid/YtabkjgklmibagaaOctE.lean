/-
  Contracts of a writer that lies within another (package chunk's): as XOctW, beside a bool of its own; and of readers, whatever is left.
-/
import Derived.Test.YtabkjgklmibagaaOctW
set_option linter.unusedVariables false
set_option linter.unusedSimpArgs false
namespace Go.Proofs.Ytabkjgklmibagaa.Oct
open Go.ChangeShapes Go.WideShapes Go.ChangeAt Go.RowKit Go.Proofs.Ytabkjgklmibagaa.Words

/-- The writer behind the pointer to block p: its list v, of its own from block B on, bears the bytes l. -/
structure WrE (w : World) (p B : Nat) (v : Value) (l : List UInt8) (lg : Bool) : Prop where
  blk : Blk w p 80 #[v, .bool lg]
  own : Own w B v l

section
variable {w w' : World} {p B : Nat} {v : Value} {l : List UInt8} {lg : Bool}
theorem WrE.ne (h : WrE w p B v l lg) : v.ownBlock ≠ some p := own_blk_ne h.own h.blk (by decide)
theorem WrE.fr {S : Nat → Prop} (h : WrE w p B v l lg) (k : Fr S w w') (hp : ¬ S p) (hv : ∀ g, v.ownBlock = some g → ¬ S g) : WrE w' p B v l lg := ⟨k.blk h.blk hp, k.own h.own hv⟩
theorem WrE.below {C : Nat} (h : WrE w p B v l lg) (k : Below C w w') (hp : p < C) (hv : ∀ g, v.ownBlock = some g → g < C) : WrE w' p B v l lg :=
  h.fr (Fr.of_below k) (by omega) (fun g hg => by have := hv g hg; omega)

theorem WrE.grows (h : WrE w p B v l lg) (k : Below w.heap.size w w') : WrE w' p B v l lg := h.below k h.blk.lt (fun g hg => (h.own.lt g hg).2)
theorem WrE.byt {A : Option Addr} {n c : Nat} (h : WrE w p B (.slice A n c) l lg) : Byt w w.heap.size A l := Own.byt h.own
end
/-- What a writer's step leaves. -/
def WroteE (w : World) (p B : Nat) (v : Value) (l : List UInt8) (lg : Bool) (e : Ending) (w' : World) : Prop :=
  ∃ v', e = .returned (.tuple #[]) ∧ WrE w' p B v' l lg ∧ Fr (AtW p v) w w' ∧ (v'.ownBlock = v.ownBlock ∨ ∃ g, v'.ownBlock = some g ∧ w.heap.size ≤ g)

theorem wroteE {w wA w1 : World} {p B n m : Nat} {v v1 : Value} {l news : List UInt8} {lg : Bool} (h : WrE w p B v l lg) (ha : Below w.heap.size w wA) (hn : n = l.length) (hm : m = news.length) (hown : w1.ownsRow B 5 1 v1 (n + m) (u8s l ++ u8s news)) (hg : wA.grownBy w1 v.ownBlock)
    (hat : v1.ownBlock = v.ownBlock ∨ v1.ownBlock = some wA.heap.size) :
    Hid (Blk w1 p 80 #[v, .bool lg]) ∧ Hid (WroteE w p B v (l ++ news) lg (.returned (.tuple #[])) (w1.setCell ⟨p, 0, none⟩ v1)) := by
  have hs := ha.size
  have F1 : Fr (AtW p v) w w1 := (Fr.refl (AtW p v) w).grows ha |>.grown hg (fun g hg => .inl (.inr hg.symm))
  have hb : Blk w1 p 80 #[v, .bool lg] := (Fr.of_grown hg).blk ((h.grows ha).blk) (fun e => h.ne e.symm)
  have hne : v1.ownBlock ≠ some p := own_blk_ne hown hb (by decide)
  have F2 : Fr (At p) w1 (w1.setCell ⟨p, 0, none⟩ v1) := (Fr.refl (At p) w1).setCell (p := ⟨p, 0, none⟩) (.inl rfl) _
  refine ⟨hb, v1, rfl, ⟨by have := hb.set_ 0 v1; simpa using this, ?_⟩, F1.trans F2 (fun x _ hx => .inl hx), ?_⟩
  · unfold Own
    rw [List.length_append, ← hn, ← hm, u8s_append]
    exact F2.own hown (fun g hg hp => hne (by rw [hg]; have : g = p := hp; rw [this]))
  · rcases hat with h | h
    · exact .inl h
    · exact .inr ⟨_, h, hs⟩

set_option maxHeartbeats 1000000 in
theorem wre_u8 {w : World} {p B : Nat} {v : Value} {l : List UInt8} {lg : Bool} (x : Nat) (hx : x < 256) (h : WrE w p B v l lg) (hB : B ≤ w.heap.size) (hl : l.length ≤ 1000000) :
    Calls Try.prog 34 #[rptr p, .int .u8 (x : Int)] w (WroteE w p B v (l ++ be x 1) lg) := by
  obtain ⟨i0, hi0, hz0, hz1, hz2⟩ := info_parts3 u8_info
  have c0 : w.cell? ⟨p, 0, none⟩ = some v := h.blk.cell 0
  have HW := Lib.hid h
  obtain ⟨A, c, rfl, h1, h2⟩ := own_slice h.own
  obtain ⟨q, hq⟩ : ∃ q, q = l.length := ⟨_, rfl⟩
  have HQ := Lib.hid hq
  rw [← hq] at c0 hl h1 ⊢
  have HO : Hid (w.ownsRow B 5 1 (.slice A q c) q (u8s l)) := by have := h.own; unfold Own at this; rw [← hq] at this; exact this
  clear h hq
  rw [← HQ.out] at HW
  go_enter Try.func34, Try.ntmps34
  go_wp2_with (at_builtin; refine wpList_append_any _ rfl (.tmp 8) (.tmp 10) _ rfl B 5 i0 _ 1 1 Try.underlying24 hi0 hz0 hz1 hz2 rfl (by omega) (.slice A q c) q (u8s l) rfl (HO.out.alloc _) (w.heap.size + 1) (some ⟨w.heap.size, 0, none⟩) 1 1 (u8s (be x 1)) rfl (lits_byt w _ _ (cells_1 x _ (by omega))) (u8s_one _) (by simp only [maxLen]; omega) (by omega) (Nat.le_trans hB (by simp)) ?_; intro v1 w1 hown1 hg1 hat1; obtain ⟨A1, c1', rfl, _, _⟩ := own_slice hown1; obtain ⟨HB1, HF1⟩ := wroteE HW.out ((Below.refl _ w).alloc (Nat.le_refl _) _) HQ.out (by rw [be_length]) hown1 hg1 hat1; have c1 : w1.cell? ⟨p, 0, none⟩ = some (.slice A q c) := HB1.out.cell 0; have f1 := HB1.out.frozen 0; clear hown1 hg1 hat1)
  go_end0
  exact HF1.out

set_option maxHeartbeats 1000000 in
theorem wre_u16 {w : World} {p B : Nat} {v : Value} {l : List UInt8} {lg : Bool} (x : Nat) (hx : x < 65536) (h : WrE w p B v l lg) (hB : B ≤ w.heap.size) (hl : l.length ≤ 1000000) :
    Calls Try.prog 18 #[rptr p, .int .u16 (x : Int)] w (WroteE w p B v (l ++ be x 2) lg) := by
  obtain ⟨i0, hi0, hz0, hz1, hz2⟩ := info_parts3 u8_info
  have c0 : w.cell? ⟨p, 0, none⟩ = some v := h.blk.cell 0
  have HW := Lib.hid h
  obtain ⟨A, c, rfl, h1, h2⟩ := own_slice h.own
  obtain ⟨q, hq⟩ : ∃ q, q = l.length := ⟨_, rfl⟩
  have HQ := Lib.hid hq
  rw [← hq] at c0 hl h1 ⊢
  have HO : Hid (w.ownsRow B 5 1 (.slice A q c) q (u8s l)) := by have := h.own; unfold Own at this; rw [← hq] at this; exact this
  clear h hq
  rw [← HQ.out] at HW
  go_enter Try.func18, Try.ntmps18
  go_wp2_with (at_builtin; refine wpList_append_any _ rfl (.tmp 8) (.tmp 14) _ rfl B 5 i0 _ 1 1 Try.underlying24 hi0 hz0 hz1 hz2 rfl (by omega) (.slice A q c) q (u8s l) rfl (HO.out.alloc _) (w.heap.size + 1) (some ⟨w.heap.size, 0, none⟩) 2 2 (u8s (be x 2)) rfl (lits_byt w _ _ (cells_2 x _ _ (by omega) (by omega))) (u8s_one _) (by simp only [maxLen]; omega) (by omega) (Nat.le_trans hB (by simp)) ?_; intro v1 w1 hown1 hg1 hat1; obtain ⟨A1, c1', rfl, _, _⟩ := own_slice hown1; obtain ⟨HB1, HF1⟩ := wroteE HW.out ((Below.refl _ w).alloc (Nat.le_refl _) _) HQ.out (by rw [be_length]) hown1 hg1 hat1; have c1 : w1.cell? ⟨p, 0, none⟩ = some (.slice A q c) := HB1.out.cell 0; have f1 := HB1.out.frozen 0; clear hown1 hg1 hat1)
  go_end0
  exact HF1.out

set_option maxHeartbeats 1000000 in
theorem wre_u32 {w : World} {p B : Nat} {v : Value} {l : List UInt8} {lg : Bool} (x : Nat) (hx : x < 4294967296) (h : WrE w p B v l lg) (hB : B ≤ w.heap.size) (hl : l.length ≤ 1000000) :
    Calls Try.prog 19 #[rptr p, .int .u32 (x : Int)] w (WroteE w p B v (l ++ be x 4) lg) := by
  obtain ⟨i0, hi0, hz0, hz1, hz2⟩ := info_parts3 u8_info
  have c0 : w.cell? ⟨p, 0, none⟩ = some v := h.blk.cell 0
  have HW := Lib.hid h
  obtain ⟨A, c, rfl, h1, h2⟩ := own_slice h.own
  obtain ⟨q, hq⟩ : ∃ q, q = l.length := ⟨_, rfl⟩
  have HQ := Lib.hid hq
  rw [← hq] at c0 hl h1 ⊢
  have HO : Hid (w.ownsRow B 5 1 (.slice A q c) q (u8s l)) := by have := h.own; unfold Own at this; rw [← hq] at this; exact this
  clear h hq
  rw [← HQ.out] at HW
  go_enter Try.func19, Try.ntmps19
  go_wp2_with (at_builtin; refine wpList_append_any _ rfl (.tmp 8) (.tmp 20) _ rfl B 5 i0 _ 1 1 Try.underlying24 hi0 hz0 hz1 hz2 rfl (by omega) (.slice A q c) q (u8s l) rfl (HO.out.alloc _) (w.heap.size + 1) (some ⟨w.heap.size, 0, none⟩) 4 4 (u8s (be x 4)) rfl (lits_byt w _ _ (cells_4 x _ _ _ _ (by omega) (by omega) (by omega) (by omega))) (u8s_one _) (by simp only [maxLen]; omega) (by omega) (Nat.le_trans hB (by simp)) ?_; intro v1 w1 hown1 hg1 hat1; obtain ⟨A1, c1', rfl, _, _⟩ := own_slice hown1; obtain ⟨HB1, HF1⟩ := wroteE HW.out ((Below.refl _ w).alloc (Nat.le_refl _) _) HQ.out (by rw [be_length]) hown1 hg1 hat1; have c1 : w1.cell? ⟨p, 0, none⟩ = some (.slice A q c) := HB1.out.cell 0; have f1 := HB1.out.frozen 0; clear hown1 hg1 hat1)
  go_end0
  exact HF1.out

set_option maxHeartbeats 1000000 in
theorem wre_put {w : World} {p B C : Nat} {v : Value} {l news : List UInt8} {lg : Bool} {A2 : Option Addr} {n2 c2 : Nat} (h : WrE w p B v l lg) (hB : B ≤ w.heap.size) (hl : l.length ≤ 1000000) (hn : n2 = news.length) (hm : n2 ≤ 1000000) (hby : Byt w C A2 news) :
    Calls Try.prog 21 #[rptr p, .slice A2 n2 c2] w (WroteE w p B v (l ++ news) lg) := by
  obtain ⟨i0, hi0, hz0, hz1, hz2⟩ := info_parts3 u8_info
  have c0 : w.cell? ⟨p, 0, none⟩ = some v := h.blk.cell 0
  have HW := Lib.hid h
  obtain ⟨A, c, rfl, h1, h2⟩ := own_slice h.own
  obtain ⟨q, hq⟩ : ∃ q, q = l.length := ⟨_, rfl⟩
  have HQ := Lib.hid hq
  rw [← hq] at c0 hl h1 ⊢
  have HO : Hid (w.ownsRow B 5 1 (.slice A q c) q (u8s l)) := by have := h.own; unfold Own at this; rw [← hq] at this; exact this
  have HY : Hid (Reads w C 1 A2 n2 (u8s news)) := by have := hby; unfold Byt at this; rw [← hn] at this; exact this
  have HN := Lib.hid hn
  clear h hq hby hn
  rw [← HQ.out] at HW
  go_enter Try.func21, Try.ntmps21
  go_wp2_with (at_builtin; refine wpList_append_any _ rfl (.tmp 8) (.tmp 9) _ rfl B 5 i0 _ 1 1 Try.underlying24 hi0 hz0 hz1 hz2 rfl (by omega) (.slice A q c) q (u8s l) rfl HO.out C A2 n2 c2 (u8s news) rfl HY.out (u8s_one _) (by simp only [maxLen]; omega) (by omega) hB ?_; intro v1 w1 hown1 hg1 hat1; obtain ⟨A1, c1', rfl, _, _⟩ := own_slice hown1; obtain ⟨HB1, HF1⟩ := wroteE HW.out (Below.refl _ w) HQ.out HN.out hown1 hg1 hat1; have c1 : w1.cell? ⟨p, 0, none⟩ = some (.slice A q c) := HB1.out.cell 0; have f1 := HB1.out.frozen 0; clear hown1 hg1 hat1)
  go_end0
  exact HF1.out

theorem wre_len {w : World} {p B : Nat} {v : Value} {l : List UInt8} {lg : Bool} (h : WrE w p B v l lg) :
    Calls Try.prog 22 #[rptr p] w fun e w' => e = .returned (.int .i64 (l.length : Int)) ∧ w = w' := by
  have c0 : w.cell? ⟨p, 0, none⟩ = some v := h.blk.cell 0
  obtain ⟨A, c, rfl, h1, h2⟩ := own_slice h.own
  obtain ⟨q, hq⟩ : ∃ q, q = l.length := ⟨_, rfl⟩
  rw [← hq] at c0 h1 ⊢
  clear h hq
  go_enter Try.func22, Try.ntmps22
  go_wp2_with fail
  go_ret
  exact ⟨rfl, rfl⟩

theorem wre_out {w : World} {p B : Nat} {v : Value} {l : List UInt8} {lg : Bool} (h : WrE w p B v l lg) (hl : l.length ≤ 1000000) :
    Calls Try.prog 24 #[rptr p] w fun e w' => (∃ u, e = .returned u ∧ Own w' w.heap.size u l) ∧ Below w.heap.size w w' := by
  have c0 : w.cell? ⟨p, 0, none⟩ = some v := h.blk.cell 0
  obtain ⟨A, c, rfl, h1, h2⟩ := own_slice h.own
  have C := Lib.hid (clone_any A l c w hl h.byt)
  clear h
  go_enter Try.func24, Try.ntmps24
  go_wp2_with fail
  refine C.out.mono ?_
  rintro e w1 ⟨⟨u, rfl, ho⟩, hb⟩
  go_wp2_with fail
  go_ret
  exact ⟨⟨u, rfl, ho⟩, hb⟩

/-! ### readers, whatever is left -/
/-- What is left behind n bytes; whether that is bad; the number of n bytes; n bytes. -/
def cutL (n : Nat) (l : List UInt8) : List UInt8 := if n ≤ l.length then l.drop n else []
def cutB (n : Nat) (l : List UInt8) (bad : Bool) : Bool := if n ≤ l.length then bad else true
def val (n : Nat) (l : List UInt8) : Nat := if n ≤ l.length then num (l.take n) else 0
def cutT (n : Nat) (l : List UInt8) : List UInt8 := if n ≤ l.length then l.take n else []
theorem cutL_len (n : Nat) (l : List UInt8) : (cutL n l).length ≤ l.length := by
  unfold cutL; split
  · rw [List.length_drop]; omega
  · simp
theorem cutL_cutL (a b : Nat) (l : List UInt8) : cutL a (cutL b l) = cutL (b + a) l := by
  unfold cutL
  by_cases h : b ≤ l.length
  · rw [if_pos h, List.length_drop]
    by_cases h2 : b + a ≤ l.length
    · rw [if_pos h2, if_pos (by omega), List.drop_drop]
    · rw [if_neg h2, if_neg (by omega)]
  · rw [if_neg h, if_neg (by omega : ¬ b + a ≤ l.length)]
    split <;> simp
theorem cutB_cutB (a b : Nat) (l : List UInt8) (bad : Bool) : cutB a (cutL b l) (cutB b l bad) = cutB (b + a) l bad := by
  unfold cutB cutL
  by_cases h : b ≤ l.length
  · rw [if_pos h, if_pos h, List.length_drop]
    by_cases h2 : b + a ≤ l.length
    · rw [if_pos h2, if_pos (by omega)]
    · rw [if_neg h2, if_neg (by omega)]
  · rw [if_neg h, if_neg h, if_neg (by omega : ¬ b + a ≤ l.length)]
    split <;> rfl
theorem cutL_yes {n : Nat} {l : List UInt8} (h : n ≤ l.length) : cutL n l = l.drop n := if_pos h
theorem cutB_yes {n : Nat} {l : List UInt8} (h : n ≤ l.length) (bad : Bool) : cutB n l bad = bad := if_pos h
theorem cutB_no {n : Nat} {l : List UInt8} (h : ¬ n ≤ l.length) (bad : Bool) : cutB n l bad = true := if_neg h
theorem cutT_yes {n : Nat} {l : List UInt8} (h : n ≤ l.length) : cutT n l = l.take n := if_pos h
theorem val_yes {n : Nat} {l : List UInt8} (h : n ≤ l.length) : val n l = num (l.take n) := if_pos h
theorem val_cut {a b : Nat} {l : List UInt8} (h : b + a ≤ l.length) : val a (cutL b l) = num ((l.drop b).take a) := by
  rw [cutL_yes (by omega), val_yes (by rw [List.length_drop]; omega)]
theorem val_lt (n : Nat) (l : List UInt8) : val n l < 256 ^ n := by
  unfold val; split
  · exact num_small (Nat.le_refl _)
  · exact Nat.pow_pos (by decide)
theorem cutT_len (n : Nat) (l : List UInt8) : (cutT n l).length ≤ n := by unfold cutT; split <;> simp <;> omega
end Go.Proofs.Ytabkjgklmibagaa.Oct
