/-
  The document's answers of layer 4 (flumeref04): Take, Num.
-/
import Derived.Test.YtmbgjijajakgeaaDoorOctText
set_option linter.unusedVariables false
set_option linter.unusedSimpArgs false
namespace Go.Proofs.YtmbgjijajakgeaaDoor.Oct
open Go.ChangeShapes Go.WideShapes Go.ChangeAt Go.RowKit Go.Proofs.YtmbgjijajakgeaaDoor.Words

/-! ### the tape -/
/-- The document's tape behind the pointer to block p: bytes l, k of them read. -/
structure TapeAt (w : World) (p : Nat) (A : Option Addr) (c : Nat) (l : List UInt8) (k : Nat) (bad : Bool) : Prop where
  blk : Blk w p 55 #[.slice A l.length c, .int .i64 (k : Int), .bool bad]
  byt : Byt w p A l
  le : k ≤ l.length
  cap : l.length ≤ c
  max : c ≤ 9223372036854775807
theorem TapeAt.keep {w w' : World} {p : Nat} {A : Option Addr} {c : Nat} {l : List UInt8} {k : Nat} {bad : Bool} (h : TapeAt w p A c l k bad) (hk : ∀ b, b < p + 1 → w'.heap[b]? = w.heap[b]?) : TapeAt w' p A c l k bad :=
  ⟨(hk p (by omega)).trans h.blk, h.byt.keep (fun q hq => World.cell?_of_block (hk q.block (by omega))), h.le, h.cap, h.max⟩
theorem TapeAt.below {w w' : World} {p : Nat} {A : Option Addr} {c : Nat} {l : List UInt8} {k : Nat} {bad : Bool} (h : TapeAt w p A c l k bad) (hb : Below w.heap.size w w') : TapeAt w' p A c l k bad :=
  h.keep (fun b hb' => hb.block b (by have := h.blk.lt; omega))
abbrev ptr (p : Nat) : Value := .pointer (some ⟨p, 0, none⟩)
/-- What Take leaves where there are so many bytes. -/
def Took (w : World) (p : Nat) (A : Option Addr) (c : Nat) (l : List UInt8) (k n : Nat) (e : Ending) (w' : World) : Prop :=
  ∃ A2 c2, e = .returned (.slice A2 n c2) ∧ Byt w' p A2 ((l.drop k).take n) ∧ TapeAt w' p A c l (k + n) false ∧ w.grownBy w' (some p)
set_option maxHeartbeats 1000000 in
theorem take_yes {w : World} {p : Nat} {A : Option Addr} {c : Nat} {l : List UInt8} {k n : Nat} (h : TapeAt w p A c l k false) (hn : k + n ≤ l.length) :
    Calls Tryd.prog 38 #[ptr p, .int .i64 (n : Int)] w (Took w p A c l k n) := by
  have HT := Lib.hid h
  have c0 : w.cell? ⟨p, 0, none⟩ = some (.slice A l.length c) := h.blk.cell 0
  have c1 : w.cell? ⟨p, 1, none⟩ = some (.int .i64 (k : Int)) := h.blk.cell 1
  have c2 : w.cell? ⟨p, 2, none⟩ = some (.bool false) := h.blk.cell 2
  have f1 := h.blk.frozen 1
  have hcap := h.cap
  have hmax := h.max
  obtain ⟨q, hq⟩ : ∃ q, q = l.length := ⟨_, rfl⟩
  rw [← hq] at c0 hn hcap
  have HQ := Lib.hid hq
  clear h hq
  have d1 : IntKind.i64.wrap ((q : Int) - (k : Int)) = (q : Int) - (k : Int) := IntWalk.i64_in _ (by omega)
  have d2 : decide ((n : Int) < 0) = false := by simp
  have d3 : ¬ ((q : Int) - (k : Int) < (n : Int)) := by omega
  go_enter Tryd.func38, Tryd.ntmps38
  go_wp2_with fail
  go_quiet (fail)
  go_wp2_with fail
  obtain ⟨w2, hw2⟩ : ∃ w2, w2 = (w.drewN nq).setCell ⟨p, 1, none⟩ (.int .i64 ((k : Int) + (n : Int))) := ⟨_, rfl⟩
  have HG : Hid (w.grownBy w2 (some p)) := by rw [hw2]; exact only_setCell (p := ⟨p, 1, none⟩) (only_drewN (World.grownBy.refl w _) nq) (.inl rfl) _
  have hb2 : Blk w2 p 55 #[.slice A q c, .int .i64 ((k : Int) + (n : Int)), .bool false] := by
    rw [hw2, HQ.out]
    exact ((HT.out.blk).drewN nq).set_ 1 _
  have hby : Byt w2 p A l := by
    rw [hw2]
    exact (HT.out.byt.drewN nq).keep (fun a ha => World.cell?_setCell_other (w.drewN nq) ⟨p, 1, none⟩ a _ (fun e => by subst e; exact absurd ha (by simp)))
  have HT2 : Hid (TapeAt w2 p A c l (k + n) false) := ⟨by rw [← HQ.out]; simpa using hb2, hby, by rw [← HQ.out]; exact hn, by rw [← HQ.out]; exact hcap, hmax⟩
  rw [← hw2]
  have c0 : w2.cell? ⟨p, 0, none⟩ = some (.slice A q c) := hb2.cell 0
  have c1 : w2.cell? ⟨p, 1, none⟩ = some (.int .i64 ((k : Int) + (n : Int))) := hb2.cell 1
  clear hw2 hb2 hby d1 d2 d3 f1 c2
  have d1 : IntKind.i64.wrap ((k : Int) + (n : Int) - (n : Int)) = (k : Int) := by rw [show (k : Int) + (n : Int) - (n : Int) = (k : Int) by omega]; exact IntWalk.i64_in _ (by omega)
  have d4 : (k : Int) + (n : Int) - (n : Int) = (k : Int) := by omega
  have d2 : (0 : Int) ≤ (k : Int) := by omega
  have d3 : (k : Int) ≤ (k : Int) + (n : Int) := by omega
  have d5 : (k : Int) + (n : Int) ≤ (c : Int) := by omega
  have d6 : ((k : Int) + (n : Int)).toNat = k + n := by omega
  by_cases hck : c = k
  · obtain rfl : n = 0 := by omega
    subst hck
    go_quiet (fail)
    go_wp2_with fail
    go_ret
    exact ⟨_, _, rfl, ⟨by simp [u8s], fun h => absurd h (by simp)⟩, HT2.out.keep (fun _ _ => rfl), only_drewN HG.out _⟩
  · go_quiet (fail)
    go_wp2_with fail
    go_ret
    exact ⟨_, _, rfl, ((HT2.out.byt.cut_map HT.out.le).take_ n).keep (fun _ _ => rfl), HT2.out.keep (fun _ _ => rfl), only_drewN HG.out _⟩
/-- What Take leaves where there are fewer. -/
def Missed (w : World) (p : Nat) (A : Option Addr) (c : Nat) (l : List UInt8) (e : Ending) (w' : World) : Prop :=
  e = .returned (.slice none 0 0) ∧ TapeAt w' p A c l l.length true ∧ w.grownBy w' (some p)
set_option maxHeartbeats 1000000 in
theorem take_no {w : World} {p : Nat} {A : Option Addr} {c : Nat} {l : List UInt8} {k : Nat} {bad : Bool} {n : Int} (h : TapeAt w p A c l k bad) (hn : bad = true ∨ n < 0 ∨ (l.length : Int) - (k : Int) < n) (hnb : -9223372036854775808 ≤ n ∧ n ≤ 9223372036854775807) :
    Calls Tryd.prog 38 #[ptr p, .int .i64 n] w (Missed w p A c l) := by
  have HT := Lib.hid h
  have c0 : w.cell? ⟨p, 0, none⟩ = some (.slice A l.length c) := h.blk.cell 0
  have c1 : w.cell? ⟨p, 1, none⟩ = some (.int .i64 (k : Int)) := h.blk.cell 1
  have c2 : w.cell? ⟨p, 2, none⟩ = some (.bool bad) := h.blk.cell 2
  have f1 := h.blk.frozen 1
  have f2 := h.blk.frozen 2
  have hcap := h.cap
  have hmax := h.max
  have hle := h.le
  obtain ⟨q, hq⟩ : ∃ q, q = l.length := ⟨_, rfl⟩
  rw [← hq] at c0 hn hcap hle
  have HQ := Lib.hid hq
  clear h hq
  have d1 : IntKind.i64.wrap ((q : Int) - (k : Int)) = (q : Int) - (k : Int) := IntWalk.i64_in _ (by omega)
  have key : ∀ nq, Missed w p A c l (.returned (.slice none 0 0)) (((w.drewN nq).setCell ⟨p, 2, none⟩ (.bool true)).setCell ⟨p, 1, none⟩ (.int .i64 (q : Int))) := fun nq => by
    refine ⟨rfl, ⟨?_, ?_, Nat.le_refl _, by rw [← HQ.out]; exact hcap, hmax⟩, only_setCell (p := ⟨p, 1, none⟩) (only_setCell (p := ⟨p, 2, none⟩) (only_drewN (World.grownBy.refl w _) nq) (.inl rfl) _) (.inl rfl) _⟩
    · have := (((HT.out.blk).drewN nq).set_ 2 (.bool true)).set_ 1 (.int .i64 (q : Int))
      rw [← HQ.out] at this ⊢
      simpa using this
    · refine ((HT.out.byt.drewN nq).keep (w' := (w.drewN nq).setCell ⟨p, 2, none⟩ (.bool true)) (fun a ha => World.cell?_setCell_other _ ⟨p, 2, none⟩ a _ (fun e => by subst e; exact absurd ha (by simp)))).keep (fun a ha => World.cell?_setCell_other _ ⟨p, 1, none⟩ a _ (fun e => by subst e; exact absurd ha (by simp)))
  have KEY := Lib.hid key
  clear key
  have hways : bad = true ∨ (bad = false ∧ n < 0) ∨ (bad = false ∧ 0 ≤ n ∧ (q : Int) - (k : Int) < n) := by
    cases bad
    · rcases Int.lt_or_le n 0 with h0 | h0
      · exact .inr (.inl ⟨rfl, h0⟩)
      · refine .inr (.inr ⟨rfl, h0, ?_⟩)
        rcases hn with h1 | h1 | h1
        · cases h1
        · omega
        · exact h1
    · exact .inl rfl
  clear hn
  rcases hways with rfl | ⟨rfl, hn⟩ | ⟨rfl, hn, hn2⟩
  · go_enter Tryd.func38, Tryd.ntmps38
    go_wp2_with fail
    go_quiet (fail)
    go_wp2_with fail
    go_ret
    exact KEY.out _
  · have d2 : decide (n < 0) = true := by simpa using hn
    go_enter Tryd.func38, Tryd.ntmps38
    go_wp2_with fail
    go_quiet (fail)
    go_wp2_with fail
    go_ret
    exact KEY.out _
  · have d2 : decide (n < 0) = false := by simp; omega
    go_enter Tryd.func38, Tryd.ntmps38
    go_wp2_with fail
    go_quiet (fail)
    go_wp2_with fail
    go_ret
    exact KEY.out _
/-- What Num leaves: the number of the bytes that Take hands out. -/
def Numbered (w : World) (p : Nat) (A : Option Addr) (c : Nat) (l : List UInt8) (k n : Nat) (e : Ending) (w' : World) : Prop :=
  e = .returned (.int .u64 ((num ((l.drop k).take n) : Nat) : Int)) ∧ TapeAt w' p A c l (k + n) false ∧ w.grownBy w' (some p)
set_option maxHeartbeats 1000000 in
theorem num_yes {w : World} {p : Nat} {A : Option Addr} {c : Nat} {l : List UInt8} {k n : Nat} (h : TapeAt w p A c l k false) (hn : k + n ≤ l.length) (hn8 : n ≤ 4) :
    Calls Tryd.prog 21 #[ptr p, .int .i64 (n : Int)] w (Numbered w p A c l k n) := by
  have C := Lib.hid (take_yes h hn)
  have hlen : ((l.drop k).take n).length = n := by rw [List.length_take, List.length_drop]; omega
  clear h
  obtain ⟨x, hx⟩ : ∃ x, x = (l.drop k).take n := ⟨_, rfl⟩
  have HX := Lib.hid hx
  rw [← hx] at hlen
  have HL := Lib.hid hlen
  clear hx hlen hn
  go_enter Tryd.func21, Tryd.ntmps21
  go_wp2_with fail
  refine C.out.mono ?_
  rintro e w1 ⟨A2, c2, rfl, hby, ht, hg⟩
  rw [← HX.out] at hby
  have HB := Lib.hid hby
  have HT := Lib.hid ht
  have HG := Lib.hid hg
  clear hby ht hg
  go_wp2_with fail
  go_loop [5, 12] (fun v i => ∃ m : Nat, m ≤ n ∧ i = .int .i64 (m : Int) ∧ v = .int .u64 ((num (x.take m) : Nat) : Int)) (fun _ i => n - (intOf i).toNat)
  case atStart => exact ⟨0, by omega, rfl, rfl⟩
  case round =>
    obtain ⟨m, hm, rfl, rfl⟩ := hrel
    by_cases hlt : m < n
    · have hm2 : m < x.length := by rw [HL.out]; exact hlt
      obtain ⟨ad, rfl, _, hc⟩ := HB.out.at_byte hm2
      have hs : num (x.take (m + 1)) = 256 * num (x.take m) + (x[m]).toNat := by rw [List.take_succ_eq_append_getElem hm2, num_snoc]
      have hb : num (x.take m) < 256 ^ 4 := Nat.lt_of_lt_of_le (num_lt _) (Nat.pow_le_pow_right (by decide) (by rw [List.length_take]; omega))
      have HS := Lib.hid hs
      clear hs
      obtain ⟨y, hy⟩ : ∃ y, y = num (x.take m) := ⟨_, rfl⟩
      rw [← hy] at hb HS ⊢
      obtain ⟨z, hz⟩ : ∃ z, z = x[m] := ⟨_, rfl⟩
      rw [← hz] at hc HS
      have hzb := u8_bd z
      have hb2 : y < 4294967296 := hb
      clear hy hz hb
      go_wp2_with fail
      go_round
      case rel => exact ⟨m + 1, by omega, by go_num, by rw [HS.out]; go_num⟩
      case measure => simp [intOf]; omega
    · obtain rfl : m = n := by omega
      have HF : Hid (num (x.take m) = num ((l.drop k).take m)) := by rw [← HX.out, List.take_of_length_le (by rw [HL.out]; exact Nat.le_refl _)]; rfl
      go_wp2_with fail
      go_ret
      exact ⟨ret_int (by rw [HF.out]), HT.out, HG.out⟩
theorem num_no {w : World} {p : Nat} {A : Option Addr} {c : Nat} {l : List UInt8} {k : Nat} {bad : Bool} {n : Nat} (h : TapeAt w p A c l k bad) (hn : bad = true ∨ l.length < k + n) (hn8 : n ≤ 4) :
    Calls Tryd.prog 21 #[ptr p, .int .i64 (n : Int)] w fun e w' => e = .returned (.int .u64 0) ∧ TapeAt w' p A c l l.length true ∧ w.grownBy w' (some p) := by
  have C := Lib.hid (take_no (n := (n : Int)) h (by have := h.le; rcases hn with h1 | h1; exact .inl h1; exact .inr (.inr (by omega))) (by omega))
  clear h hn
  go_enter Tryd.func21, Tryd.ntmps21
  go_wp2_with fail
  refine C.out.mono ?_
  rintro e w1 ⟨rfl, ht, hg⟩
  have HT := Lib.hid ht
  have HG := Lib.hid hg
  clear ht hg
  go_wp2_with fail
  refine wp_loop_rounds 1 ?_
  rw [rounds_succ]
  go_wp2_with fail
  go_ret
  exact ⟨rfl, HT.out, HG.out⟩
end Go.Proofs.YtmbgjijajakgeaaDoor.Oct
