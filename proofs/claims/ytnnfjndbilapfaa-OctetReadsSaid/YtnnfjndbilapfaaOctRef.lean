/-
  The document's answers of layer 4 (flumeref04): Text, Pad, Take, Num.
-/
import Derived.Test.YtnnfjndbilapfaaOctPlain
import Derived.Test.YtnnfjndbilapfaaBytes
set_option linter.unusedVariables false
set_option linter.unusedSimpArgs false
namespace Go.Proofs.Ytnnfjndbilapfaa.Oct
open Go.ChangeShapes Go.WideShapes Go.ChangeAt Go.RowKit Go.Proofs.Ytnnfjndbilapfaa.Words

theorem one_byt (w : World) (x : Int) (b : UInt8) (hx : x = (b.toNat : Int)) : Byt (w.alloc (.cells #[.int .u8 x] 5)) (w.heap.size + 1) (some ⟨w.heap.size, 0, none⟩) [b] := by
  subst hx
  exact (Blk.new w 5 #[.int .u8 (b.toNat : Int)]).byt (by omega) rfl
/-- An append onto a row of the call's own, behind an alloc: what it leaves, at the call's own base. -/
theorem grown_again {w wr w1 : World} {o : Obj} {A : Option Addr} {k c n : Nat} {v1 : Value} {xs ys : List Value} (hb : Below w.heap.size w wr) (ho : wr.ownsRow w.heap.size 5 1 (.slice A k c) k xs) (h : w1.ownsRow w.heap.size 5 1 v1 n ys) (hg : (wr.alloc o).grownBy w1 (Value.slice A k c).ownBlock) (hs : w.heap.size ≤ (wr.alloc o).heap.size) :
    ∃ A' c', v1 = .slice A' n c' ∧ w1.ownsRow w.heap.size 5 1 (.slice A' n c') n ys ∧ Hid (Below w.heap.size w w1) := by
  obtain ⟨A', c', rfl, _, _⟩ := own_slice h
  exact ⟨A', c', rfl, h, (hb.alloc hb.size o).grown hg hs (fun b e => (ho.lt b e).1)⟩
set_option maxHeartbeats 1000000 in
theorem text_any (v n : Nat) (hv : v < 18446744073709551616) (hn : n ≤ 8) (w : World) :
    Calls Try.prog 20 #[.int .u64 (v : Int), .int .i64 (n : Int)] w fun e w' => (∃ u, e = .returned u ∧ Own w' w.heap.size u (be v n)) ∧ Below w.heap.size w w' := by
  obtain ⟨i0, hi0, hz0, hz1, hz2⟩ := info_parts3 u8_info
  go_enter Try.func20, Try.ntmps20
  go_wp2_with fail
  go_loopw [5, 6] (fun b i wr => ∃ (k : Nat) (A : Option Addr) (c : Nat), k ≤ n ∧ i = .int .i64 ((n : Int) - 1 - (k : Int)) ∧ b = .slice A k c ∧ Hid (wr.ownsRow w.heap.size 5 1 (.slice A k c) k (u8s ((be v n).take k))) ∧ Hid (Below w.heap.size w wr)) (fun _ i _ => (intOf i + 1).toNat)
  case atStart => exact ⟨0, none, 0, by omega, by go_num, rfl, World.ownsRow_nil _ _ _ _, Below.refl _ _⟩
  case round =>
    obtain ⟨k, A, c, hk, rfl, rfl, ho, hb⟩ := hrel
    by_cases hlt : k < n
    · have HT := Lib.hid (be_take v n k hlt)
      obtain ⟨m, hm⟩ : ∃ m : Nat, m = n - 1 - k := ⟨_, rfl⟩
      have hmi : (n : Int) - 1 - (k : Int) = (m : Int) := by omega
      rw [← hm] at HT
      rw [hmi]
      have HM := Lib.hid hmi
      have hm7 : m ≤ 7 := by omega
      clear hm hmi
      have HX : Hid ((v : Int) / 2 ^ (8 * m) % 256 = ((byteAt v m).toNat : Int)) := byteAt_walk v m
      have hbs := hb.out.size
      go_wp2_with (at_builtin; refine wpList_append_any _ rfl (.tmp 13) (.tmp 20) _ rfl w.heap.size 5 i0 _ 1 1 Try.underlying22 hi0 hz0 hz1 hz2 rfl (by omega) (.slice A k c) k (u8s ((be v n).take k)) rfl (ho.out.alloc _) (wr.heap.size + 1) (some ⟨wr.heap.size, 0, none⟩) 1 1 (u8s [byteAt v m]) rfl (one_byt wr _ _ HX.out) (u8s_one _) (by simp only [maxLen]; omega) (by omega) (Nat.le_trans hbs (by simp)) ?_; intro v1 w1 hown1 hg1 hat1; obtain ⟨A', c', rfl, hown2, hbelow⟩ := grown_again hb.out ho.out hown1 hg1 (Nat.le_trans hbs (by simp)); clear hown1 hg1 hat1)
      go_roundw
      case rel =>
        refine ⟨k + 1, A', c', by omega, by rw [show ((n : Int) - 1 - ((k + 1 : Nat) : Int)) = (m : Int) - 1 by have := HM.out; omega], rfl, ?_, hbelow⟩
        rw [HT.out, u8s_append]
        exact hown2
      case measure => simp [intOf]
    · obtain rfl : k = n := by omega
      go_wp2_with fail
      go_ret
      refine ⟨⟨_, rfl, ?_⟩, hb.out⟩
      have := ho.out
      unfold Own
      rw [be_length]
      rwa [List.take_of_length_le (by rw [be_length]; exact Nat.le_refl _)] at this

theorem mod_step (len k r : Nat) (hr : len % k = r) (h1 : r < k) : (len + 1) % k = if r + 1 = k then 0 else r + 1 := by
  have e : len + 1 = k * (len / k) + (r + 1) := by rw [← hr]; have := Nat.div_add_mod len k; omega
  rw [e, Nat.mul_add_mod]
  split
  · rename_i h; rw [h, Nat.mod_self]
  · exact Nat.mod_eq_of_lt (by omega)
theorem padN_step (len : Nat) (n : Int) (h : 0 < n) (hm : len % n.toNat ≠ 0) : padN len n = padN (len + 1) n + 1 := by
  unfold padN
  rw [if_pos h, if_pos h]
  obtain ⟨k, rfl⟩ : ∃ k : Nat, n = (k : Int) := ⟨n.toNat, by omega⟩
  simp only [Int.toNat_natCast] at hm ⊢
  have hk : 0 < k := by omega
  have h1 := Nat.mod_lt len hk
  obtain ⟨r, hr⟩ : ∃ r, len % k = r := ⟨_, rfl⟩
  rw [hr] at h1 hm ⊢
  rw [mod_step len k r hr h1]
  split
  · rename_i h2
    rw [Nat.sub_zero, Nat.mod_self, Nat.mod_eq_of_lt (by omega)]
    omega
  · rw [Nat.mod_eq_of_lt (by omega), Nat.mod_eq_of_lt (by omega)]
    omega
theorem padN_none (len : Nat) (n : Int) (h : ¬ (0 < n ∧ len % n.toNat ≠ 0)) : padN len n = 0 := by
  unfold padN
  split
  · rename_i h0
    have : len % n.toNat = 0 := by omega
    rw [this, Nat.sub_zero, Nat.mod_self]
  · rfl
/-- What Pad leaves: the bytes with noughts behind them, in the row that it was handed or in a new one. -/
def Padded (w : World) (B : Nat) (v : Value) (l : List UInt8) (n : Int) (e : Ending) (w' : World) : Prop :=
  ∃ v', e = .returned v' ∧ Own w' B v' (l ++ List.replicate (padN l.length n) 0) ∧ w.grownBy w' v.ownBlock ∧ (v'.ownBlock = v.ownBlock ∨ ∃ g, v'.ownBlock = some g ∧ w.heap.size ≤ g)

def lenOf : Value → Nat | .slice _ n _ => n | _ => 0
theorem own_lt {w : World} {B : Nat} {e : TypeId} {size n : Nat} {v : Value} {xs : List Value} (h : w.ownsRow B e size v n xs) : ∀ b, v.ownBlock = some b → B ≤ b ∧ b < w.heap.size := h.lt
/-- A row that grew out of another, behind an alloc and an append. -/
theorem grown_row {w wr w1 : World} {o : Obj} {v v1 v2 : Value} (hg : w.grownBy wr v.ownBlock) (hw : v1.ownBlock = v.ownBlock ∨ ∃ g, v1.ownBlock = some g ∧ w.heap.size ≤ g) (hg1 : (wr.alloc o).grownBy w1 v1.ownBlock) (hat : v2.ownBlock = v1.ownBlock ∨ v2.ownBlock = some (wr.alloc o).heap.size) :
    Hid (w.grownBy w1 v.ownBlock) ∧ Hid (v2.ownBlock = v.ownBlock ∨ ∃ g, v2.ownBlock = some g ∧ w.heap.size ≤ g) := by
  have hs : w.heap.size ≤ (wr.alloc o).heap.size := Nat.le_trans hg.size (by simp)
  constructor
  · refine ⟨hg1.os.trans hg.os, hg1.tape.trans hg.tape, hg1.output.trans hg.output, Nat.le_trans hs hg1.size, fun k hk hne => ?_⟩
    have h1 : some k ≠ v1.ownBlock := by
      rcases hw with e | ⟨g, e, hge⟩
      · rw [e]; exact hne
      · rw [e]; intro e2; injection e2; omega
    exact (hg1.block k (by omega) h1).trans ((Below.heap_alloc wr o k (Nat.lt_of_lt_of_le hk hg.size)).trans (hg.block k hk hne))
  · rcases hat with e | e
    · rw [Hid, e]; exact hw
    · exact .inr ⟨_, e, hs⟩
set_option maxHeartbeats 1000000 in
theorem pad_any (B : Nat) (v : Value) (l : List UInt8) (n : Int) (hn : -9223372036854775808 ≤ n ∧ n ≤ 1000) (w : World) (hl : l.length ≤ 1000000) (ho : Own w B v l) (hB : B ≤ w.heap.size) :
    Calls Try.prog 25 #[v, .int .i64 n] w (Padded w B v l n) := by
  obtain ⟨i0, hi0, hz0, hz1, hz2⟩ := info_parts3 u8_info
  obtain ⟨A, c, rfl, hc, hc2⟩ := own_slice ho
  have HO := Lib.hid ho
  clear ho
  by_cases hn0 : 0 < n
  · obtain ⟨m, rfl⟩ : ∃ m : Nat, n = (m : Int) := ⟨n.toNat, by omega⟩
    have hm0 : 0 < m := by omega
    have hm1 : m ≤ 1000 := by omega
    have hpl : padN l.length (m : Int) ≤ m := by
      unfold padN
      rw [if_pos hn0, Int.toNat_natCast]
      exact Nat.le_of_lt (Nat.mod_lt _ hm0)
    have HPL := Lib.hid hpl
    have hcase := own_lt HO.out
    have HCA := Lib.hid hcase
    clear hn hpl hcase
    go_enter Try.func25, Try.ntmps25
    go_wp2_with fail
    go_loopw [0] (fun b wr => ∃ (k q : Nat) (A' : Option Addr) (c' : Nat), b = .slice A' q c' ∧ Hid (q = l.length + k) ∧ q ≤ l.length + 1000 ∧ c' ≤ 9223372036854775807 ∧ q ≤ c' ∧ Hid (padN (l.length + k) (m : Int) + k = padN l.length (m : Int)) ∧ Hid (wr.ownsRow B 5 1 (.slice A' q c') q (u8s (l ++ List.replicate k 0))) ∧ Hid (w.grownBy wr (Value.slice A l.length c).ownBlock) ∧ Hid ((Value.slice A' q c').ownBlock = (Value.slice A l.length c).ownBlock ∨ ∃ g, (Value.slice A' q c').ownBlock = some g ∧ w.heap.size ≤ g)) (fun b _ => l.length + 1001 - lenOf b)
    case atStart => exact ⟨0, l.length, A, c, rfl, rfl, by omega, hc2, hc, rfl, by have := HO.out; unfold Own at this; rw [List.replicate_zero, List.append_nil]; exact this, World.grownBy.refl w _, .inl rfl⟩
    case round =>
      obtain ⟨k, q, A', c', rfl, HQ, hq, hc3, hc4, HP, ho, hg, hw⟩ := hrel
      have hk : k ≤ m := by have := HP.out; have := HPL.out; omega
      by_cases hz : q % m = 0
      · have hzz : ((q : Int) % (m : Int) != 0) = false := by simp; omega
        have hk0 : Hid (k = padN l.length (m : Int)) := by
          have := padN_none (l.length + k) (m : Int) (fun h => h.2 (by rw [Int.toNat_natCast, ← HQ.out]; exact hz))
          have := HP.out
          show k = _
          omega
        go_wp2_with fail
        go_ret
        refine ⟨_, rfl, ?_, hg.out, hw.out⟩
        have h5 := ho.out
        unfold Own
        rw [← hk0.out, List.length_append, List.length_replicate, ← HQ.out]
        exact h5
      · have hzz : ((q : Int) % (m : Int) != 0) = true := by simp; omega
        have HS : Hid (padN (l.length + k) (m : Int) = padN (l.length + (k + 1)) (m : Int) + 1) := padN_step (l.length + k) (m : Int) hn0 (by rw [Int.toNat_natCast, ← HQ.out]; exact hz)
        have hq2 : q ≤ l.length + 999 := by have := HQ.out; have := HP.out; have := HS.out; have := HPL.out; omega
        have hbs := hg.out.size
        go_wp2_with (at_builtin; refine wpList_append_any _ rfl (.tmp 14) (.tmp 15) _ rfl B 5 i0 _ 1 1 Try.underlying22 hi0 hz0 hz1 hz2 rfl (by omega) (.slice A' q c') q (u8s (l ++ List.replicate k 0)) rfl (ho.out.alloc _) (wr.heap.size + 1) (some ⟨wr.heap.size, 0, none⟩) 1 1 (u8s [0]) rfl (one_byt wr _ 0 rfl) (u8s_one _) (by simp only [maxLen]; omega) (by omega) (Nat.le_trans (Nat.le_trans hB hbs) (by simp)) ?_; intro v1 w1 hown1 hg1 hat1; obtain ⟨A2, c2, rfl, hc5, hc6⟩ := own_slice hown1; obtain ⟨hg2, hw2⟩ := grown_row hg.out hw.out hg1 hat1; have HO1 := Lib.hid hown1; clear hown1 hg1 hat1)
        go_roundw
        case rel =>
          refine ⟨k + 1, q + 1, A2, c2, rfl, ?_, by omega, hc6, hc5, ?_, ?_, hg2, hw2⟩
          · show q + 1 = _; have := HQ.out; omega
          · show padN (l.length + (k + 1)) (m : Int) + (k + 1) = _; have := HP.out; have := HS.out; omega
          · rw [List.replicate_succ', ← List.append_assoc, u8s_append]
            exact HO1.out
        case measure => simp [lenOf]; omega
  · go_enter Try.func25, Try.ntmps25
    go_wp2_with fail
    refine wp_loop_rounds 1 ?_
    rw [rounds_succ]
    go_wp2_with fail
    go_ret
    refine ⟨_, rfl, ?_, World.grownBy.refl w _, .inl rfl⟩
    have e : padN l.length n = 0 := padN_none _ _ (fun h => absurd h.1 (by omega))
    rw [e]
    simpa using HO.out

/-! ### the tape -/
/-- The document's tape behind the pointer to block p: bytes l, k of them read. -/
structure TapeAt (w : World) (p : Nat) (A : Option Addr) (c : Nat) (l : List UInt8) (k : Nat) (bad : Bool) : Prop where
  blk : Blk w p 29 #[.slice A l.length c, .int .i64 (k : Int), .bool bad]
  byt : Byt w p A l
  le : k ≤ l.length
  cap : l.length ≤ c
  max : c ≤ 9223372036854775807
theorem TapeAt.keep {w w' : World} {p : Nat} {A : Option Addr} {c : Nat} {l : List UInt8} {k : Nat} {bad : Bool} (h : TapeAt w p A c l k bad) (hk : ∀ b, b < p + 1 → w'.heap[b]? = w.heap[b]?) : TapeAt w' p A c l k bad :=
  ⟨(hk p (by omega)).trans h.blk, h.byt.keep (fun q hq => World.cell?_of_block (hk q.block (by omega))), h.le, h.cap, h.max⟩
theorem TapeAt.below {w w' : World} {p : Nat} {A : Option Addr} {c : Nat} {l : List UInt8} {k : Nat} {bad : Bool} (h : TapeAt w p A c l k bad) (hb : Below w.heap.size w w') : TapeAt w' p A c l k bad :=
  h.keep (fun b hb' => hb.block b (by have := h.blk.lt; omega))
abbrev ptr (p : Nat) : Value := .pointer (some ⟨p, 0, none⟩)
/-- What Take leaves where there are so many bytes. -/
def Took (w : World) (p : Nat) (A : Option Addr) (c : Nat) (l : List UInt8) (k n : Nat) (e : Ending) (w' : World) : Prop :=
  ∃ A2 c2, e = .returned (.slice A2 n c2) ∧ Byt w' p A2 ((l.drop k).take n) ∧ TapeAt w' p A c l (k + n) false ∧ w.grownBy w' (some p)
set_option maxHeartbeats 1000000 in
theorem take_yes {w : World} {p : Nat} {A : Option Addr} {c : Nat} {l : List UInt8} {k n : Nat} (h : TapeAt w p A c l k false) (hn : k + n ≤ l.length) :
    Calls Try.prog 15 #[ptr p, .int .i64 (n : Int)] w (Took w p A c l k n) := by
  have HT := Lib.hid h
  have c0 : w.cell? ⟨p, 0, none⟩ = some (.slice A l.length c) := h.blk.cell 0
  have c1 : w.cell? ⟨p, 1, none⟩ = some (.int .i64 (k : Int)) := h.blk.cell 1
  have c2 : w.cell? ⟨p, 2, none⟩ = some (.bool false) := h.blk.cell 2
  have f1 := h.blk.frozen 1
  have hcap := h.cap
  have hmax := h.max
  obtain ⟨q, hq⟩ : ∃ q, q = l.length := ⟨_, rfl⟩
  rw [← hq] at c0 hn hcap
  have HQ := Lib.hid hq
  clear h hq
  have d1 : IntKind.i64.wrap ((q : Int) - (k : Int)) = (q : Int) - (k : Int) := IntWalk.i64_in _ (by omega)
  have d2 : decide ((n : Int) < 0) = false := by simp
  have d3 : ¬ ((q : Int) - (k : Int) < (n : Int)) := by omega
  go_enter Try.func15, Try.ntmps15
  go_wp2_with fail
  go_quiet (fail)
  go_wp2_with fail
  obtain ⟨w2, hw2⟩ : ∃ w2, w2 = (w.drewN nq).setCell ⟨p, 1, none⟩ (.int .i64 ((k : Int) + (n : Int))) := ⟨_, rfl⟩
  have HG : Hid (w.grownBy w2 (some p)) := by rw [hw2]; exact only_setCell (p := ⟨p, 1, none⟩) (only_drewN (World.grownBy.refl w _) nq) (.inl rfl) _
  have hb2 : Blk w2 p 29 #[.slice A q c, .int .i64 ((k : Int) + (n : Int)), .bool false] := by
    rw [hw2, HQ.out]
    exact ((HT.out.blk).drewN nq).set_ 1 _
  have hby : Byt w2 p A l := by
    rw [hw2]
    exact (HT.out.byt.drewN nq).keep (fun a ha => World.cell?_setCell_other (w.drewN nq) ⟨p, 1, none⟩ a _ (fun e => by subst e; exact absurd ha (by simp)))
  have HT2 : Hid (TapeAt w2 p A c l (k + n) false) := ⟨by rw [← HQ.out]; simpa using hb2, hby, by rw [← HQ.out]; exact hn, by rw [← HQ.out]; exact hcap, hmax⟩
  rw [← hw2]
  have c0 : w2.cell? ⟨p, 0, none⟩ = some (.slice A q c) := hb2.cell 0
  have c1 : w2.cell? ⟨p, 1, none⟩ = some (.int .i64 ((k : Int) + (n : Int))) := hb2.cell 1
  clear hw2 hb2 hby d1 d2 d3 f1 c2
  have d1 : IntKind.i64.wrap ((k : Int) + (n : Int) - (n : Int)) = (k : Int) := by rw [show (k : Int) + (n : Int) - (n : Int) = (k : Int) by omega]; exact IntWalk.i64_in _ (by omega)
  have d4 : (k : Int) + (n : Int) - (n : Int) = (k : Int) := by omega
  have d2 : (0 : Int) ≤ (k : Int) := by omega
  have d3 : (k : Int) ≤ (k : Int) + (n : Int) := by omega
  have d5 : (k : Int) + (n : Int) ≤ (c : Int) := by omega
  have d6 : ((k : Int) + (n : Int)).toNat = k + n := by omega
  by_cases hck : c = k
  · obtain rfl : n = 0 := by omega
    subst hck
    go_quiet (fail)
    go_wp2_with fail
    go_ret
    exact ⟨_, _, rfl, ⟨by simp [u8s], fun h => absurd h (by simp)⟩, HT2.out.keep (fun _ _ => rfl), only_drewN HG.out _⟩
  · go_quiet (fail)
    go_wp2_with fail
    go_ret
    exact ⟨_, _, rfl, ((HT2.out.byt.cut_map HT.out.le).take_ n).keep (fun _ _ => rfl), HT2.out.keep (fun _ _ => rfl), only_drewN HG.out _⟩
/-- What Take leaves where there are fewer. -/
def Missed (w : World) (p : Nat) (A : Option Addr) (c : Nat) (l : List UInt8) (e : Ending) (w' : World) : Prop :=
  e = .returned (.slice none 0 0) ∧ TapeAt w' p A c l l.length true ∧ w.grownBy w' (some p)
set_option maxHeartbeats 1000000 in
theorem take_no {w : World} {p : Nat} {A : Option Addr} {c : Nat} {l : List UInt8} {k : Nat} {bad : Bool} {n : Int} (h : TapeAt w p A c l k bad) (hn : bad = true ∨ n < 0 ∨ (l.length : Int) - (k : Int) < n) (hnb : -9223372036854775808 ≤ n ∧ n ≤ 9223372036854775807) :
    Calls Try.prog 15 #[ptr p, .int .i64 n] w (Missed w p A c l) := by
  have HT := Lib.hid h
  have c0 : w.cell? ⟨p, 0, none⟩ = some (.slice A l.length c) := h.blk.cell 0
  have c1 : w.cell? ⟨p, 1, none⟩ = some (.int .i64 (k : Int)) := h.blk.cell 1
  have c2 : w.cell? ⟨p, 2, none⟩ = some (.bool bad) := h.blk.cell 2
  have f1 := h.blk.frozen 1
  have f2 := h.blk.frozen 2
  have hcap := h.cap
  have hmax := h.max
  have hle := h.le
  obtain ⟨q, hq⟩ : ∃ q, q = l.length := ⟨_, rfl⟩
  rw [← hq] at c0 hn hcap hle
  have HQ := Lib.hid hq
  clear h hq
  have d1 : IntKind.i64.wrap ((q : Int) - (k : Int)) = (q : Int) - (k : Int) := IntWalk.i64_in _ (by omega)
  have key : ∀ nq, Missed w p A c l (.returned (.slice none 0 0)) (((w.drewN nq).setCell ⟨p, 2, none⟩ (.bool true)).setCell ⟨p, 1, none⟩ (.int .i64 (q : Int))) := fun nq => by
    refine ⟨rfl, ⟨?_, ?_, Nat.le_refl _, by rw [← HQ.out]; exact hcap, hmax⟩, only_setCell (p := ⟨p, 1, none⟩) (only_setCell (p := ⟨p, 2, none⟩) (only_drewN (World.grownBy.refl w _) nq) (.inl rfl) _) (.inl rfl) _⟩
    · have := (((HT.out.blk).drewN nq).set_ 2 (.bool true)).set_ 1 (.int .i64 (q : Int))
      rw [← HQ.out] at this ⊢
      simpa using this
    · refine ((HT.out.byt.drewN nq).keep (w' := (w.drewN nq).setCell ⟨p, 2, none⟩ (.bool true)) (fun a ha => World.cell?_setCell_other _ ⟨p, 2, none⟩ a _ (fun e => by subst e; exact absurd ha (by simp)))).keep (fun a ha => World.cell?_setCell_other _ ⟨p, 1, none⟩ a _ (fun e => by subst e; exact absurd ha (by simp)))
  have KEY := Lib.hid key
  clear key
  have hways : bad = true ∨ (bad = false ∧ n < 0) ∨ (bad = false ∧ 0 ≤ n ∧ (q : Int) - (k : Int) < n) := by
    cases bad
    · rcases Int.lt_or_le n 0 with h0 | h0
      · exact .inr (.inl ⟨rfl, h0⟩)
      · refine .inr (.inr ⟨rfl, h0, ?_⟩)
        rcases hn with h1 | h1 | h1
        · cases h1
        · omega
        · exact h1
    · exact .inl rfl
  clear hn
  rcases hways with rfl | ⟨rfl, hn⟩ | ⟨rfl, hn, hn2⟩
  · go_enter Try.func15, Try.ntmps15
    go_wp2_with fail
    go_quiet (fail)
    go_wp2_with fail
    go_ret
    exact KEY.out _
  · have d2 : decide (n < 0) = true := by simpa using hn
    go_enter Try.func15, Try.ntmps15
    go_wp2_with fail
    go_quiet (fail)
    go_wp2_with fail
    go_ret
    exact KEY.out _
  · have d2 : decide (n < 0) = false := by simp; omega
    go_enter Try.func15, Try.ntmps15
    go_wp2_with fail
    go_quiet (fail)
    go_wp2_with fail
    go_ret
    exact KEY.out _
/-- What Num leaves: the number of the bytes that Take hands out. -/
def Numbered (w : World) (p : Nat) (A : Option Addr) (c : Nat) (l : List UInt8) (k n : Nat) (e : Ending) (w' : World) : Prop :=
  e = .returned (.int .u64 ((num ((l.drop k).take n) : Nat) : Int)) ∧ TapeAt w' p A c l (k + n) false ∧ w.grownBy w' (some p)
set_option maxHeartbeats 1000000 in
theorem num_yes {w : World} {p : Nat} {A : Option Addr} {c : Nat} {l : List UInt8} {k n : Nat} (h : TapeAt w p A c l k false) (hn : k + n ≤ l.length) (hn8 : n ≤ 4) :
    Calls Try.prog 11 #[ptr p, .int .i64 (n : Int)] w (Numbered w p A c l k n) := by
  have C := Lib.hid (take_yes h hn)
  have hlen : ((l.drop k).take n).length = n := by rw [List.length_take, List.length_drop]; omega
  clear h
  obtain ⟨x, hx⟩ : ∃ x, x = (l.drop k).take n := ⟨_, rfl⟩
  have HX := Lib.hid hx
  rw [← hx] at hlen
  have HL := Lib.hid hlen
  clear hx hlen hn
  go_enter Try.func11, Try.ntmps11
  go_wp2_with fail
  refine C.out.mono ?_
  rintro e w1 ⟨A2, c2, rfl, hby, ht, hg⟩
  rw [← HX.out] at hby
  have HB := Lib.hid hby
  have HT := Lib.hid ht
  have HG := Lib.hid hg
  clear hby ht hg
  go_wp2_with fail
  go_loop [5, 12] (fun v i => ∃ m : Nat, m ≤ n ∧ i = .int .i64 (m : Int) ∧ v = .int .u64 ((num (x.take m) : Nat) : Int)) (fun _ i => n - (intOf i).toNat)
  case atStart => exact ⟨0, by omega, rfl, rfl⟩
  case round =>
    obtain ⟨m, hm, rfl, rfl⟩ := hrel
    by_cases hlt : m < n
    · have hm2 : m < x.length := by rw [HL.out]; exact hlt
      obtain ⟨ad, rfl, _, hc⟩ := HB.out.at_byte hm2
      have hs : num (x.take (m + 1)) = 256 * num (x.take m) + (x[m]).toNat := by rw [List.take_succ_eq_append_getElem hm2, num_snoc]
      have hb : num (x.take m) < 256 ^ 4 := Nat.lt_of_lt_of_le (num_lt _) (Nat.pow_le_pow_right (by decide) (by rw [List.length_take]; omega))
      have HS := Lib.hid hs
      clear hs
      obtain ⟨y, hy⟩ : ∃ y, y = num (x.take m) := ⟨_, rfl⟩
      rw [← hy] at hb HS ⊢
      obtain ⟨z, hz⟩ : ∃ z, z = x[m] := ⟨_, rfl⟩
      rw [← hz] at hc HS
      have hzb := u8_bd z
      have hb2 : y < 4294967296 := hb
      clear hy hz hb
      go_wp2_with fail
      go_round
      case rel => exact ⟨m + 1, by omega, by go_num, by rw [HS.out]; go_num⟩
      case measure => simp [intOf]; omega
    · obtain rfl : m = n := by omega
      have HF : Hid (num (x.take m) = num ((l.drop k).take m)) := by rw [← HX.out, List.take_of_length_le (by rw [HL.out]; exact Nat.le_refl _)]; rfl
      go_wp2_with fail
      go_ret
      exact ⟨ret_int (by rw [HF.out]), HT.out, HG.out⟩
theorem num_no {w : World} {p : Nat} {A : Option Addr} {c : Nat} {l : List UInt8} {k : Nat} {bad : Bool} {n : Nat} (h : TapeAt w p A c l k bad) (hn : bad = true ∨ l.length < k + n) (hn8 : n ≤ 4) :
    Calls Try.prog 11 #[ptr p, .int .i64 (n : Int)] w fun e w' => e = .returned (.int .u64 0) ∧ TapeAt w' p A c l l.length true ∧ w.grownBy w' (some p) := by
  have C := Lib.hid (take_no (n := (n : Int)) h (by have := h.le; rcases hn with h1 | h1; exact .inl h1; exact .inr (.inr (by omega))) (by omega))
  clear h hn
  go_enter Try.func11, Try.ntmps11
  go_wp2_with fail
  refine C.out.mono ?_
  rintro e w1 ⟨rfl, ht, hg⟩
  have HT := Lib.hid ht
  have HG := Lib.hid hg
  clear ht hg
  go_wp2_with fail
  refine wp_loop_rounds 1 ?_
  rw [rounds_succ]
  go_wp2_with fail
  go_ret
  exact ⟨rfl, HT.out, HG.out⟩
end Go.Proofs.Ytnnfjndbilapfaa.Oct
