/-
  Contracts of package crc: feed, Sum, fits, sumAround, Clone, Seal, Sealed.
-/
import Derived.Test.YtabkjgklmibagaaWords
import Derived.Test.YtabkjgklmibagaaCrcPlain
set_option linter.unusedVariables false
set_option linter.unusedSimpArgs false
namespace Go.Proofs.Ytabkjgklmibagaa.Crc
open Go.ChangeShapes Go.WideShapes Go.ChangeAt Go.RowKit Go.Proofs.Ytabkjgklmibagaa.Words

theorem xor_u32 (a b : Nat) (ha : a < 4294967296) (hb : b < 4294967296) : bits .xor .u32 (a : Int) (b : Int) = ((a ^^^ b : Nat) : Int) := u32_xor_nat a b ha hb
/-- The walk's spelling of one step. -/
theorem step_u32 (r : Nat) (hr : r < 4294967296) : bits .xor .u32 ((r : Int) / 2) (bits .and .u32 2197175160 ((-(bits .and .u32 (r : Int) 1)) % 4294967296)) = ((T r : Nat) : Int) := by
  have e1 : bits .and .u32 (r : Int) 1 = ((r % 2 : Nat) : Int) := by
    rw [show (1 : Int) = ((1 : Nat) : Int) by rfl, u32_and_nat r 1 hr (by decide), nat_mask1]
  rw [e1, show (r : Int) / 2 = ((r / 2 : Nat) : Int) by omega]
  unfold T
  rcases Nat.mod_two_eq_zero_or_one r with h | h
  · rw [h]
    rw [show (-(((0 : Nat) : Int))) % 4294967296 = ((0 : Nat) : Int) by omega, show (2197175160 : Int) = ((2197175160 : Nat) : Int) by rfl, u32_and_nat _ _ (by decide) (by decide), u32_xor_nat _ _ (by omega) (by decide)]
    rfl
  · rw [h]
    rw [show (-(((1 : Nat) : Int))) % 4294967296 = ((4294967295 : Nat) : Int) by omega, show (2197175160 : Int) = ((2197175160 : Nat) : Int) by rfl, u32_and_nat _ _ (by decide) (by decide), u32_xor_nat _ _ (by omega) (by decide)]
    rfl

theorem not_u32 (a : Nat) (ha : a < 4294967296) : bits .xor .u32 IntKind.u32.max (a : Int) = ((4294967295 - a : Nat) : Int) := by
  have e : (4294967295 : Nat) ^^^ a = 4294967295 - a := by
    have := compl_xor (a := 0) (b := 4294967295 - a) (by decide) (by omega)
    rw [show 4294967295 - 0 = 4294967295 by rfl, show 4294967295 - (4294967295 - a) = a by omega, Nat.zero_xor] at this
    exact this
  rw [show IntKind.u32.max = ((4294967295 : Nat) : Int) by rfl, u32_xor_nat _ _ (by decide) ha, e]

set_option maxHeartbeats 1000000 in
theorem feed_any (r : Nat) (hr : r < 4294967296) (A : Option Addr) (l : List UInt8) (c : Nat) (B : Nat) (w : World) (hc : l.length ≤ 9223372036854775807) (h : Byt w B A l) :
    Calls Try.prog 50 #[.int .u32 (r : Int), .slice A l.length c] w fun e w' => e = .returned (.int .u32 ((feedL r l : Nat) : Int)) ∧ w = w' := by
  obtain ⟨n, hn⟩ : ∃ n, n = l.length := ⟨_, rfl⟩
  have HB := Lib.hid h
  rw [← hn] at hc ⊢
  have HN := Lib.hid hn
  clear h hn
  go_enter Try.func50, Try.ntmps50
  go_wp2
  go_loop [0, 9] (fun s i => ∃ k : Nat, k ≤ n ∧ i = .int .i64 k ∧ s = .int .u32 ((feedL r (l.take k) : Nat) : Int)) (fun _ i => n - (intOf i).toNat)
  case atStart => exact ⟨0, Nat.zero_le _, rfl, rfl⟩
  case round =>
    obtain ⟨k, hk, rfl, rfl⟩ := hrel
    have hlt32 := feedL_lt hr (l.take k)
    by_cases hlt : k < n
    · have hk2 : k < l.length := by rw [← HN.out]; exact hlt
      obtain ⟨ad, rfl, _, hcell⟩ := HB.out.at_byte hk2
      obtain ⟨x, hx⟩ : ∃ x, x = l[k] := ⟨_, rfl⟩
      rw [← hx] at hcell
      have hxb := u8_bd x
      have HS : Hid (feedL r (l.take (k + 1)) = Tn 8 (feedL r (l.take k) ^^^ x.toNat)) := by
        rw [List.take_succ_eq_append_getElem hk2, feedL_snoc, ← hx]; rfl
      obtain ⟨y, hy⟩ : ∃ y, y = feedL r (l.take k) := ⟨_, rfl⟩
      rw [← hy] at hlt32 ⊢
      have HY := Lib.hid hy
      rw [← hy] at HS
      clear hx hy
      have hxu := xor_u32 y x.toNat hlt32 (by omega)
      have hw0 : IntKind.u32.wrap (x.toNat : Int) = (x.toNat : Int) := by rw [IntKind.wrap_u32]; omega
      have hz : y ^^^ x.toNat < 4294967296 := Nat.xor_lt_two_pow (n := 32) hlt32 (by omega)
      go_wp2
      clear hxu hw0 hcell
      obtain ⟨z, hz2⟩ : ∃ z, z = y ^^^ x.toNat := ⟨_, rfl⟩
      rw [← hz2] at hz HS ⊢
      clear hz2
      go_loop [0, 17] (fun s j => ∃ m : Nat, m ≤ 8 ∧ j = .int .i64 m ∧ s = .int .u32 ((Tn m z : Nat) : Int)) (fun _ j => 8 - (intOf j).toNat)
      case atStart => exact ⟨0, Nat.zero_le _, rfl, rfl⟩
      case round =>
        obtain ⟨m, hm, rfl, rfl⟩ := hrel
        have hml := Tn_lt m hz
        by_cases h8 : m < 8
        · obtain ⟨v, hv⟩ : ∃ v, v = Tn m z := ⟨_, rfl⟩
          rw [← hv] at hml ⊢
          have HV : Hid (Tn (m + 1) z = T v) := by rw [hv]; rfl
          clear hv
          have hst := step_u32 v hml
          go_wp2
          go_round
          case rel => exact ⟨m + 1, by omega, by go_num, by rw [HV.out, ← hst]⟩
          case measure => simp [intOf]; omega
        · obtain rfl : m = 8 := by omega
          go_wp2
          go_round
          case rel => exact ⟨k + 1, by omega, by go_num, by rw [HS.out]⟩
          case measure => simp [intOf]; omega
    · obtain rfl : k = n := by omega
      have HT : Hid (feedL r (l.take k) = feedL r l) := by rw [HN.out, List.take_length]; rfl
      go_wp2
      go_ret
      exact ⟨ret_int (by rw [HT.out]), rfl⟩

/-- A slice of slices of bytes. -/
def Parts (w : World) (B : Nat) (A : Option Addr) (n : Nat) (ls : List (List UInt8)) : Prop :=
  ls.length = n ∧ ∀ j l, ls[j]? = some l → ∃ ad a c, A = some ad ∧ w.cell? (ad.add j) = some (.slice a l.length c) ∧ l.length ≤ 9223372036854775807 ∧ Byt w B a l
theorem Parts.nil (w : World) (B : Nat) : Parts w B none 0 [] := ⟨rfl, fun j l h => by simp at h⟩
theorem parts1 {w : World} {B g : Nat} {t : TypeId} {a1 : Option Addr} {n1 c1 : Nat} {l1 : List UInt8} (hb : Blk w g t #[.slice a1 n1 c1]) (e1 : n1 = l1.length) (m1 : n1 ≤ 9223372036854775807) (h1 : Byt w B a1 l1) :
    Parts w B (some ⟨g, 0, none⟩) 1 [l1] := by
  subst e1
  refine ⟨rfl, fun j l h => ⟨⟨g, 0, none⟩, ?_⟩⟩
  have hc := fun i => hb.cellAdd i
  match j, h with
  | 0, h => simp only [List.getElem?_cons_zero, Option.some.injEq] at h; subst h; exact ⟨a1, c1, rfl, by rw [hc]; rfl, m1, h1⟩
theorem parts2 {w : World} {B g : Nat} {t : TypeId} {a1 a2 : Option Addr} {n1 c1 n2 c2 : Nat} {l1 l2 : List UInt8} (hb : Blk w g t #[.slice a1 n1 c1, .slice a2 n2 c2]) (e1 : n1 = l1.length) (e2 : n2 = l2.length)
    (m1 : n1 ≤ 9223372036854775807) (m2 : n2 ≤ 9223372036854775807) (h1 : Byt w B a1 l1) (h2 : Byt w B a2 l2) :
    Parts w B (some ⟨g, 0, none⟩) 2 [l1, l2] := by
  subst e1 e2
  refine ⟨rfl, fun j l h => ⟨⟨g, 0, none⟩, ?_⟩⟩
  have hc := fun i => hb.cellAdd i
  match j, h with
  | 0, h => simp only [List.getElem?_cons_zero, Option.some.injEq] at h; subst h; exact ⟨a1, c1, rfl, by rw [hc]; rfl, m1, h1⟩
  | 1, h => simp only [List.getElem?_cons_zero, List.getElem?_cons_succ, Option.some.injEq] at h; subst h; exact ⟨a2, c2, rfl, by rw [hc]; rfl, m2, h2⟩
theorem parts3 {w : World} {B g : Nat} {t : TypeId} {a1 a2 a3 : Option Addr} {n1 c1 n2 c2 n3 c3 : Nat} {l1 l2 l3 : List UInt8} (hb : Blk w g t #[.slice a1 n1 c1, .slice a2 n2 c2, .slice a3 n3 c3]) (e1 : n1 = l1.length) (e2 : n2 = l2.length) (e3 : n3 = l3.length)
    (m1 : n1 ≤ 9223372036854775807) (m2 : n2 ≤ 9223372036854775807) (m3 : n3 ≤ 9223372036854775807) (h1 : Byt w B a1 l1) (h2 : Byt w B a2 l2) (h3 : Byt w B a3 l3) :
    Parts w B (some ⟨g, 0, none⟩) 3 [l1, l2, l3] := by
  subst e1 e2 e3
  refine ⟨rfl, fun j l h => ⟨⟨g, 0, none⟩, ?_⟩⟩
  have hc := fun i => hb.cellAdd i
  match j, h with
  | 0, h => simp only [List.getElem?_cons_zero, Option.some.injEq] at h; subst h; exact ⟨a1, c1, rfl, by rw [hc]; rfl, m1, h1⟩
  | 1, h => simp only [List.getElem?_cons_zero, List.getElem?_cons_succ, Option.some.injEq] at h; subst h; exact ⟨a2, c2, rfl, by rw [hc]; rfl, m2, h2⟩
  | 2, h => simp only [List.getElem?_cons_zero, List.getElem?_cons_succ, Option.some.injEq] at h; subst h; exact ⟨a3, c3, rfl, by rw [hc]; rfl, m3, h3⟩
theorem flat_take (ls : List (List UInt8)) (k : Nat) (l : List UInt8) (h : ls[k]? = some l) : (ls.take (k + 1)).flatten = (ls.take k).flatten ++ l := by
  obtain ⟨hk, rfl⟩ := List.getElem?_eq_some_iff.1 h
  rw [List.take_succ_eq_append_getElem hk, List.flatten_append]
  simp only [List.flatten_cons, List.flatten_nil, List.append_nil]
set_option maxHeartbeats 1000000 in
theorem sum_any (A : Option Addr) (ls : List (List UInt8)) (n c : Nat) (B : Nat) (w : World) (hc : n ≤ 9223372036854775807) (h : Parts w B A n ls) :
    Calls Try.prog 48 #[.slice A n c] w fun e w' => e = .returned (.int .u32 ((sumL ls.flatten : Nat) : Int)) ∧ w = w' := by
  have HP := Lib.hid h
  have HF := feedL_lt (show (4294967295 : Nat) < 4294967296 by decide) ls.flatten
  clear h
  go_enter Try.func48, Try.ntmps48
  go_wp2
  go_loop [3, 8] (fun s i => ∃ k : Nat, k ≤ n ∧ i = .int .i64 k ∧ s = .int .u32 ((feedL 4294967295 (ls.take k).flatten : Nat) : Int)) (fun _ i => n - (intOf i).toNat)
  case atStart => exact ⟨0, Nat.zero_le _, rfl, rfl⟩
  case round =>
    obtain ⟨k, hk, rfl, rfl⟩ := hrel
    have hlt32 := feedL_lt (show (4294967295 : Nat) < 4294967296 by decide) (ls.take k).flatten
    by_cases hlt : k < n
    · have hk2 : k < ls.length := by rw [HP.out.1]; exact hlt
      obtain ⟨ad, a, cc, rfl, hcell, hl63, hby⟩ := HP.out.2 k _ (List.getElem?_eq_getElem hk2)
      have HS : Hid (feedL 4294967295 (ls.take (k + 1)).flatten = feedL (feedL 4294967295 (ls.take k).flatten) ls[k]) := by
        rw [flat_take _ _ _ (List.getElem?_eq_getElem hk2), feedL_append]; rfl
      obtain ⟨l, hl⟩ : ∃ l, l = ls[k] := ⟨_, rfl⟩
      rw [← hl] at hcell hl63 hby HS
      obtain ⟨y, hy⟩ : ∃ y, y = feedL 4294967295 (ls.take k).flatten := ⟨_, rfl⟩
      rw [← hy] at hlt32 HS ⊢
      have HBy := Lib.hid hby
      clear hl hy hby
      go_wp2_with (go_at_call 50; (with_reducible refine (feed_any y hlt32 a l cc B w hl63 HBy.out).mono ?_); rintro e w' ⟨rfl, rfl⟩)
      go_round
      case rel => exact ⟨k + 1, by omega, by go_num, by rw [HS.out]⟩
      case measure => simp [intOf]; omega
    · obtain rfl : k = n := by omega
      have HT : Hid (feedL 4294967295 (ls.take k).flatten = feedL 4294967295 ls.flatten) := by rw [← HP.out.1, List.take_length]; rfl
      go_wp2
      go_ret
      refine ⟨ret_int ?_, rfl⟩
      rw [HT.out, not_u32 _ HF]
      rfl

theorem fits_any (A : Option Addr) (n c : Nat) (at_ : Int) (w : World) (hn : n ≤ 9223372036854775807) (h : 0 ≤ at_ ∧ at_ + 4 ≤ (n : Int)) :
    Calls Try.prog 37 #[.slice A n c, .int .i64 at_] w fun e w' => e = .returned (.bool true) ∧ w = w' := by
  have h0 := h.1
  have h4 : at_ ≤ (n : Int) - 4 := by omega
  go_enter Try.func37, Try.ntmps37
  go_wp2
  go_ret
  exact ⟨rfl, rfl⟩
theorem fits_not (A : Option Addr) (n c : Nat) (at_ : Int) (w : World) (hn : n ≤ 9223372036854775807) (h : at_ < 0 ∨ (n : Int) < at_ + 4) (ha : at_ ≤ 9223372036854775807) :
    Calls Try.prog 37 #[.slice A n c, .int .i64 at_] w fun e w' => e = .returned (.bool false) ∧ w = w' := by
  by_cases h0 : at_ < 0
  · go_enter Try.func37, Try.ntmps37
    go_wp2
    go_ret
    exact ⟨rfl, rfl⟩
  · have h4 : ¬ at_ ≤ (n : Int) - 4 := by omega
    have h0' : 0 ≤ at_ := by omega
    go_enter Try.func37, Try.ntmps37
    go_wp2
    go_ret
    exact ⟨rfl, rfl⟩

set_option maxHeartbeats 1000000 in
set_option maxRecDepth 100000 in
theorem around_any (A : Option Addr) (l : List UInt8) (c k : Nat) (w : World) (hc : l.length ≤ c) (hc2 : c ≤ 9223372036854775807) (h : Byt w w.heap.size A l) (hk : k + 4 ≤ l.length) :
    Calls Try.prog 38 #[.slice A l.length c, .int .i64 (k : Int)] w fun e w' => e = .returned (.int .u32 ((sumL (zeroed l k) : Nat) : Int)) ∧ Below w.heap.size w w' := by
  obtain ⟨n, hn⟩ : ∃ n, n = l.length := ⟨_, rfl⟩
  have HB := Lib.hid h
  rw [← hn] at hc hk ⊢
  have HN := Lib.hid hn
  clear h hn
  go_enter Try.func38, Try.ntmps38
  go_wp2
  obtain ⟨w1, hw1⟩ : ∃ w1, w1 = w.alloc (.cells #[.int .u8 0, .int .u8 0, .int .u8 0, .int .u8 0] 90) := ⟨_, rfl⟩
  have HB1 : Hid (Below w.heap.size w w1) := by rw [hw1]; exact (Below.refl _ _).alloc (Nat.le_refl _) _
  have HZ : Hid (Blk w1 w.heap.size 90 #[.int .u8 0, .int .u8 0, .int .u8 0, .int .u8 0]) := by rw [hw1]; exact Blk.new _ _ _
  rw [← hw1]
  clear hw1
  have a1 : IntKind.i64.wrap ((k : Int) + 4) = (k : Int) + 4 := IntWalk.i64_in _ (by omega)
  have a2 : 0 ≤ (k : Int) + 4 := by omega
  have a3 : ((k : Int) + 4).toNat = k + 4 := by omega
  have a4 : (k : Int) + 4 ≤ (n : Int) := by omega
  have a5 : k ≤ c := by omega
  go_still_tail 8, (by kernel_rfl)
  change wpList _ _ _ _ _ w1.drew
  have HB2 : Hid (Below w.heap.size w w1.drew) := HB1.out.drew
  have HZ2 : Hid (Blk w1.drew w.heap.size 90 #[.int .u8 0, .int .u8 0, .int .u8 0, .int .u8 0]) := HZ.out
  clear a1 a2 a3 a4 a5 HB1 HZ
  generalize w1.drew = w2 at HB2 HZ2 ⊢
  have BT : ∀ k, Byt w2 (w.heap.size + 1) A (l.take k) := fun k => ((HB.out.below HB2.out).more (by omega)).take_ k
  have BD : ∀ k, 0 < k → k ≤ l.length → Byt w2 (w.heap.size + 1) (A.map fun x => (⟨x.block, x.off + k, none⟩ : Addr)) (l.drop k) := fun k h0 hk => ((HB.out.below HB2.out).more (by omega)).cut_lit hk h0
  have BE : ∀ k, l.length ≤ k → Byt w2 (w.heap.size + 1) A (l.drop k) := fun k hk => ((HB.out.below HB2.out).more (by omega)).cut_end hk
  have hs2 : w.heap.size + 1 ≤ w2.heap.size := HZ2.out.lt
  have BZ : Byt w2 (w.heap.size + 1) (some ⟨w.heap.size, 0, none⟩) [0, 0, 0, 0] := HZ2.out.byt (by omega) rfl
  have n4 : ([0, 0, 0, 0] : List UInt8).length = 4 := rfl
  have HT := Lib.hid BT
  have HD := Lib.hid BD
  have HE := Lib.hid BE
  have HZ3 := Lib.hid BZ
  clear BT BD BE BZ
  go_wp2_with fail
  case inl =>
    rename_i hcap
    refine (sum_any (some ⟨w2.heap.size, 0, none⟩) [l.take k, [0, 0, 0, 0], l.drop (k + 4)] 3 3 (w.heap.size + 1) _ (by omega)
      (parts3 (Blk.new _ _ _) (by simp; rw [← HN.out]; omega) rfl (by simp; rw [← HN.out]) (by omega) (by omega) (by omega) ((HT.out k).alloc hs2 _) (HZ3.out.alloc hs2 _) ((HE.out (k + 4) (by rw [← HN.out]; omega)).alloc hs2 _))).mono ?_
    rintro e w' ⟨rfl, rfl⟩
    go_wp2
    go_ret
    exact ⟨ret_int (by simp [zeroed]), HB2.out.alloc (by omega) _⟩
  case inr =>
    rename_i hcap
    refine (sum_any (some ⟨w2.heap.size, 0, none⟩) [l.take k, [0, 0, 0, 0], l.drop (k + 4)] 3 3 (w.heap.size + 1) _ (by omega)
      (parts3 (Blk.new _ _ _) (by simp; rw [← HN.out]; omega) rfl (by simp; rw [← HN.out]) (by omega) (by omega) (by omega) ((HT.out k).alloc hs2 _) (HZ3.out.alloc hs2 _) ((HD.out (k + 4) (by omega) (by rw [← HN.out]; omega)).alloc hs2 _))).mono ?_
    rintro e w' ⟨rfl, rfl⟩
    go_wp2
    go_ret
    exact ⟨ret_int (by simp [zeroed]), HB2.out.alloc (by omega) _⟩

theorem u8_info : (Try.prog.info? 5).map (fun i => (i.zero, i.size, i.bytes)) = some (some (.int .u8 0), 1, 1) := by kernel_rfl
/-- A row of bytes of the call's own. -/
abbrev Own (w : World) (B : Nat) (v : Value) (l : List UInt8) : Prop := w.ownsRow B 5 1 v l.length (u8s l)
set_option maxHeartbeats 1000000 in
theorem clone_any (A : Option Addr) (l : List UInt8) (c : Nat) (w : World) (hl : l.length ≤ 1000000) (h : Byt w w.heap.size A l) :
    Calls Try.prog 39 #[.slice A l.length c] w fun e w' => (∃ v, e = .returned v ∧ Own w' w.heap.size v l) ∧ Below w.heap.size w w' := by
  obtain ⟨i0, hi0, hz0, hz1, hz2⟩ := info_parts3 u8_info
  have hnil := fun (W : World) (a : Option Addr) (n c : Nat) => Lib.run_eql_slice_nil (P := Try.prog) W 24 5 a n c 0 0 Try.underlying24
  rcases A with _ | ad
  · have h0 : l = [] := by
      rcases Nat.eq_zero_or_pos l.length with h0 | h0
      · exact List.eq_nil_of_length_eq_zero h0
      · obtain ⟨ad, e, _⟩ := h.2 h0; cases e
    subst h0
    go_enter Try.func39, Try.ntmps39
    go_wp2
    go_ret
    exact ⟨⟨_, rfl, World.ownsRow_nil _ _ _ _⟩, Below.refl _ _⟩
  · have HB := Lib.hid h
    obtain ⟨n, hn⟩ : ∃ n, n = l.length := ⟨_, rfl⟩
    rw [← hn] at hl ⊢
    have HN := Lib.hid hn
    clear h hn
    go_enter Try.func39, Try.ntmps39
    go_wp2_with (at_builtin; refine wpList_append_any _ rfl (.tmp 5) (.tmp 6) _ rfl w.heap.size 5 i0 _ 1 1 Try.underlying24 hi0 hz0 hz1 hz2 rfl (by omega) (.slice (some ⟨w.heap.size, 0, none⟩) 0 0) 0 [] rfl (own_empty w _) w.heap.size (some ad) n c (u8s l) rfl (by have := HB.out; unfold Byt at this; rw [← HN.out] at this; exact this.alloc (Nat.le_refl _) _) (u8s_one l) (by simp only [maxLen]; omega) (by omega) (by simp) ?_; intro v1 w1 hown1 hg1 hat1)
    go_ret
    refine ⟨⟨v1, rfl, ?_⟩, ?_⟩
    · simp only [Nat.zero_add, List.nil_append] at hown1
      unfold Own
      rw [← HN.out]
      exact hown1
    · exact ((Below.refl _ _).alloc (Nat.le_refl _) _).grown hg1 (by simp) (fun b e => by simp [Value.ownBlock] at e; omega)
end Go.Proofs.Ytabkjgklmibagaa.Crc
