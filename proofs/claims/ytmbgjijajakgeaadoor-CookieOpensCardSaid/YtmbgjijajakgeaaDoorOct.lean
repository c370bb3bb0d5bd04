/-
  Contracts of package octet: readers and writers.
-/
import Derived.Test.YtmbgjijajakgeaaDoorOctPlain
import Derived.Test.YtmbgjijajakgeaaDoorBytes
set_option linter.unusedVariables false
set_option linter.unusedSimpArgs false
namespace Go.Proofs.YtmbgjijajakgeaaDoor.Oct
open Go.ChangeShapes Go.WideShapes Go.ChangeAt Go.RowKit Go.Proofs.YtmbgjijajakgeaaDoor.Words

abbrev rptr (p : Nat) : Value := .pointer (some ⟨p, 0, none⟩)
/-! ### readers -/
/-- The reader behind the pointer to block p has the bytes l left, in block G (or in none). -/
structure Rd (w : World) (p G : Nat) (l : List UInt8) (bad : Bool) : Prop where
  ex : ∃ A c, Blk w p 89 #[.slice A l.length c, .bool bad] ∧ Byt w (G + 1) A l ∧ (∀ a, A = some a → a.block = G ∧ G < p) ∧ l.length ≤ c ∧ c ≤ 9223372036854775807
  le : G ≤ p

section
variable {w w' : World} {p G : Nat} {l : List UInt8} {bad : Bool}
theorem Rd.lt (h : Rd w p G l bad) : p < w.heap.size := by obtain ⟨A, c, hb, _⟩ := h.ex; exact hb.lt
theorem Rd.fr {S : Nat → Prop} (h : Rd w p G l bad) (k : Fr S w w') (hp : ¬ S p) (hG : ¬ S G) : Rd w' p G l bad := by
  obtain ⟨A, c, hb, hby, hA, hc, hm⟩ := h.ex
  exact ⟨⟨A, c, k.blk hb hp, k.byt hby (by have := h.le; have := h.lt; omega) (fun x hx => by rw [(hA x hx).1]; exact hG), hA, hc, hm⟩, h.le⟩

theorem Rd.below {B : Nat} (h : Rd w p G l bad) (k : Below B w w') (hp : p < B) : Rd w' p G l bad :=
  h.fr (Fr.of_below k) (by omega) (by have := h.le; omega)

theorem Rd.grows (h : Rd w p G l bad) (k : Below w.heap.size w w') : Rd w' p G l bad := h.below k h.lt
theorem Rd.drewN (h : Rd w p G l bad) (n : Nat) : Rd (w.drewN n) p G l bad := h.fr ((Fr.refl (fun _ => False) w).drewN n) id id
end
/-- The frame of a reader's step. -/
abbrev At (p : Nat) : Nat → Prop := fun k => k = p

set_option maxHeartbeats 1000000 in
theorem newReader_any (A : Option Addr) (l : List UInt8) (n c : Nat) (w : World) (hn : n = l.length) (hl : l.length ≤ 1000000) (h : Byt w w.heap.size A l) :
    Calls Tryd.prog 31 #[.slice A n c] w fun e w' => ∃ p G, e = .returned (rptr p) ∧ Rd w' p G l false ∧ w.heap.size ≤ G ∧ Below w.heap.size w w' := by
  have C := Lib.hid (clone_as A l n c w hn hl h)
  have HN := Lib.hid hn
  clear hn h
  go_enter Tryd.func31, Tryd.ntmps31
  go_wp2_with fail
  refine C.out.mono ?_
  rintro e w1 ⟨⟨v, rfl, ho⟩, hb⟩
  have HO := Lib.hid ho
  obtain ⟨A2, c2, rfl, h1, h2⟩ := own_slice ho
  have hB := Lib.hid hb
  clear ho hb
  go_wp2_with fail
  go_ret
  have hs := hB.out.size
  rcases hA : A2 with _ | ad
  · refine ⟨w1.heap.size, w1.heap.size, rfl, ⟨⟨none, c2, by rw [← hA]; exact Blk.new _ _ _, ?_, (fun a h => nomatch h), h1, h2⟩, Nat.le_refl _⟩, hs, hB.out.alloc hs _⟩
    have hb := Own.byt HO.out
    rw [hA] at hb
    exact (hb.alloc (Nat.le_refl _) _).more (by omega)
  · subst hA
    have hform : ∃ g, ad = ⟨g, 0, none⟩ ∧ w.heap.size ≤ g ∧ g < w1.heap.size := by
      rcases HO.out.2 with ⟨h, _⟩ | ⟨g, cap, cur, h, h3, h4, _⟩
      · cases h
      · injection h with h _ _
        injection h with h
        exact ⟨g, h, h3, Blk.lt (t := 5) h4⟩
    obtain ⟨g, rfl, hg1, hg2⟩ := hform
    refine ⟨w1.heap.size, g, rfl, ⟨⟨_, c2, Blk.new _ _ _, ?_, fun a (h : some _ = some a) => by injection h with h; subst h; exact ⟨rfl, hg2⟩, h1, h2⟩, by omega⟩, hg1, hB.out.alloc hs _⟩
    have hb := Own.byt HO.out
    have hb2 : Byt w1 (g + 1) (some ⟨g, 0, none⟩) l := ⟨hb.1, fun hn => by obtain ⟨a, e, _, hc⟩ := hb.2 hn; exact ⟨a, e, by injection e with e; subst e; simp, hc⟩⟩
    exact hb2.alloc (by omega) _

/-- What next leaves where there are so many bytes. -/
def Nexted (w : World) (p G : Nat) (l : List UInt8) (bad : Bool) (n : Nat) (e : Ending) (w' : World) : Prop :=
  ∃ A c, e = .returned (.slice A n c) ∧ Byt w' (G + 1) A (l.take n) ∧ Rd w' p G (l.drop n) bad ∧ Fr (At p) w w'

set_option maxHeartbeats 1000000 in
theorem next_yes {w : World} {p G : Nat} {l : List UInt8} {bad : Bool} {n : Nat} (h : Rd w p G l bad) (hn : n ≤ l.length) :
    Calls Tryd.prog 44 #[rptr p, .int .i64 (n : Int)] w (Nexted w p G l bad n) := by
  obtain ⟨A, c, hb, hby, hA, hc, hm⟩ := h.ex
  have c0 : w.cell? ⟨p, 0, none⟩ = some (.slice A l.length c) := hb.cell 0
  have c1 : w.cell? ⟨p, 1, none⟩ = some (.bool bad) := hb.cell 1
  have f0 := hb.frozen 0
  have HB := Lib.hid hb
  have HY := Lib.hid hby
  have HA := Lib.hid hA
  have HL := Lib.hid h.le
  obtain ⟨q, hq⟩ : ∃ q, q = l.length := ⟨_, rfl⟩
  rw [← hq] at c0 hn hc
  have HQ := Lib.hid hq
  clear h hq hb hby hA
  have d2 : decide ((n : Int) < 0) = false := by simp
  have d3 : ¬ ((q : Int) < (n : Int)) := by omega
  have d4 : (0 : Int) ≤ (n : Int) := by omega
  have d5 : (n : Int) ≤ (c : Int) := by omega
  have key : ∀ A2, (if c = n then A2 = A else A2 = A.map (·.add n)) → Nexted w p G l bad n (.returned (.slice A n c)) (w.setCell ⟨p, 0, none⟩ (.slice A2 (q - n) (c - n))) := by
    intro A2 h2
    have F : Fr (At p) w (w.setCell ⟨p, 0, none⟩ (.slice A2 (q - n) (c - n))) := (Fr.refl (At p) w).setCell (p := ⟨p, 0, none⟩) (.inl rfl) _
    have hGp : ∀ x, A = some x → ¬ At p x.block := fun x hx hp => by have := HA.out x hx; have : x.block = p := hp; omega
    have hs := HB.out.lt
    have hby : Byt (w.setCell ⟨p, 0, none⟩ (.slice A2 (q - n) (c - n))) (G + 1) A l := F.byt HY.out (by have := HL.out; omega) hGp
    refine ⟨A, c, rfl, hby.take_ n, ⟨⟨A2, c - n, ?_, ?_, ?_, ?_, by omega⟩, HL.out⟩, F⟩
    · have := HB.out.set_ 0 (.slice A2 (q - n) (c - n))
      rw [List.length_drop, ← HQ.out]
      simpa using this
    · split at h2
      · subst h2
        exact hby.cut_end (by rw [← HQ.out]; omega)
      · subst h2
        exact hby.cut_map (by rw [← HQ.out]; exact hn)
    · intro a ha
      split at h2
      · subst h2; exact HA.out a ha
      · subst h2
        rcases hA : A with _ | x
        · rw [hA] at ha; cases ha
        · rw [hA] at ha
          simp only [Option.map_some, Option.some.injEq] at ha
          subst ha
          rw [block_of_add]
          exact HA.out x hA
    · rw [List.length_drop, ← HQ.out]; omega
  have KEY := Lib.hid key
  clear key
  go_enter Tryd.func44, Tryd.ntmps44
  by_cases hcn : c = n
  · subst hcn
    go_wp2_with fail
    go_ret
    have := KEY.out A (by rw [if_pos trivial])
    obtain rfl : q = c := by omega
    rw [Nat.sub_self] at this
    exact this
  · go_wp2_with fail
    go_ret
    exact KEY.out _ (by rw [if_neg hcn])

/-- What next leaves where there are fewer. -/
def Stopped (w : World) (p G : Nat) (e : Ending) (w' : World) : Prop :=
  e = .returned (.slice none 0 0) ∧ Rd w' p G [] true ∧ Fr (At p) w w'

set_option maxHeartbeats 1000000 in
theorem next_no {w : World} {p G : Nat} {l : List UInt8} {bad : Bool} {n : Int} (h : Rd w p G l bad) (hn : n < 0 ∨ (l.length : Int) < n) :
    Calls Tryd.prog 44 #[rptr p, .int .i64 n] w (Stopped w p G) := by
  obtain ⟨A, c, hb, hby, hA, hc, hm⟩ := h.ex
  have c0 : w.cell? ⟨p, 0, none⟩ = some (.slice A l.length c) := hb.cell 0
  have c1 : w.cell? ⟨p, 1, none⟩ = some (.bool bad) := hb.cell 1
  have f0 := hb.frozen 0
  have f1 := hb.frozen 1
  have HB := Lib.hid hb
  have HL := Lib.hid h.le
  obtain ⟨q, hq⟩ : ∃ q, q = l.length := ⟨_, rfl⟩
  rw [← hq] at c0 hn
  clear h hby hA hc hq
  have key : Stopped w p G (.returned (.slice none 0 0)) ((w.setCell ⟨p, 0, none⟩ (.slice none 0 0)).setCell ⟨p, 1, none⟩ (.bool true)) := by
    refine ⟨rfl, ⟨⟨none, 0, ?_, ⟨by simp [u8s], fun hn => absurd hn (by simp)⟩, (fun a h => nomatch h), by simp, by omega⟩, HL.out⟩, ((Fr.refl (At p) w).setCell (p := ⟨p, 0, none⟩) (.inl rfl) _).setCell (p := ⟨p, 1, none⟩) (.inl rfl) _⟩
    have := (HB.out.set_ 0 (.slice none 0 0)).set_ 1 (.bool true)
    simpa using this
  have KEY := Lib.hid key
  clear key
  by_cases h0 : n < 0
  · have d2 : decide (n < 0) = true := by simpa using h0
    go_enter Tryd.func44, Tryd.ntmps44
    go_wp2_with fail
    go_ret
    exact KEY.out
  · have d2 : decide (n < 0) = false := by simpa using h0
    have d3 : (q : Int) < n := by omega
    go_enter Tryd.func44, Tryd.ntmps44
    go_wp2_with fail
    go_ret
    exact KEY.out

/-- One byte more of a number. -/
theorem or_byte (a : Nat) (x : Int) (b : UInt8) (hx : x = ((a * 256 : Nat) : Int)) (ha : a < 16777216) : bits .or .u32 x (b.toNat : Int) = ((256 * a + b.toNat : Nat) : Int) := by
  subst hx
  have := u8_bd b
  rw [u32_or_nat _ _ (by omega) (by omega), nat_join 8 _ _ (Nat.mul_mod_left _ _) (by omega), Nat.mul_comm]

/-- What number leaves where there are so many bytes. -/
def RTold (w : World) (p G : Nat) (l : List UInt8) (bad : Bool) (k : IntKind) (n : Nat) (e : Ending) (w' : World) : Prop :=
  e = .returned (.int k ((num (l.take n) : Nat) : Int)) ∧ Rd w' p G (l.drop n) bad ∧ Fr (At p) w w'

/-- What it leaves where there are fewer. -/
def Nought (w : World) (p G : Nat) (k : IntKind) (e : Ending) (w' : World) : Prop :=
  e = .returned (.int k 0) ∧ Rd w' p G [] true ∧ Fr (At p) w w'

set_option maxHeartbeats 1000000 in
theorem number_yes {w : World} {p G : Nat} {l : List UInt8} {bad : Bool} {n : Nat} (h : Rd w p G l bad) (hn : n ≤ l.length) (hn4 : n ≤ 4) :
    Calls Tryd.prog 45 #[rptr p, .int .i64 (n : Int)] w (RTold w p G l bad .u32 n) := by
  have C := Lib.hid (next_yes h hn)
  have hlen : (l.take n).length = n := by rw [List.length_take]; omega
  obtain ⟨x, hx⟩ : ∃ x, x = l.take n := ⟨_, rfl⟩
  have HX := Lib.hid hx
  rw [← hx] at hlen
  have HL := Lib.hid hlen
  clear hx hlen hn h
  go_enter Tryd.func45, Tryd.ntmps45
  go_wp2_with fail
  refine C.out.mono ?_
  rintro e w1 ⟨A2, c2, rfl, hby, ht, hg⟩
  rw [← HX.out] at hby
  have HB := Lib.hid hby
  have HT := Lib.hid ht
  have HG := Lib.hid hg
  clear hby ht hg
  go_wp2_with fail
  go_loop [5, 12] (fun v i => ∃ m : Nat, m ≤ n ∧ i = .int .i64 (m : Int) ∧ v = .int .u32 ((num (x.take m) : Nat) : Int)) (fun _ i => n - (intOf i).toNat)
  case atStart => exact ⟨0, by omega, rfl, rfl⟩
  case round =>
    obtain ⟨m, hm, rfl, rfl⟩ := hrel
    by_cases hlt : m < n
    · have hm2 : m < x.length := by rw [HL.out]; exact hlt
      obtain ⟨ad, rfl, _, hc⟩ := HB.out.at_byte hm2
      have hs : num (x.take (m + 1)) = 256 * num (x.take m) + (x[m]).toNat := by rw [List.take_succ_eq_append_getElem hm2, num_snoc]
      have hb : num (x.take m) < 256 ^ 3 := Nat.lt_of_lt_of_le (num_lt _) (Nat.pow_le_pow_right (by decide) (by rw [List.length_take]; omega))
      have HS := Lib.hid hs
      clear hs
      obtain ⟨y, hy⟩ : ∃ y, y = num (x.take m) := ⟨_, rfl⟩
      rw [← hy] at hb HS ⊢
      obtain ⟨z, hz⟩ : ∃ z, z = x[m] := ⟨_, rfl⟩
      rw [← hz] at hc HS
      have hzb := u8_bd z
      have hb2 : y < 16777216 := hb
      clear hy hz hb
      go_wp2_with fail
      go_round
      case rel => exact ⟨m + 1, by omega, by go_num, by rw [HS.out, or_byte y _ z (by omega) hb2]⟩
      case measure => simp [intOf]; omega
    · obtain rfl : m = n := by omega
      have HF : Hid (num (x.take m) = num (l.take m)) := by rw [← HX.out, List.take_of_length_le (by rw [HL.out]; exact Nat.le_refl _)]; rfl
      go_wp2_with fail
      go_ret
      exact ⟨ret_int (by rw [HF.out]), HT.out, HG.out⟩

theorem number_no {w : World} {p G : Nat} {l : List UInt8} {bad : Bool} {n : Int} (h : Rd w p G l bad) (hn : (l.length : Int) < n) :
    Calls Tryd.prog 45 #[rptr p, .int .i64 n] w (Nought w p G .u32) := by
  have C := Lib.hid (next_no h (.inr hn))
  clear h hn
  go_enter Tryd.func45, Tryd.ntmps45
  go_wp2_with fail
  refine C.out.mono ?_
  rintro e w1 ⟨rfl, ht, hg⟩
  have HT := Lib.hid ht
  have HG := Lib.hid hg
  clear ht hg
  go_wp2_with fail
  refine wp_loop_rounds 1 ?_
  rw [rounds_succ]
  go_wp2_with fail
  go_ret
  exact ⟨rfl, HT.out, HG.out⟩

theorem num_small {l : List UInt8} {n k : Nat} (h : n ≤ k) : num (l.take n) < 256 ^ k := Nat.lt_of_lt_of_le (num_lt _) (Nat.pow_le_pow_right (by decide) (by rw [List.length_take]; omega))

theorem rd_u8 {w : World} {p G : Nat} {l : List UInt8} {bad : Bool} (h : Rd w p G l bad) (hn : 1 ≤ l.length) :
    Calls Tryd.prog 36 #[rptr p] w (RTold w p G l bad .u8 1) := by
  have C := Lib.hid (number_yes h hn (by omega))
  have hv : num (l.take 1) < 256 := num_small (k := 1) (Nat.le_refl _)
  clear h
  go_enter Tryd.func36, Tryd.ntmps36
  go_wp2_with fail
  refine C.out.mono ?_
  rintro e w1 ⟨rfl, ht, hg⟩
  go_wp2_with fail
  go_ret
  exact ⟨ret_int (by simp [IntKind.wrap, IntKind.bits, IntKind.signed] <;> omega), ht, hg⟩

theorem rd_u8_no {w : World} {p G : Nat} {l : List UInt8} {bad : Bool} (h : Rd w p G l bad) (hn : l.length < 1) :
    Calls Tryd.prog 36 #[rptr p] w (Nought w p G .u8) := by
  have C := Lib.hid (number_no h (n := 1) (by omega))
  clear h
  go_enter Tryd.func36, Tryd.ntmps36
  go_wp2_with fail
  refine C.out.mono ?_
  rintro e w1 ⟨rfl, ht, hg⟩
  go_wp2_with fail
  go_ret
  exact ⟨rfl, ht, hg⟩

theorem rd_u16 {w : World} {p G : Nat} {l : List UInt8} {bad : Bool} (h : Rd w p G l bad) (hn : 2 ≤ l.length) :
    Calls Tryd.prog 35 #[rptr p] w (RTold w p G l bad .u16 2) := by
  have C := Lib.hid (number_yes h hn (by omega))
  have hv : num (l.take 2) < 65536 := num_small (k := 2) (Nat.le_refl _)
  clear h
  go_enter Tryd.func35, Tryd.ntmps35
  go_wp2_with fail
  refine C.out.mono ?_
  rintro e w1 ⟨rfl, ht, hg⟩
  go_wp2_with fail
  go_ret
  exact ⟨ret_int (by simp [IntKind.wrap, IntKind.bits, IntKind.signed] <;> omega), ht, hg⟩

theorem rd_u16_no {w : World} {p G : Nat} {l : List UInt8} {bad : Bool} (h : Rd w p G l bad) (hn : l.length < 2) :
    Calls Tryd.prog 35 #[rptr p] w (Nought w p G .u16) := by
  have C := Lib.hid (number_no h (n := 2) (by omega))
  clear h
  go_enter Tryd.func35, Tryd.ntmps35
  go_wp2_with fail
  refine C.out.mono ?_
  rintro e w1 ⟨rfl, ht, hg⟩
  go_wp2_with fail
  go_ret
  exact ⟨rfl, ht, hg⟩

theorem rd_u32 {w : World} {p G : Nat} {l : List UInt8} {bad : Bool} (h : Rd w p G l bad) (hn : 4 ≤ l.length) :
    Calls Tryd.prog 34 #[rptr p] w (RTold w p G l bad .u32 4) := by
  have C := Lib.hid (number_yes h hn (by omega))
  clear h
  go_enter Tryd.func34, Tryd.ntmps34
  go_wp2_with fail
  refine C.out.mono ?_
  rintro e w1 ⟨rfl, ht, hg⟩
  go_wp2_with fail
  go_ret
  exact ⟨rfl, ht, hg⟩

theorem rd_u32_no {w : World} {p G : Nat} {l : List UInt8} {bad : Bool} (h : Rd w p G l bad) (hn : l.length < 4) :
    Calls Tryd.prog 34 #[rptr p] w (Nought w p G .u32) := by
  have C := Lib.hid (number_no h (n := 4) (by omega))
  clear h
  go_enter Tryd.func34, Tryd.ntmps34
  go_wp2_with fail
  refine C.out.mono ?_
  rintro e w1 ⟨rfl, ht, hg⟩
  go_wp2_with fail
  go_ret
  exact ⟨rfl, ht, hg⟩

/-- What Take leaves: new bytes, the reader behind them. -/
def RTook (w : World) (p G : Nat) (l l' : List UInt8) (bad : Bool) (e : Ending) (w' : World) : Prop :=
  ∃ v, e = .returned v ∧ Own w' w.heap.size v l ∧ Rd w' p G l' bad ∧ Fr (At p) w w'

theorem rd_take {w : World} {p G : Nat} {l : List UInt8} {bad : Bool} {n : Nat} (h : Rd w p G l bad) (hn : n ≤ l.length) (hl : l.length ≤ 1000000) :
    Calls Tryd.prog 32 #[rptr p, .int .i64 (n : Int)] w (RTook w p G (l.take n) (l.drop n) bad) := by
  have C := Lib.hid (next_yes h hn)
  have hlen : (l.take n).length = n := by rw [List.length_take]; omega
  have HL := Lib.hid hlen
  clear h hlen
  go_enter Tryd.func32, Tryd.ntmps32
  go_wp2_with fail
  refine C.out.mono ?_
  rintro e w1 ⟨A2, c2, rfl, hby, ht, hg⟩
  have HB := Lib.hid hby
  have HT := Lib.hid ht
  have HG := Lib.hid hg
  clear hby ht hg
  go_wp2_with fail
  refine (clone_as A2 (l.take n) n c2 w1 HL.out.symm (by rw [HL.out]; omega) (HB.out.more (by have := HT.out.le; have := HT.out.lt; omega))).mono ?_
  rintro e w2 ⟨⟨v, rfl, ho⟩, hb⟩
  go_wp2_with fail
  go_ret
  exact ⟨v, rfl, own_mono ho HG.out.size, HT.out.grows hb, HG.out.grows hb⟩

theorem rd_take_no {w : World} {p G : Nat} {l : List UInt8} {bad : Bool} {n : Int} (h : Rd w p G l bad) (hn : n < 0 ∨ (l.length : Int) < n) :
    Calls Tryd.prog 32 #[rptr p, .int .i64 n] w (RTook w p G [] [] true) := by
  have C := Lib.hid (next_no h hn)
  clear h hn
  go_enter Tryd.func32, Tryd.ntmps32
  go_wp2_with fail
  refine C.out.mono ?_
  rintro e w1 ⟨rfl, ht, hg⟩
  have HT := Lib.hid ht
  have HG := Lib.hid hg
  clear ht hg
  go_wp2_with fail
  refine (clone_as none [] 0 0 w1 rfl (by simp) ⟨by simp [u8s], fun hn => absurd hn (by simp)⟩).mono ?_
  rintro e w2 ⟨⟨v, rfl, ho⟩, hb⟩
  go_wp2_with fail
  go_ret
  exact ⟨v, rfl, own_mono ho HG.out.size, HT.out.grows hb, HG.out.grows hb⟩

/-- What End answers. -/
def endOf (l : List UInt8) (bad : Bool) : Int := if bad then 40 else if l.length = 0 then 0 else 41

theorem rd_end {w : World} {p G : Nat} {l : List UInt8} {bad : Bool} (h : Rd w p G l bad) :
    Calls Tryd.prog 33 #[rptr p] w fun e w' => e = .returned (.int .i64 (endOf l bad)) ∧ w = w' := by
  obtain ⟨A, c, hb, hby, hA, hc, hm⟩ := h.ex
  have c0 : w.cell? ⟨p, 0, none⟩ = some (.slice A l.length c) := hb.cell 0
  have c1 : w.cell? ⟨p, 1, none⟩ = some (.bool bad) := hb.cell 1
  have HE : Hid (endOf l bad = if bad then 40 else if l.length = 0 then 0 else 41) := rfl
  clear h hb hby hA
  obtain ⟨q, hq⟩ : ∃ q, q = l.length := ⟨_, rfl⟩
  rw [← hq] at c0 hc HE
  clear hq
  obtain ⟨r, hr⟩ : ∃ r, r = endOf l bad := ⟨_, rfl⟩
  rw [← hr] at HE ⊢
  clear hr
  cases bad
  · by_cases h0 : q = 0
    · subst h0
      go_enter Tryd.func33, Tryd.ntmps33
      go_wp2_with fail
      go_ret
      exact ⟨ret_int (by rw [HE.out]; rfl), rfl⟩
    · have d1 : (0 : Int) < (q : Int) := by omega
      go_enter Tryd.func33, Tryd.ntmps33
      go_wp2_with fail
      go_ret
      exact ⟨ret_int (by rw [HE.out, if_neg (by decide), if_neg h0]), rfl⟩
  · go_enter Tryd.func33, Tryd.ntmps33
    go_wp2_with fail
    go_ret
    exact ⟨ret_int (by rw [HE.out]; rfl), rfl⟩

end Go.Proofs.YtmbgjijajakgeaaDoor.Oct
