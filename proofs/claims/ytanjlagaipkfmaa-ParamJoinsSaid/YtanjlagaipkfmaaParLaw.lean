/-
  What the laws of layer 5 share: what is asked of the program's Put, Get and Find (contracts to be proved of the code as it landed), and what must be answered ahead of everything else.
-/
import Derived.Test.YtanjlagaipkfmaaParSame
import Derived.Test.YtanjlagaipkfmaaParPut
import Derived.Test.YtanjlagaipkfmaaParGet
import Derived.Lib.SlBytesConst
set_option linter.unusedVariables false
set_option linter.unusedSimpArgs false
namespace Go.Proofs.Ytanjlagaipkfmaa.Par
open Go.ChangeShapes Go.WideShapes Go.ChangeAt Go.RowKit Go.Deep Go.Proofs.Ytanjlagaipkfmaa.Words Go.Proofs.Ytanjlagaipkfmaa.Oct

/-- What Put answers. -/
def PutDone (w : World) (ls : List Prm) (e : Ending) (w' : World) : Prop :=
  (∃ v, e = .returned (.tuple #[v, .int .i64 0]) ∧ Own w' w.heap.size v (encL ls) ∧ ∀ p ∈ ls, p.2.length ≤ 65531) ∨
  (∃ A c, e = .returned (.tuple #[.slice A 0 c, .int .i64 43]) ∧ ∃ p ∈ ls, 65531 < p.2.length)
/-- What Get answers. -/
def GetDone (w : World) (x : List UInt8) (e : Ending) (w' : World) : Prop :=
  (∃ v ls, getL x = .ok ls ∧ e = .returned (.tuple #[v, .int .i64 0]) ∧ OwnPs w' w.heap.size v ls) ∨
  (∃ k A c, getL x = .error k ∧ e = .returned (.tuple #[.slice A 0 c, .int .i64 (k : Int)]) ∧ c ≤ 9223372036854775807)
/-- What Find answers. -/
def FindDone (w : World) (ls : List Prm) (kind : Nat) (e : Ending) (w' : World) : Prop :=
  (∃ v p, ls.find? (fun p => p.1 == kind) = some p ∧ e = .returned (.tuple #[v, .bool true]) ∧ Own w' w.heap.size v p.2) ∨
  (∃ A c, ls.find? (fun p => p.1 == kind) = none ∧ e = .returned (.tuple #[.slice A 0 c, .bool false]) ∧ c ≤ 9223372036854775807)
def PutC : Prop := ∀ (A : Option Addr) (ls : List Prm) (n c : Nat) (w : World), n = ls.length → n ≤ c → c ≤ 9223372036854775807 → sizeL ls ≤ 200000 → Ps w w.heap.size A ls →
  Calls Try.prog 12 #[.slice A n c] w fun e w' => PutDone w ls e w' ∧ Below w.heap.size w w'
def GetC : Prop := ∀ (A : Option Addr) (x : List UInt8) (n c : Nat) (w : World), n = x.length → n ≤ c → c ≤ 9223372036854775807 → n ≤ 200000 → Byt w w.heap.size A x →
  Calls Try.prog 15 #[.slice A n c] w fun e w' => GetDone w x e w' ∧ Below w.heap.size w w'
def FindC : Prop := ∀ (A : Option Addr) (ls : List Prm) (n c kind : Nat) (w : World), n = ls.length → n ≤ c → c ≤ 9223372036854775807 → kind < 65536 → sizeL ls ≤ 200000 → Ps w w.heap.size A ls →
  Calls Try.prog 17 #[.slice A n c, .int .u16 (kind : Int)] w fun e w' => FindDone w ls kind e w' ∧ Below w.heap.size w w'
theorem first_enc : encL [(8, [97, 98])] = [0, 8, 0, 6, 97, 98, 0, 0] := by decide
theorem first_get : getL [0, 8, 0, 3] = .error 42 := by
  exact getL_err (by decide) (one_small (by decide) (by decide))
theorem first_back : getL [0, 8, 0, 6, 97, 98, 0, 0] = .ok [(8, [97, 98])] := by
  rw [← first_enc]
  exact getL_enc _ (fun p hp => by
    simp only [List.mem_singleton] at hp
    subst hp
    exact ⟨by decide, by decide⟩)
set_option maxHeartbeats 4000000 in
theorem first_any (P : PutC) (G : GetC) (w : World) : Calls Try.prog 9 #[] w fun e w' => e = .returned (.bool true) ∧ Below w.heap.size w w' := by
  have kc := Lib.run_convert_bytes_const (P := Try.prog) w 26 5 #[.int .u8 97, .int .u8 98] 2 2 Try.underlying26 Try.underlying5
  go_enter Try.func9, Try.ntmps9
  go_wp2_with fail
  obtain ⟨w1, hw1⟩ : ∃ w1, w1 = (w.alloc (.cells #[.int .u8 97, .int .u8 98] 5 (2, 3))).alloc (.cells #[.int .u16 8, .slice (some ⟨w.heap.size, 0, none⟩) 2 2] 42) := ⟨_, rfl⟩
  have hb1 : Below w.heap.size w w1 := by rw [hw1]; exact ((Below.refl _ _).alloc (Nat.le_refl _) _).alloc (by simp) _
  have hps : Ps w1 w1.heap.size (some ⟨w.heap.size + 1, 0, none⟩) [(8, [97, 98])] := by
    intro k p hp
    match k, hp with
    | 0, hp =>
      simp only [List.getElem?_cons_zero, Option.some.injEq] at hp
      subst hp
      have hbl : Blk w1 (w.heap.size + 1) 42 #[.int .u16 8, .slice (some ⟨w.heap.size, 0, none⟩) 2 2] := by
        have := Blk.new (w.alloc (.cells #[.int .u8 97, .int .u8 98] 5 (2, 3))) 42 #[.int .u16 8, .slice (some ⟨w.heap.size, 0, none⟩) 2 2]
        rw [hw1]
        simpa using this
      refine ⟨⟨w.heap.size + 1, 0, none⟩, some ⟨w.heap.size, 0, none⟩, 2, rfl, by rw [hw1]; simp, by decide, hbl.cell 0, hbl.cell 1, by decide, by omega, ?_⟩
      rw [hw1]
      exact byt_of_heap (heap_kept _ _ (heap_alloc_new w _)) (by simp; omega) rfl
    | k + 1, hp => simp at hp
  rw [← hw1]
  have HB1 := Lib.hid hb1
  clear hw1 kc hb1
  refine (P _ [(8, [97, 98])] 1 1 w1 rfl (by omega) (by omega) (by decide) hps).mono ?_
  rintro e w2 ⟨hd, hb2⟩
  rcases hd with ⟨v, rfl, ho, _⟩ | ⟨A, c, _, p, hp, hl⟩
  · rw [first_enc] at ho
    obtain ⟨A2, c2, rfl, h2a, h2b, HY2⟩ := own_as (n := 8) ho rfl
    have HB2 := Lib.hid (HB1.out.trans (hb2.mono HB1.out.size))
    clear ho hb2 hps
    go_wp2_with fail
    refine (G A2 [0, 8, 0, 6, 97, 98, 0, 0] 8 c2 w2 rfl h2a h2b (by omega) HY2.out).mono ?_
    rintro e w3 ⟨hd, hb3⟩
    rcases hd with ⟨v3, ls, hls, rfl, ho3⟩ | ⟨k, A3, c3, hk, _⟩
    · rw [first_back] at hls
      injection hls with hls
      subst hls
      obtain ⟨A3, c3, rfl, h3a, h3b⟩ := ho3.slice
      have HO3 := Lib.hid ho3
      have HB3 := Lib.hid (HB2.out.trans (hb3.mono HB2.out.size))
      have HY3 : Hid (Byt w3 w2.heap.size A2 [0, 8, 0, 6, 97, 98, 0, 0]) := HY2.out.below hb3
      clear ho3
      go_wp2_with fail
      have HYC : Hid (Byt (w3.alloc (.cells #[.int .u8 0, .int .u8 8, .int .u8 0, .int .u8 3] 5)) (w3.heap.size + 1) (some ⟨w3.heap.size, 0, none⟩) [0, 8, 0, 3]) := (Blk.new w3 5 _).byt (by omega) rfl
      refine (G _ [0, 8, 0, 3] 4 4 _ rfl (by omega) (by omega) (by omega) (by simpa using HYC.out)).mono ?_
      rintro e w4 ⟨hd, hb4⟩
      rcases hd with ⟨v4, ls, hls, _⟩ | ⟨k, A4, c4, hk, rfl, _⟩
      · rw [first_get] at hls; cases hls
      · rw [first_get] at hk
        injection hk with hk
        subst hk
        have hb34 : Below w3.heap.size w3 w4 := ((Below.refl _ w3).alloc (Nat.le_refl _) _).trans (hb4.mono (by simp))
        obtain ⟨ad, a, cv, hA, _, _, q0, _⟩ := ((HO3.out.ps).below hb34) 0 (8, [97, 98]) rfl
        have hA' : A3 = some ad := hA
        subst hA'
        simp only [Nat.zero_mul] at q0
        have q0' : w4.cell? ad = some (.int .u16 8) := by have := q0; rwa [show ad.add 0 = ad from rfl] at this
        have HS4 := run_str (P := Try.prog) (HY3.out.below (hb34.mono hb3.size)) 26 9 5 Try.underlying26 Try.underlying5 Try.underlying9 8 c2 rfl
        have HB4 := Lib.hid (HB3.out.trans (hb34.mono HB3.out.size))
        clear hb4 hb3 q0
        go_wp2_with fail
        go_ret
        exact ⟨rfl, HB4.out⟩
    · rw [first_back] at hk; cases hk
  · simp only [List.mem_singleton] at hp
    subst hp
    exact absurd hl (by decide)
end Go.Proofs.Ytanjlagaipkfmaa.Par
