/-
  Contracts of slices.Grow and slices.Concat at slices of slices of bytes.
-/
import Derived.Test.YtmbgjijajakgeaaDoorMacMem
import Derived.Lib.AppendZeros
set_option linter.unusedVariables false
set_option linter.unusedSimpArgs false
namespace Go.Proofs.YtmbgjijajakgeaaDoor.Sha
open Go.ChangeShapes Go.WideShapes Go.ChangeAt Go.RowKit Go.Proofs.YtmbgjijajakgeaaDoor.Words

theorem sl_info : (Tryd.prog.info? 22).map (fun i => (i.zero, i.size, i.bytes)) = some (some (.slice none 0 0), 1, 24) := by kernel_rfl
set_option maxHeartbeats 1000000 in
theorem grow_nil (n : Nat) (hn : n ≤ 1000) (w : World) :
    Calls Tryd.prog 43 #[.slice none 0 0, .int .i64 (n : Int)] w fun e w' => ∃ v, e = .returned v ∧ w'.ownsRow w.heap.size 22 1 v 0 [] ∧ Below w.heap.size w w' := by
  obtain ⟨i0, hi0, hz0, hz1, hz2⟩ := info_parts3 sl_info
  by_cases h0 : n = 0
  · subst h0
    go_enter Tryd.func43, Tryd.ntmps43
    go_wp2
    go_ret
    exact ⟨_, rfl, World.ownsRow_nil _ _ _ _, Below.refl _ _⟩
  · have hp : 0 < n := by omega
    have hr := fun ty => Lib.run_append_nil_zeros (P := Tryd.prog) w 66 3 ty 22 i0 _ .i64 .i64 Tryd.underlying66 Tryd.underlying3 hi0 hz0 n hp (by omega) (by omega) (by rw [hz2]; omega)
    have hge := grownCap_ge w n 0 22
    have hcm : grownCap w n 0 22 ≤ maxLen := grownCap_le_maxLen w n 0 _ (by simp only [maxLen]; omega)
    obtain ⟨C, hC⟩ : ∃ C, C = grownCap w n 0 22 := ⟨_, rfl⟩
    rw [← hC] at hr hge hcm
    clear hC
    obtain ⟨cs, hcs⟩ : ∃ cs, cs = Builtin.zeroCells (Value.slice none 0 0).cells n ++ Builtin.zeroCells (Value.slice none 0 0).cells (C - n) := ⟨_, rfl⟩
    have hsz : cs.size = C := by rw [hcs, Array.size_append, size_zeroCells, size_zeroCells]; simp [Value.cells]; omega
    rw [← hcs] at hr
    obtain ⟨W1, hW1⟩ : ∃ W, W = w.drew.alloc (.cells cs 22) := ⟨_, rfl⟩
    have hr1 : ∀ ty, (Builtin.append_ #[66, 3] ty #[.slice none 0 0, .int .i64 (n : Int)]).run Tryd.prog w = .ok (.slice (some ⟨w.heap.size, 0, none⟩) n C) W1 := fun ty => by rw [hW1]; exact hr ty
    have HO : Hid (W1.ownsRow w.heap.size 22 1 (.slice (some ⟨w.heap.size, 0, none⟩) 0 C) 0 []) := by
      refine ⟨rfl, .inr ⟨w.heap.size, C, cs, rfl, Nat.le_refl _, by rw [hW1]; exact heap_alloc_new w.drew _, Nat.zero_le _, hcm, by omega, by simp⟩⟩
    have HB : Hid (Below w.heap.size w W1) := by
      show Below _ _ _
      rw [hW1]; exact ((Below.refl _ w).drew).alloc (Nat.le_refl _) _
    have hC : C ≤ 9223372036854775807 := hcm
    clear hr hW1 hsz hcs hi0 hz0 hz1 hz2 hcm h0
    go_enter Tryd.func43, Tryd.ntmps43
    go_wp2_with (at_builtin; refine Lib.wpList_append_run _ rfl (.tmp 20) (.tmp 21) _ _ rfl _ _ rfl rfl _ _ (hr1 _) ?_)
    go_ret
    exact ⟨_, rfl, HO.out, HB.out⟩

/-- Two slices of slices, as slices.Concat reads them. -/
structure Two (w : World) (B : Nat) (A0 : Option Addr) (A1 : Option Addr) (n1 c1 : Nat) (xs1 : List Value) (A2 : Option Addr) (n2 c2 : Nat) (xs2 : List Value) : Prop where
  top : Reads w B 1 A0 2 [.slice A1 n1 c1, .slice A2 n2 c2]
  r1 : Reads w B 1 A1 n1 xs1
  r2 : Reads w B 1 A2 n2 xs2
  o1 : ∀ u ∈ xs1, u.oneCell' = true
  o2 : ∀ u ∈ xs2, u.oneCell' = true
theorem Two.below {w w' : World} {B n1 c1 n2 c2 : Nat} {A0 A1 A2 : Option Addr} {xs1 xs2 : List Value} (h : Two w B A0 A1 n1 c1 xs1 A2 n2 c2 xs2) (hb : Below B w w') : Two w' B A0 A1 n1 c1 xs1 A2 n2 c2 xs2 :=
  ⟨h.top.below hb, h.r1.below hb, h.r2.below hb, h.o1, h.o2⟩
theorem add_zero_ (a : Addr) : a.add 0 = a := by simp [Addr.add]
theorem own_ge {w : World} {B : Nat} {e : TypeId} {size n : Nat} {v : Value} {xs : List Value} (h : w.ownsRow B e size v n xs) : ∀ b, v.ownBlock = some b → B ≤ b := by
  intro b hb
  rcases h.2 with ⟨rfl, _⟩ | ⟨g, cap, cur, rfl, hge, _⟩
  · simp [Value.ownBlock] at hb
  · simp [Value.ownBlock] at hb; omega
theorem Two.cells {w : World} {B n1 c1 n2 c2 : Nat} {ad : Addr} {A1 A2 : Option Addr} {xs1 xs2 : List Value} (h : Two w B (some ad) A1 n1 c1 xs1 A2 n2 c2 xs2) :
    w.cell? ad = some (.slice A1 n1 c1) ∧ w.cell? ⟨ad.block, ad.off + 1, none⟩ = some (.slice A2 n2 c2) := by
  obtain ⟨ad', e, hlt, hc⟩ := h.top.2 (by omega)
  cases e
  have hc0 := hc 0 _ rfl
  have hc1 := hc 1 _ rfl
  rw [add_zero_] at hc0
  rw [add_lit _ (by omega)] at hc1
  exact ⟨hc0, hc1⟩
/-- Where the row has come to. -/
def CSt (w wr : World) (v : Value) (n1 : Nat) (xs1 : List Value) (n2 : Nat) (xs2 : List Value) (k : Nat) : Prop :=
  wr.ownsRow w.heap.size 22 1 v (if k = 0 then 0 else if k = 1 then n1 else n1 + n2) (if k = 0 then [] else if k = 1 then xs1 else xs1 ++ xs2) ∧ Below w.heap.size w wr
set_option maxHeartbeats 1000000 in
theorem concat_any {w : World} {A0 A1 A2 : Option Addr} {n1 c1 n2 c2 c0 : Nat} {xs1 xs2 : List Value} (h : Two w w.heap.size A0 A1 n1 c1 xs1 A2 n2 c2 xs2) (h1 : n1 ≤ 100) (h2 : n2 ≤ 100) :
    Calls Tryd.prog 29 #[.slice A0 2 c0] w fun e w' => ∃ v, e = .returned v ∧ w'.ownsRow w.heap.size 22 1 v (n1 + n2) (xs1 ++ xs2) ∧ Below w.heap.size w w' := by
  obtain ⟨i0, hi0, hz0, hz1, hz2⟩ := info_parts3 sl_info
  obtain ⟨ad, rfl, hlt, hc⟩ := h.top.2 (by omega)
  have hc0 := hc 0 _ rfl
  have hc1 := hc 1 _ rfl
  rw [add_zero_] at hc0
  rw [add_lit _ (by omega)] at hc1
  have H := Lib.hid h
  clear h hc
  go_enter Tryd.func29, Tryd.ntmps29
  go_wp2
  go_loop [3, 11] (fun s i => ∃ k : Nat, k ≤ 2 ∧ i = .int .i64 (k : Int) ∧ s = .int .i64 (((if k = 0 then 0 else if k = 1 then n1 else n1 + n2) : Nat) : Int)) (fun _ i => 2 - (intOf i).toNat)
  case atStart => exact ⟨0, Nat.zero_le _, rfl, rfl⟩
  case round =>
    obtain ⟨k, hk, rfl, rfl⟩ := hrel
    have hk3 : k = 0 ∨ k = 1 ∨ k = 2 := by omega
    rcases hk3 with rfl | rfl | rfl
    · go_wp2
      go_round
      case rel => exact ⟨1, by omega, rfl, by simp⟩
      case measure => simp [intOf]
    · go_wp2
      go_round
      case rel => exact ⟨2, by omega, rfl, by simp⟩
      case measure => simp [intOf]
    · simp only [show (2 : Nat) ≠ 0 by decide, show (2 : Nat) ≠ 1 by decide, if_false]
      obtain ⟨nn, hnn⟩ : ∃ nn, nn = n1 + n2 := ⟨_, rfl⟩
      rw [← hnn]
      have hnl : nn ≤ 200 := by omega
      have HNN := Lib.hid hnn
      clear hnn
      have HGR := Lib.hid (grow_nil nn (by omega) w)
      go_wp2_with (go_at_call 43; refine HGR.out.mono ?_; rintro e W ⟨v0, rfl, hv0, hb0⟩)
      have HC0 : Hid (CSt w W v0 n1 xs1 n2 xs2 0) := ⟨hv0, hb0⟩
      clear hv0 hb0 hc0 hc1
      go_loopw [6, 27] (fun v6 i wr => ∃ (v : Value) (k : Nat), k ≤ 2 ∧ v6 = v ∧ i = .int .i64 (k : Int) ∧ Hid (CSt w wr v n1 xs1 n2 xs2 k)) (fun _ i _ => 2 - (intOf i).toNat)
      case atStart => exact ⟨v0, 0, Nat.zero_le _, rfl, rfl, HC0⟩
      case round =>
        obtain ⟨v, k, hk, hv6, rfl, hs⟩ := hrel
        rw [← hv6] at hs
        clear hv6 v
        have hk3 : k = 0 ∨ k = 1 ∨ k = 2 := by omega
        rcases hk3 with rfl | rfl | rfl
        · have hown : wr.ownsRow w.heap.size 22 1 u6 0 [] := hs.out.1
          have HT := H.out.below hs.out.2
          obtain ⟨hc0, hc1⟩ := HT.cells
          have HOW := Lib.hid hown
          have HR := Lib.hid HT.r1
          have HO1 := Lib.hid HT.o1
          have hsz := hs.out.2.size
          clear HT hown
          go_wp2_with (at_builtin; refine wpList_append_any _ rfl (.tmp 31) (.tmp 32) _ rfl w.heap.size 22 i0 _ 1 24 Tryd.underlying66 hi0 hz0 hz1 hz2 rfl (by omega) u6 0 [] rfl HOW.out w.heap.size A1 n1 c1 xs1 rfl HR.out HO1.out (by unfold maxLen; omega) (by omega) hsz ?_; intro v1 w1 hown1 hg1 hat1)
          go_roundw
          case rel => exact ⟨v1, 1, by omega, rfl, rfl, by simpa using hown1, hs.out.2.grown hg1 hsz (own_ge HOW.out)⟩
          case measure => simp [intOf]
        · have hown : wr.ownsRow w.heap.size 22 1 u6 n1 xs1 := hs.out.1
          have HT := H.out.below hs.out.2
          obtain ⟨hc0, hc1⟩ := HT.cells
          have HOW := Lib.hid hown
          have HR := Lib.hid HT.r2
          have HO1 := Lib.hid HT.o2
          have hsz := hs.out.2.size
          clear HT hown
          go_wp2_with (at_builtin; refine wpList_append_any _ rfl (.tmp 31) (.tmp 32) _ rfl w.heap.size 22 i0 _ 1 24 Tryd.underlying66 hi0 hz0 hz1 hz2 rfl (by omega) u6 n1 xs1 rfl HOW.out w.heap.size A2 n2 c2 xs2 rfl HR.out HO1.out (by unfold maxLen; omega) (by omega) hsz ?_; intro v1 w1 hown1 hg1 hat1)
          go_roundw
          case rel => exact ⟨v1, 2, by omega, rfl, rfl, by simpa using hown1, hs.out.2.grown hg1 hsz (own_ge HOW.out)⟩
          case measure => simp [intOf]
        · go_wp2
          go_ret
          exact ⟨u6, rfl, hs.out.1, hs.out.2⟩
end Go.Proofs.YtmbgjijajakgeaaDoor.Sha
