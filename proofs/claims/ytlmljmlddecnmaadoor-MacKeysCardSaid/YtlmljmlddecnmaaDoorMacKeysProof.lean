/-
  PROVED: MacKeys of flumelaw08 answers true for every input, and its arguments read afterwards as before. CONDITIONS: none beside the form's own.
-/
import Derived.Test.YtlmljmlddecnmaaDoorRows
import Derived.Test.YtlmljmlddecnmaaDoorMac15
import Derived.Test.YtlmljmlddecnmaaDoorMacLaid
import Derived.Test.YtlmljmlddecnmaaDoorCards
import Derived.Test.YtlmljmlddecnmaaDoorTie
import Derived.SevenTiedAt
import Derived.WalkKit
import Derived.ProofKit
import Derived.OpenShut
import Derived.ShutString
import Derived.ChangeOld
import Derived.Below
namespace Go.Proofs.YtlmljmlddecnmaaDoor.macKeys
open Go.ChangeShapes Go.WideShapes Go.ChangeAt Go.RowKit
open Go.ChangeMaps (open_string shut_string)
set_option linter.unusedVariables false
set_option linter.unusedSimpArgs false

theorem own : ownKnob Tryd.prog.godebug = none := by kernel_rfl
theorem laidOut : laidOutB Tryd.prog = true := by kernel_rfl

/-- What the walk is told of a slice of integers that came in. -/
def IsRow (k : IntKind) (w : World) (a : Option Addr) (len cap : Nat) (zs : List Int) : Prop :=
  (a = none ∧ len = 0 ∧ cap = 0 ∧ zs = []) ∨
  ∃ x, a = some x ∧ len ≤ cap ∧ cap ≤ maxLen ∧ zs.length = cap ∧ (∀ i, i < zs.length → w.cell? (x.add i) = some (.int k (zs.getD i 0))) ∧ ∀ n ∈ zs, (Lit.int k n).wf = true

/-! ### The walk -/
open Words Sha
set_option maxHeartbeats 4000000 in
theorem walk (a0 : Option Addr) (len0 cap0 : Nat) (z0 : List Int) (a1 : Option Addr) (len1 cap1 : Nat) (z1 : List Int) (a2 : Int) (w : World) (hLaid : Sha.Laid w) (w0 : IsRow .u8 w a0 len0 cap0 z0) (w1 : IsRow .u8 w a1 len1 cap1 z1) (w2 : (Lit.int .i64 a2).wf = true) :
    Calls Tryd.prog 4 #[.slice a0 len0 cap0, .slice a1 len1 cap1, .int .i64 a2] w fun e w' => e = .returned (.bool true) ∧ Below w.heap.size w w' := by
  obtain ⟨k0, hk, hkc, hk63, hkb⟩ := bytes_of w0
  obtain ⟨x0, hx, hxc, hx63, hxb⟩ := bytes_of w1
  obtain ⟨nk, hnk⟩ : ∃ n : Nat, n = min len0 200 := ⟨_, rfl⟩
  obtain ⟨nx, hnx⟩ : ∃ n : Nat, n = min len1 300 := ⟨_, rfl⟩
  obtain ⟨k, hkk⟩ : ∃ l, l = k0.take nk := ⟨_, rfl⟩
  obtain ⟨x, hxx⟩ : ∃ l, l = x0.take nx := ⟨_, rfl⟩
  have hnk1 : nk ≤ cap0 ∧ nk ≤ 200 := by omega
  have hnx1 : nx ≤ cap1 ∧ nx ≤ 300 := by omega
  have HKL : Hid (nk = k.length) := by show nk = k.length; rw [hkk, List.length_take]; omega
  have HXL : Hid (nx = x.length) := by show nx = x.length; rw [hxx, List.length_take]; omega
  have HBK : Hid (Byt w w.heap.size a0 k) := by show Byt _ _ _ _; rw [hkk]; exact Reads.take_ hkb nk
  have HBX : Hid (Byt w w.heap.size a1 x) := by show Byt _ _ _ _; rw [hxx]; exact Reads.take_ hxb nx
  have HK0 : Hid (PtV w w.heap.size (.slice a0 nk cap0) k) := .mk HKL.out hnk1.1 hk63 HBK.out
  have HX0 : Hid (PtV w w.heap.size (.slice a1 nx cap1) x) := .mk HXL.out hnx1.1 hx63 HBX.out
  have hmin0 : ∀ W : World, (Builtin.min_ #[3, 3] 3 #[.int .i64 (len0 : Int), .int .i64 200]).run Tryd.prog W = .ok (.int .i64 (nk : Int)) W := fun W => by
    rw [run_min_int2, show (nk : Int) = if (200 : Int) < (len0 : Int) then 200 else (len0 : Int) by split <;> omega]
  have hmin1 : ∀ W : World, (Builtin.min_ #[3, 3] 3 #[.int .i64 (len1 : Int), .int .i64 300]).run Tryd.prog W = .ok (.int .i64 (nx : Int)) W := fun W => by
    rw [run_min_int2, show (nx : Int) = if (300 : Int) < (len1 : Int) then 300 else (len1 : Int) by split <;> omega]
  have HLD := Lib.hid hLaid
  clear w0 w1 hk hx hkc hxc hkb hxb hLaid hkk hxx hnk hnx
  obtain ⟨hnk1, hnk2⟩ := hnk1
  obtain ⟨hnx1, hnx2⟩ := hnx1
  go_enter Tryd.func4, Tryd.ntmps4
  go_wp2_with fail
  refine (first_any w HLD.out).mono ?_
  rintro e W1 ⟨rfl, hb1⟩
  have HB1 := Lib.hid hb1
  clear hb1
  go_wp2_with fail
  go_cut [7, 8] from 14 to 23 (fun s7 s8 wx => s7 = .slice a0 nk cap0 ∧ s8 = .slice a1 nx cap1 ∧ Below W1.heap.size W1 wx)
  case first =>
    have HD : Hid (Below W1.heap.size W1 W1.drew) := Below.drew (Below.refl _ _)
    go_region
    all_goals
      go_wp2_with fail
      go_meet
      exact ⟨rfl, rfl, HD.out⟩
  case rest =>
    obtain ⟨rfl, rfl, hb2⟩ := hcut
    have HBc : Hid (Below w.heap.size w wc) := HB1.out.trans (hb2.mono HB1.out.size)
    have HW0 : Hid (2 ≤ w.heap.size) := HLD.out.size
    have HKc : Hid (PtV wc wc.heap.size (.slice a0 nk cap0) k) := HK0.out.grow HBc.out
    have HXc : Hid (PtV wc wc.heap.size (.slice a1 nx cap1) x) := HX0.out.grow HBc.out
    clear hb2 hmin0 hmin1 HB1
    go_wp2_with fail
    have HSE : Hid (Calls Tryd.prog 8 #[.slice a0 nk cap0, .slice (some ⟨wc.heap.size, 0, none⟩) 1 1] (wc.alloc (.cells #[.slice a1 nx cap1] 22)) fun e w' => e = .returned (.agg (Sha.V (seal_ k x))) ∧ Below wc.heap.size wc w') := by
      show Calls _ _ _ _ _
      have := seal_new (t := 22) (n := 1) (c := 1) (xs := [.slice a1 nx cap1]) (ls := [x]) HKc.out ⟨HXc.out, trivial⟩ rfl (by have := HKL.out; have := HXL.out; simp; omega) (HLD.out.below HBc.out HW0.out)
      rw [show [x].flatten = x by simp] at this
      exact this
    refine HSE.out.mono ?_
    rintro e W3 ⟨rfl, hb3⟩
    obtain ⟨s, hs⟩ : ∃ s, s = seal_ k x := ⟨_, rfl⟩
    rw [← hs]
    have HSL : Hid (s.length = 32) := by show s.length = 32; rw [hs]; exact seal_length _ _
    obtain ⟨W4, hW4⟩ : ∃ W4, W4 = put32 W3 s := ⟨_, rfl⟩
    obtain ⟨G, hG⟩ : ∃ G, G = W3.heap.size := ⟨_, rfl⟩
    have hb4 : Below W3.heap.size W3 W4 := by rw [hW4]; exact put32_below _ _
    have HG4 : Hid (Blk W4 G 25 (Sha.V s)) := by show Blk _ _ _ _; rw [hW4, hG]; exact put32_blk _ _
    have HB4 : Hid (Below w.heap.size w W4) := HBc.out.trans ((hb3.trans (hb4.mono hb3.size)).mono HBc.out.size)
    have HSS := Lib.hid hs
    have HW4 := Lib.hid hW4
    have HGG := Lib.hid hG
    clear hb3 hb4 hs hW4 hG HSE HBc HKc HXc
    by_cases h64 : 64 < nk
    · go_wp2_with (first
        | (with_reducible refine wpList_alloc32 rfl rfl ?_)
        | (refine wpList_store32 rfl _ _ rfl HSL.out rfl rfl ?_; rw [← HW4.out, ← HGG.out]))
      have HHA : Hid (Calls Tryd.prog 9 #[.slice (some ⟨W4.heap.size, 0, none⟩) 1 1] (W4.alloc (.cells #[.slice a0 nk cap0] 22)) fun e w' => e = .returned (.agg (Sha.V (Sha.hash k))) ∧ Below W4.heap.size W4 w') := by
        show Calls _ _ _ _ _
        have := hash_new (t := 22) (n := 1) (c := 1) (xs := [.slice a0 nk cap0]) (ls := [k]) ⟨HK0.out.grow HB4.out, trivial⟩ rfl (by have := HKL.out; simp; omega) (HLD.out.below HB4.out HW0.out)
        rw [show [k].flatten = k by simp] at this
        exact this
      refine HHA.out.mono ?_
      rintro e W5 ⟨rfl, hb5⟩
      obtain ⟨h, hh⟩ : ∃ h, h = Sha.hash k := ⟨_, rfl⟩
      rw [← hh]
      have HHL : Hid (h.length = 32) := by show h.length = 32; rw [hh]; exact hash_length _
      obtain ⟨W6, hW6⟩ : ∃ W6, W6 = put32 W5 h := ⟨_, rfl⟩
      obtain ⟨G2, hG2⟩ : ∃ G, G = W5.heap.size := ⟨_, rfl⟩
      have hb6 : Below W5.heap.size W5 W6 := by rw [hW6]; exact put32_below _ _
      have hb46 : Below W4.heap.size W4 W6 := hb5.trans (hb6.mono hb5.size)
      have HH6 : Hid (Blk W6 G2 25 (Sha.V h)) := by show Blk _ _ _ _; rw [hW6, hG2]; exact put32_blk _ _
      have HG6 : Hid (Blk W6 G 25 (Sha.V s)) := HG4.out.below hb46 HG4.out.lt
      have HB6 : Hid (Below w.heap.size w W6) := HB4.out.trans (hb46.mono HB4.out.size)
      have HE : Hid (seal_ h x = s) := by show seal_ h x = s; rw [hh, HSS.out]; exact seal_long (by rw [← HKL.out]; exact h64)
      have HW6 := Lib.hid hW6
      have HG2 := Lib.hid hG2
      clear hb5 hb6 hb46 hh hW6 hG2 HHA HG4 HB4 HW4 HGG
      go_wp2_with (first
        | (with_reducible refine wpList_alloc32 rfl rfl ?_)
        | (refine wpList_store32 rfl _ _ rfl HHL.out rfl rfl ?_; rw [← HW6.out, ← HG2.out]))
      have HGEN : Hid (∀ V, Below W6.heap.size W6 V → Below w.heap.size w V) := fun V h => HB6.out.trans (h.mono HB6.out.size)
      have HST : Hid (Below W6.heap.size W6 W6.drew) := Below.drew (Below.refl _ _)
      refine wp_region_stage (fun V V' => Below V.heap.size V V') (fun m V => Hid (Below W6.heap.size W6 V)) [(false, .exact (.slice (some ⟨G2, 0, none⟩) 32 32)),
          (false, .exact (.slice a1 nx cap1)),
          (false, .grows (Built [.slice a1 nx cap1])),
          (false, .exact (.agg (Sha.V s))),
          (false, .exact (.agg (Sha.V s))),
          (false, .exact (.bool true)),
          (false, .exact (.bool true))] (by kernel_rfl) (by kernel_rfl) (by kernel_rfl) rfl ?lasts ?start ?walk
      case lasts => exact ⟨fun _ _ _ h k => h.below k, trivial⟩
      case start => exact HST
      case walk =>
        refine stage_pure rfl (fun V => Below.refl _ V) (fun V m hS hl => by exact exec_slice rfl rfl (slice_all32 G2 V)) ?_
        simp only [Act.put, List.setIfInBounds_toArray, List.set_cons_zero, List.set_cons_succ, List.cons_append, List.nil_append]
        refine stage_pure rfl (fun V => Below.refl _ V) (fun V m hS hl => by go_simp) ?_
        simp only [Act.put, List.setIfInBounds_toArray, List.set_cons_zero, List.set_cons_succ, List.cons_append, List.nil_append]
        refine stage_grows rfl (fun V m hS hl => by
            go_simp
            exact ⟨below_new V _, Built.new V [.slice a1 nx cap1], hS.out.trans ((below_new V _).mono hS.out.size)⟩) (fun v36 => ?_)
        simp only [Act.put, List.setIfInBounds_toArray, List.set_cons_zero, List.set_cons_succ, List.cons_append, List.nil_append]
        refine stage_exact rfl (fun V m hS hl => by
            go_simp
            refine Calls.mono (seal_b (xs := [.slice a1 nx cap1]) (ls := [x]) (PtV.blk32 (HH6.out.below hS.out HH6.out.lt) HHL.out (HH6.out.below hS.out HH6.out.lt).lt) (hl.1 (by kernel_rfl)) ⟨HX0.out.grow (HGEN.out V hS.out), trivial⟩ (by have := HHL.out; have := HXL.out; simp; omega) (HLD.out.below (HGEN.out V hS.out) HW0.out)) ?_
            rintro e V' ⟨rfl, hb⟩
            exact ⟨_, rfl, hb, by rw [← HE.out]; simp, hS.out.trans (hb.mono hS.out.size)⟩) ?_
        simp only [Act.put, List.setIfInBounds_toArray, List.set_cons_zero, List.set_cons_succ, List.cons_append, List.nil_append]
        refine stage_pure rfl (fun V => Below.refl _ V) (fun V m hS hl => by exact exec_load rfl rfl (load_b32 (HG6.out.below hS.out HG6.out.lt) HSL.out)) ?_
        simp only [Act.put, List.setIfInBounds_toArray, List.set_cons_zero, List.set_cons_succ, List.cons_append, List.nil_append]
        refine stage_pure rfl (fun V => Below.refl _ V) (fun V m hS hl => by exact exec_same32 s s HSL.out rfl rfl rfl rfl) ?_
        simp only [Act.put, List.setIfInBounds_toArray, List.set_cons_zero, List.set_cons_succ, List.cons_append, List.nil_append]
        refine stage_pure rfl (fun V => Below.refl _ V) (fun V m hS hl => by go_simp) ?_
        simp only [Act.put, List.setIfInBounds_toArray, List.set_cons_zero, List.set_cons_succ, List.cons_append, List.nil_append]
        refine stage_nil (fun V2 hS hF => ?_)
        have HS2 := Lib.hid (HGEN.out V2 hS.out)
        clear hS hF
        go_wp2_with fail
        go_ret
        exact ⟨rfl, HS2.out⟩
    · obtain ⟨n, hn, hnb⟩ := u64rem a2 (65 - (nk : Int)) (by omega) (by omega)
      go_wp2_with (first
        | (with_reducible refine wpList_alloc32 rfl rfl ?_)
        | (refine wpList_store32 rfl _ _ rfl HSL.out rfl rfl ?_; rw [← HW4.out, ← HGG.out]))
      rw [hn]
      clear hn HW4 HGG
      obtain ⟨L, hL⟩ : ∃ L, L = k ++ List.replicate n 0 := ⟨_, rfl⟩
      have hLL : L.length = nk + n := by rw [hL]; have := HKL.out; simp; omega
      have HRD : Hid (∀ V, Below W4.heap.size W4 V → Reads V w.heap.size 1 a0 nk (u8s ((L.drop 0).take nk))) := by
        show ∀ V, _
        intro V hV
        have e : (L.drop 0).take nk = k := by rw [List.drop_zero, hL, HKL.out, List.take_left]
        rw [e]
        have := HBK.out.below (HB4.out.trans (hV.mono HB4.out.size))
        unfold Byt at this
        rw [← HKL.out] at this
        exact this
      have HZR : Hid ((L.drop nk).take n = List.replicate n 0) := by
        show _ = _
        rw [hL, HKL.out, List.drop_left, List.take_of_length_le (by simp)]
      have HE : Hid (seal_ L x = s) := by show seal_ L x = s; rw [hL, HSS.out]; exact seal_zeros (by rw [← HKL.out]; omega)
      have HGEN : Hid (∀ V, Below W4.heap.size W4 V → Below w.heap.size w V) := fun V h => HB4.out.trans (h.mono HB4.out.size)
      have HST : Hid (Below W4.heap.size W4 W4.drew) := Below.drew (Below.refl _ _)
      have HLL := Lib.hid hLL
      clear hL hLL
      refine wp_region_stage (fun V V' => Grew W4.heap.size L V V') (fun m V => Hid (Below W4.heap.size W4 V)) [(false, .grows (RowL W4.heap.size L 0)),
          (false, .exact (.slice a0 nk cap0)),
          (false, .grows (RowL W4.heap.size L nk)),
          (false, .exact (.int .i64 (n : Int))),
          (false, .grows (RowL W4.heap.size L (nk + n))),
          (false, .exact (.slice a1 nx cap1)),
          (false, .grows (Built [.slice a1 nx cap1])),
          (false, .exact (.agg (Sha.V s))),
          (false, .exact (.agg (Sha.V s))),
          (false, .exact (.bool true)),
          (false, .exact (.bool true))] (by kernel_rfl) (by kernel_rfl) (by kernel_rfl) rfl ?lasts ?start ?walk
      case lasts => exact ⟨fun _ _ _ h k => h.grew k, fun _ _ _ h k => h.grew k, fun _ _ _ h k => h.grew k, fun _ _ _ h k => h.grew k, trivial⟩
      case start => exact HST
      case walk =>
        refine stage_grows rfl (fun V m hS hl => by
            go_simp
            exact ⟨.of_below (below_new V _) hS.out.size, RowL.new V hS.out.size, hS.out.trans ((below_new V _).mono hS.out.size)⟩) (fun v48 => ?_)
        simp only [Act.put, List.setIfInBounds_toArray, List.set_cons_zero, List.set_cons_succ, List.cons_append, List.nil_append]
        refine stage_pure rfl (fun V => Grew.refl V) (fun V m hS hl => by go_simp) ?_
        simp only [Act.put, List.setIfInBounds_toArray, List.set_cons_zero, List.set_cons_succ, List.cons_append, List.nil_append]
        refine stage_grows rfl (fun V m hS hl => by
            obtain ⟨v', V', hr, h1, h2⟩ := app_row (c := cap0) (n := 0) (m := nk) (hl.1 (by kernel_rfl)) hS.out.size (by have := HLL.out; omega) (by have := HLL.out; omega) (HRD.out V hS.out) 22
            rw [exec_append rfl rfl rfl hr]
            exact ⟨h2, by rw [Nat.zero_add] at h1; exact h1, hS.out.trans h2.below⟩) (fun v50 => ?_)
        simp only [Act.put, List.setIfInBounds_toArray, List.set_cons_zero, List.set_cons_succ, List.cons_append, List.nil_append]
        refine stage_pure rfl (fun V => Grew.refl V) (fun V m hS hl => by go_simp) ?_
        simp only [Act.put, List.setIfInBounds_toArray, List.set_cons_zero, List.set_cons_succ, List.cons_append, List.nil_append]
        refine stage_grows rfl (fun V m hS hl => by
            obtain ⟨v', V', hr, h1, h2⟩ := app_noughts (n := nk) (m := n) (hl.2.1 (by kernel_rfl)) hS.out.size (by have := HLL.out; omega) (by have := HLL.out; omega) HZR.out 22
            rw [exec_append rfl rfl rfl hr]
            exact ⟨h2, h1, hS.out.trans h2.below⟩) (fun v52 => ?_)
        simp only [Act.put, List.setIfInBounds_toArray, List.set_cons_zero, List.set_cons_succ, List.cons_append, List.nil_append]
        refine stage_pure rfl (fun V => Grew.refl V) (fun V m hS hl => by go_simp) ?_
        simp only [Act.put, List.setIfInBounds_toArray, List.set_cons_zero, List.set_cons_succ, List.cons_append, List.nil_append]
        refine stage_grows rfl (fun V m hS hl => by
            go_simp
            exact ⟨.of_below (below_new V _) hS.out.size, Built.new V [.slice a1 nx cap1], hS.out.trans ((below_new V _).mono hS.out.size)⟩) (fun v54 => ?_)
        simp only [Act.put, List.setIfInBounds_toArray, List.set_cons_zero, List.set_cons_succ, List.cons_append, List.nil_append]
        refine stage_exact rfl (fun V m hS hl => by
            go_simp
            refine Calls.mono (seal_b (xs := [.slice a1 nx cap1]) (ls := [x]) (RowL.ptv (hl.2.2.1 (by kernel_rfl)) HLL.out.symm) (hl.2.2.2.1 (by kernel_rfl)) ⟨HX0.out.grow (HGEN.out V hS.out), trivial⟩ (by have := HLL.out; have := HXL.out; simp; omega) (HLD.out.below (HGEN.out V hS.out) HW0.out)) ?_
            rintro e V' ⟨rfl, hb⟩
            exact ⟨_, rfl, .of_below hb hS.out.size, by rw [← HE.out]; simp, hS.out.trans (hb.mono hS.out.size)⟩) ?_
        simp only [Act.put, List.setIfInBounds_toArray, List.set_cons_zero, List.set_cons_succ, List.cons_append, List.nil_append]
        refine stage_pure rfl (fun V => Grew.refl V) (fun V m hS hl => by exact exec_load rfl rfl (load_b32 (HG4.out.below hS.out HG4.out.lt) HSL.out)) ?_
        simp only [Act.put, List.setIfInBounds_toArray, List.set_cons_zero, List.set_cons_succ, List.cons_append, List.nil_append]
        refine stage_pure rfl (fun V => Grew.refl V) (fun V m hS hl => by exact exec_same32 s s HSL.out rfl rfl rfl rfl) ?_
        simp only [Act.put, List.setIfInBounds_toArray, List.set_cons_zero, List.set_cons_succ, List.cons_append, List.nil_append]
        refine stage_pure rfl (fun V => Grew.refl V) (fun V m hS hl => by go_simp) ?_
        simp only [Act.put, List.setIfInBounds_toArray, List.set_cons_zero, List.set_cons_succ, List.cons_append, List.nil_append]
        refine stage_nil (fun V2 hS hF => ?_)
        have HS2 := Lib.hid (HGEN.out V2 hS.out)
        clear hS hF
        go_wp2_with fail
        go_ret
        exact ⟨rfl, HS2.out⟩

/-! ### The row's step -/
/-- The door's own heap meets the condition. -/
theorem door_met (os : Os) (args : Array Value) : laidMetH Tryd.prog [("flume/mac.first", Rows.laid_flume_mac_first), ("flume/mac.rounds", Rows.laid_flume_mac_rounds)] ((World.doorLaid Tryd.prog 400 os).forCall (fun _ _ => 0) ⟨#[], args, []⟩).memory :=
  laidMetH_of_parts3 (fuel := 8) (laidMet_of_run' 8 (by kernel_rfl) (by kernel_rfl)) (by kernel_rfl) (by kernel_rfl)
set_option maxRecDepth 100000 in
theorem lifted (os : Os) (started : os.Started) (H : Type) (enc : TypeId × Value → H) :
    ReturnsInHanded {} Tryd.checked os 4 .any (fun w args => (Rows.macKeysSpec.pre enc Tryd.prog Tryd.f4 [] false w args ∧ laidMetH Tryd.prog [("flume/mac.first", Rows.laid_flume_mac_first), ("flume/mac.rounds", Rows.laid_flume_mac_rounds)] w) ∧ sizedMet enc Tryd.prog Tryd.f4 (OpenSpec.ofChange Rows.macKeysSpec) false w args)
      (Rows.macKeysSpec.post enc Tryd.prog Tryd.f4 false true false false) := by
  refine returnsInHanded_of_change_and (C := Tryd.checked) (X := fun w _ => laidMetH Tryd.prog [("flume/mac.first", Rows.laid_flume_mac_first), ("flume/mac.rounds", Rows.laid_flume_mac_rounds)] w) (fun _ _ _ hh h => h.of_heap hh) own started (by kernel_rfl) Tryd.func4
    (ChangeSpec.witness_shaped (enc := enc) (C := Tryd.checked) (os := os) (X := fun w _ => laidMetH Tryd.prog [("flume/mac.first", Rows.laid_flume_mac_first), ("flume/mac.rounds", Rows.laid_flume_mac_rounds)] w) false (World.doorLaid Tryd.prog 400 os) #[.slice none 0 0, .slice none 0 0, .int .i64 0] 8 rfl (World.shaped_of_RefB (by kernel_rfl) (by kernel_rfl)) (by kernel_rfl) (by kernel_rfl) (by kernel_rfl) (door_met os _)) ?_
  intro W base args ds gs before hval0 hW _ _ hL _
  have hval : ∀ (j : Nat) t v, Tryd.f4.params[j]? = some t → args[j]? = some v → Value.okWide Tryd.prog W .any base t v := hval0
  have hW' := hW
  obtain ⟨p, q, hA0, hV, rfl, hfz, hnd⟩ := hW
  have hA : DataW.TrodAll enc Tryd.prog W 0 (fun _ => true) true Tryd.f4.params.toList args.toList ds p := hA0
  rw [Tryd.params4] at hA hval
  obtain ⟨v0, vs0, d0, ds0, p0, q0, hargs, rfl, rfl, h0, r0⟩ := trodAll_cons hA
  obtain ⟨v1, vs1, d1, ds1, p1, q1, rfl, rfl, rfl, h1, r1⟩ := trodAll_cons r0
  obtain ⟨v2, vs2, d2, ds2, p2, q2, rfl, rfl, rfl, h2, r2⟩ := trodAll_cons r1
  obtain ⟨rfl, rfl, rfl⟩ := trodAll_nil r2
  obtain rfl : args = #[v0, v1, v2] := by cases args; simp_all
  obtain ⟨rfl, rfl⟩ := trodVars_none hV
  obtain ⟨a0, len0, cap0, rfl⟩ := okWide_slice Tryd.underlying22 (hval 0 22 v0 rfl rfl)
  have k0 := h0
  have lt0 : ∀ x ∈ p0, x.block < W.heap.size := by obtain ⟨m, hm⟩ := k0; exact DataW.trod_lt m _ _ _ hm
  obtain ⟨z0, w0⟩ : ∃ zs, IsRow .u8 W a0 len0 cap0 zs := by
    obtain ⟨fuel, hf⟩ := h0
    rcases open_ints Tryd.underlying22 Tryd.underlying5 (by kernel_rfl) hf with ⟨hcs, _⟩ | ⟨x, l, c, zs, hcs, _, hl, hm, hz, _, hcell, hwz⟩
    · simp [Value.cells] at hcs
      obtain ⟨rfl, rfl, rfl⟩ := hcs
      exact ⟨[], .inl ⟨rfl, rfl, rfl, rfl⟩⟩
    · simp [Value.cells] at hcs
      obtain ⟨rfl, rfl, rfl⟩ := hcs
      exact ⟨zs, .inr ⟨_, rfl, hl, hm, by simpa using hz, hcell, hwz⟩⟩
  obtain ⟨a1, len1, cap1, rfl⟩ := okWide_slice Tryd.underlying22 (hval 1 22 v1 rfl rfl)
  have k1 := h1
  have lt1 : ∀ x ∈ p1, x.block < W.heap.size := by obtain ⟨m, hm⟩ := k1; exact DataW.trod_lt m _ _ _ hm
  obtain ⟨z1, w1⟩ : ∃ zs, IsRow .u8 W a1 len1 cap1 zs := by
    obtain ⟨fuel, hf⟩ := h1
    rcases open_ints Tryd.underlying22 Tryd.underlying5 (by kernel_rfl) hf with ⟨hcs, _⟩ | ⟨x, l, c, zs, hcs, _, hl, hm, hz, _, hcell, hwz⟩
    · simp [Value.cells] at hcs
      obtain ⟨rfl, rfl, rfl⟩ := hcs
      exact ⟨[], .inl ⟨rfl, rfl, rfl, rfl⟩⟩
    · simp [Value.cells] at hcs
      obtain ⟨rfl, rfl, rfl⟩ := hcs
      exact ⟨zs, .inr ⟨_, rfl, hl, hm, by simpa using hz, hcell, hwz⟩⟩
  obtain ⟨a2, rfl, rfl, rfl, w2⟩ := open_int Tryd.underlying3 (hval 2 3 v2 rfl rfl) h2
  clear hA0 hval0
  refine (walk a0 len0 cap0 z0 a1 len1 cap1 z1 a2 W (Sha.laid_of hL) w0 w1 w2).mono fun e W' ⟨he, bel⟩ => ?_
  subst he
  exact ⟨_, rfl, _, _, _, [], _, [], hW', trodAll_mk1 (shut_bool Tryd.underlying4 _), (trodAll_cons_mk (Below.trod laidOut (by kernel_rfl) (of_decide_eq_true (by kernel_rfl)) k0 bel lt0) (trodAll_cons_mk (Below.trod laidOut (by kernel_rfl) (of_decide_eq_true (by kernel_rfl)) k1 bel lt1) (trodAll_cons_mk (shut_int Tryd.underlying3 w2) trodAll_mk0))), rfl, bel.frame _, fun h => by cases h⟩

theorem over : Rows.macKeysRow.holds Tryd.pinned (OpenSpec.ofChange Rows.macKeysSpec) :=
  OpenClaim.holds_of_wide 4 Tryd.f4 rfl rfl rfl rfl rfl rfl rfl ⟨rfl, rfl, rfl, rfl, rfl⟩ rfl rfl rfl rfl rfl (by kernel_rfl) Tryd.func4 (by kernel_rfl)
    (of_decide_eq_true (by kernel_rfl)) (by unfold Func.isWrapper; first | (rw [if_pos (by decide +kernel)]; kernel_rfl) | (rw [if_neg (by decide +kernel)]; exact ⟨rfl, rfl⟩))
    (fun os started H enc _ => lifted os started H enc)

theorem proved : Rows.MacKeysCardSaid :=
  Claim7.holds_tied_plain_at .later [] [.data, .data] true (true, "548818a11e97416bfe589dd3bef04e86a870f7a0f927cf50379a9f55926b0257") false
    over (fun _ h => by cases h) (by kernel_rfl) (fun _ h => by cases h) macKeys_row_tie rfl ⟨rfl, rfl⟩ (by kernel_rfl) rfl
    (fun f fn hf hfn => by
      obtain rfl : f = 4 := Option.some.inj ((show Tryd.prog.funcNamed "flume/flumelaw08.MacKeys" = some 4 by kernel_rfl).symm.trans hf) |>.symm
      obtain rfl : fn = Tryd.f4 := (Option.some.inj (Tryd.func4.symm.trans hfn)).symm
      exact ⟨by kernel_rfl, fun j t ht => by
        rw [Tryd.params4] at ht
        have hm : t ∈ [22, 22, 3] := by simpa using Array.mem_of_getElem? ht
        have hall : ([22, 22, 3].all fun u => !Tryd.prog.wantsStandIn u) = true := by kernel_rfl
        exact (show Tryd.prog.wantsStandIn t = false by simpa using List.all_eq_true.1 hall t hm)⟩)
    (by kernel_rfl)
#print axioms proved
end Go.Proofs.YtlmljmlddecnmaaDoor.macKeys
