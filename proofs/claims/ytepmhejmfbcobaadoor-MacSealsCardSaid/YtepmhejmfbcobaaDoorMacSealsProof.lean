/-
  PROVED: MacSeals of flumelaw08 answers true for every input, and its arguments read afterwards as before. CONDITIONS: none beside the form's own.
-/
import Derived.Test.YtepmhejmfbcobaaDoorRows
import Derived.Test.YtepmhejmfbcobaaDoorMacR4
import Derived.Test.YtepmhejmfbcobaaDoorMacLaid
import Derived.Test.YtepmhejmfbcobaaDoorCards
import Derived.Test.YtepmhejmfbcobaaDoorTie
import Derived.SevenTiedAt
import Derived.WalkKit
import Derived.ProofKit
import Derived.OpenShut
import Derived.ShutString
import Derived.ChangeOld
import Derived.Below
namespace Go.Proofs.YtepmhejmfbcobaaDoor.macSeals
open Go.ChangeShapes Go.WideShapes Go.ChangeAt Go.RowKit
open Go.ChangeMaps (open_string shut_string)
set_option linter.unusedVariables false
set_option linter.unusedSimpArgs false

theorem own : ownKnob Tryd.prog.godebug = none := by kernel_rfl
theorem laidOut : laidOutB Tryd.prog = true := by kernel_rfl

/-- What the walk is told of a slice of integers that came in. -/
def IsRow (k : IntKind) (w : World) (a : Option Addr) (len cap : Nat) (zs : List Int) : Prop :=
  (a = none ∧ len = 0 ∧ cap = 0 ∧ zs = []) ∨
  ∃ x, a = some x ∧ len ≤ cap ∧ cap ≤ maxLen ∧ zs.length = cap ∧ (∀ i, i < zs.length → w.cell? (x.add i) = some (.int k (zs.getD i 0))) ∧ ∀ n ∈ zs, (Lit.int k n).wf = true

/-! ### The walk -/
open Words Sha
set_option maxHeartbeats 4000000 in
theorem walk (a0 : Option Addr) (len0 cap0 : Nat) (z0 : List Int) (a1 : Option Addr) (len1 cap1 : Nat) (z1 : List Int) (a2 : Int) (w : World) (hLaid : Sha.Laid w) (w0 : IsRow .u8 w a0 len0 cap0 z0) (w1 : IsRow .u8 w a1 len1 cap1 z1) (w2 : (Lit.int .i64 a2).wf = true) :
    Calls Tryd.prog 3 #[.slice a0 len0 cap0, .slice a1 len1 cap1, .int .i64 a2] w fun e w' => e = .returned (.bool true) ∧ Below w.heap.size w w' := by
  obtain ⟨k0, hk, hkc, hk63, hkb⟩ := bytes_of w0
  obtain ⟨x0, hx, hxc, hx63, hxb⟩ := bytes_of w1
  obtain ⟨nk, hnk⟩ : ∃ n : Nat, n = min len0 400 := ⟨_, rfl⟩
  obtain ⟨nx, hnx⟩ : ∃ n : Nat, n = min len1 800 := ⟨_, rfl⟩
  obtain ⟨k, hkk⟩ : ∃ l, l = k0.take nk := ⟨_, rfl⟩
  obtain ⟨x, hxx⟩ : ∃ l, l = x0.take nx := ⟨_, rfl⟩
  have hnk1 : nk ≤ cap0 ∧ nk ≤ 400 := by omega
  have hnx1 : nx ≤ cap1 ∧ nx ≤ 800 := by omega
  have HKL : Hid (nk = k.length) := by show nk = k.length; rw [hkk, List.length_take]; omega
  have HXL : Hid (nx = x.length) := by show nx = x.length; rw [hxx, List.length_take]; omega
  have HBK : Hid (Byt w w.heap.size a0 k) := by show Byt _ _ _ _; rw [hkk]; exact Reads.take_ hkb nk
  have HBX : Hid (Byt w w.heap.size a1 x) := by show Byt _ _ _ _; rw [hxx]; exact Reads.take_ hxb nx
  have hmin0 : ∀ W : World, (Builtin.min_ #[3, 3] 3 #[.int .i64 (len0 : Int), .int .i64 400]).run Tryd.prog W = .ok (.int .i64 (nk : Int)) W := fun W => by
    rw [run_min_int2, show (nk : Int) = if (400 : Int) < (len0 : Int) then 400 else (len0 : Int) by split <;> omega]
  have hmin1 : ∀ W : World, (Builtin.min_ #[3, 3] 3 #[.int .i64 (len1 : Int), .int .i64 800]).run Tryd.prog W = .ok (.int .i64 (nx : Int)) W := fun W => by
    rw [run_min_int2, show (nx : Int) = if (800 : Int) < (len1 : Int) then 800 else (len1 : Int) by split <;> omega]
  obtain ⟨q, hq, hqb⟩ := u64rem a2 ((nx : Int) + 1) (by omega) (by omega)
  have HQ := Lib.hid hq
  have hqx : q ≤ nx := by omega
  have H63 : Hid (cap1 ≤ 9223372036854775807) := hx63
  have HLD := Lib.hid hLaid
  clear w0 w1 hk hx hkc hxc hkb hxb hLaid hkk hxx hnk hnx hq hqb
  obtain ⟨hnk1, hnk2⟩ := hnk1
  obtain ⟨hnx1, hnx2⟩ := hnx1
  obtain ⟨i0, hi0, hz0, hz1, hz2⟩ := info_parts3 u8_info
  go_enter Tryd.func3, Tryd.ntmps3
  go_wp2_with fail
  refine (first_any w HLD.out).mono ?_
  rintro e W1 ⟨rfl, hb1⟩
  have HB1 := Lib.hid hb1
  clear hb1
  go_wp2_with fail
  go_cut [7, 8] from 15 to 24 (fun s7 s8 wx => s7 = .slice a0 nk cap0 ∧ s8 = .slice a1 nx cap1 ∧ Hid (Below W1.heap.size W1 wx))
  case first =>
    have HD : Hid (Below W1.heap.size W1 W1.drew) := Below.drew (Below.refl _ _)
    go_region
    all_goals
      go_wp2_with fail
      go_meet
      exact ⟨rfl, rfl, HD⟩
  case rest =>
    obtain ⟨rfl, rfl, hb2⟩ := hcut
    have HBc : Hid (Below w.heap.size w wc) := HB1.out.trans (hb2.out.mono HB1.out.size)
    have HW0 : Hid (2 ≤ w.heap.size) := HLD.out.size
    have HE := Lib.hid (own_empty wc 5)
    have HRK : Hid (Reads (wc.alloc (.cells #[] 5)) w.heap.size 1 a0 nk (u8s k)) := by
      show Reads _ _ _ _ _ _
      rw [HKL.out]
      exact Reads.alloc (HBK.out.below HBc.out) HBc.out.size _
    clear hb2 hmin0 hmin1 HB1
    go_wp2_with (at_builtin; refine wpList_append_any _ rfl (.tmp 25) (.tmp 26) _ rfl wc.heap.size 5 i0 _ 1 1 Tryd.underlying22 hi0 hz0 hz1 hz2 rfl (by omega) (.slice (some ⟨wc.heap.size, 0, none⟩) 0 0) 0 [] rfl HE.out w.heap.size a0 nk cap0 (u8s k) rfl HRK.out (u8s_one k) (by simp only [maxLen]; omega) (by omega) (by simp) ?_)
    intro v1 W2 hown1 hg1 _
    have hb2 := below_app hg1
    have HB2 : Hid (Below w.heap.size w W2) := HBc.out.trans (hb2.mono HBc.out.size)
    have HO2 : Hid (PtV W2 W2.heap.size v1 k) := ptv_of_own hown1 HKL.out
    obtain ⟨A1, n1, c1, hv1, hn1, _⟩ := HO2.out
    rw [← HKL.out] at hn1
    rw [hn1] at hv1
    subst hv1
    clear hown1 hg1 hb2 HE HRK HBc hi0 hz0 hz1 hz2
    go_wp2_with fail
    rw [HQ.out]
    clear HQ w2
    obtain ⟨A2, hA2⟩ : ∃ A, A = if cap1 = q then a1 else a1.map (·.add q) := ⟨_, rfl⟩
    obtain ⟨n2, hn2⟩ : ∃ n, n = nx - q := ⟨_, rfl⟩
    obtain ⟨c2, hc2⟩ : ∃ n, n = cap1 - q := ⟨_, rfl⟩
    obtain ⟨xa, hxa⟩ : ∃ l, l = x.take q := ⟨_, rfl⟩
    obtain ⟨xb, hxb⟩ : ∃ l, l = x.drop q := ⟨_, rfl⟩
    have HXAB : Hid (xa ++ xb = x) := by show _ = _; rw [hxa, hxb, List.take_append_drop]
    have HPA : Hid (PtV w w.heap.size (.slice a1 q cap1) xa) := .mk (by rw [hxa, List.length_take, ← HXL.out]; omega) (by omega) H63.out (by rw [hxa]; exact Reads.take_ HBX.out q)
    have HPB : Hid (PtV w w.heap.size (.slice A2 n2 c2) xb) := .mk (by rw [hxb, hn2, List.length_drop, ← HXL.out]) (by omega) (by have := H63.out; omega) (by rw [hxb, hA2]; exact Reads.cut_ HBX.out (by rw [← HXL.out]; omega) (by rw [← HXL.out]; omega))
    have HCUT := Lib.hid (And.intro hA2 (And.intro hn2 hc2))
    have HQX := Lib.hid hqx
    have HXC := Lib.hid hnx1
    clear hA2 hn2 hc2 hxa hxb
    obtain ⟨s, hs⟩ : ∃ s, s = seal_ k x := ⟨_, rfl⟩
    have HSL : Hid (s.length = 32) := by show s.length = 32; rw [hs]; exact seal_length _ _
    have HSS := Lib.hid hs
    have HSM : Hid (k.length ≤ 400 ∧ x.length ≤ 800 ∧ xa.length + xb.length ≤ 800) := by
      have h1 := HKL.out
      have h2 := HXL.out
      have h3 := congrArg List.length HXAB.out
      rw [List.length_append] at h3
      show _ ∧ _
      omega
    clear hs
    have HGEN : Hid (∀ V, Below W2.heap.size W2 V → Below w.heap.size w V) := fun V h => HB2.out.trans (h.mono HB2.out.size)
    have HST : Hid (Below W2.heap.size W2 W2.drew) := Below.drew (Below.refl _ _)
    refine wp_region_stage_tail 10 (fun _ V V' => Below V.heap.size V V') (fun m V => Hid (Below W2.heap.size W2 V)) [(false, .exact (.slice A1 nk c1)),
        (false, .exact (.slice a1 nx cap1)),
        (false, .exact (.int .i64 (q : Int))),
        (false, .exact (.slice a1 q cap1)),
        (false, .exact (.slice a1 nx cap1)),
        (false, .exact (.int .i64 (q : Int))),
        (false, .exact (.slice A2 n2 c2)),
        (false, .grows (Built [.slice a1 q cap1, .slice A2 n2 c2])),
        (false, .exact (.agg (Sha.V s))),
        (false, .grows (Zro W2.heap.size))] (by kernel_rfl) (by kernel_rfl) (by kernel_rfl) rfl (of_decide_eq_true (by kernel_rfl)) (by kernel_rfl) (by kernel_rfl) ?lasts ?start ?walk
    case lasts => exact ⟨fun m v V V' _ h k => h.below k, fun m v V V' _ h k => h.below k, trivial⟩
    case start => exact HST
    case walk =>
      simp only [List.take_succ_cons, List.take_zero, List.drop_succ_cons, List.drop_zero]
      refine stageT_pure rfl (fun _ V => Below.refl _ V) (fun V m hS hl => by go_simp) ?_
      simp only [Act.put, List.setIfInBounds_toArray, List.set_cons_zero, List.set_cons_succ, List.cons_append, List.nil_append]
      refine stageT_pure rfl (fun _ V => Below.refl _ V) (fun V m hS hl => by go_simp) ?_
      simp only [Act.put, List.setIfInBounds_toArray, List.set_cons_zero, List.set_cons_succ, List.cons_append, List.nil_append]
      refine stageT_pure rfl (fun _ V => Below.refl _ V) (fun V m hS hl => by go_simp) ?_
      simp only [Act.put, List.setIfInBounds_toArray, List.set_cons_zero, List.set_cons_succ, List.cons_append, List.nil_append]
      refine stageT_pure rfl (fun _ V => Below.refl _ V) (fun V m hS hl => by exact exec_upto rfl rfl rfl (Nat.le_trans HQX.out HXC.out)) ?_
      simp only [Act.put, List.setIfInBounds_toArray, List.set_cons_zero, List.set_cons_succ, List.cons_append, List.nil_append]
      refine stageT_pure rfl (fun _ V => Below.refl _ V) (fun V m hS hl => by go_simp) ?_
      simp only [Act.put, List.setIfInBounds_toArray, List.set_cons_zero, List.set_cons_succ, List.cons_append, List.nil_append]
      refine stageT_pure rfl (fun _ V => Below.refl _ V) (fun V m hS hl => by go_simp) ?_
      simp only [Act.put, List.setIfInBounds_toArray, List.set_cons_zero, List.set_cons_succ, List.cons_append, List.nil_append]
      refine stageT_pure rfl (fun _ V => Below.refl _ V) (fun V m hS hl => by exact exec_from rfl rfl rfl HQX.out HCUT.out.1 HCUT.out.2.1 HCUT.out.2.2) ?_
      simp only [Act.put, List.setIfInBounds_toArray, List.set_cons_zero, List.set_cons_succ, List.cons_append, List.nil_append]
      refine stageT_grows rfl (fun V m hS hl => by
          go_simp
          exact ⟨below_new V _, Built.new V [.slice a1 q cap1, .slice A2 n2 c2], hS.out.trans ((below_new V _).mono hS.out.size)⟩) (fun v43 => ?_)
      simp only [Act.put, List.setIfInBounds_toArray, List.set_cons_zero, List.set_cons_succ, List.cons_append, List.nil_append]
      refine stageT_exact rfl (fun V m hS hl => by
          go_simp
          refine Calls.mono (seal_b (xs := [.slice a1 q cap1, .slice A2 n2 c2]) (ls := [xa, xb]) (HO2.out.grow hS.out) (hl.1 (by kernel_rfl)) ⟨HPA.out.grow (HGEN.out V hS.out), HPB.out.grow (HGEN.out V hS.out), trivial⟩ (by have := HSM.out; simp; omega) (HLD.out.below (HGEN.out V hS.out) HW0.out)) ?_
          rintro e V' ⟨rfl, hb⟩
          exact ⟨_, rfl, hb, by rw [HSS.out, ← HXAB.out]; simp, hS.out.trans (hb.mono hS.out.size)⟩) ?_
      simp only [Act.put, List.setIfInBounds_toArray, List.set_cons_zero, List.set_cons_succ, List.cons_append, List.nil_append]
      refine stageT_grows rfl (fun V m hS hl => by
          show Words.Leaves _ _ _
          rw [exec_alloc32 rfl]
          exact ⟨below_new V _, Zro.new hS.out.size, hS.out.trans ((below_new V _).mono hS.out.size)⟩) (fun v11 => ?_)
      simp only [Act.put, List.setIfInBounds_toArray, List.set_cons_zero, List.set_cons_succ, List.cons_append, List.nil_append]
      refine stageT_nil (fun V2 hS hF => ?_)
      have hF2 : Built [.slice a1 q cap1, .slice A2 n2 c2] v43 V2 ∧ Zro W2.heap.size v11 V2 ∧ True := hF
      obtain ⟨G, rfl, hGB, hGZ⟩ := hF2.2.1
      have HS2 := Lib.hid hS.out
      clear hS hF HST
      show wpList _ _ _ _ _ _
      obtain ⟨W4, hW4⟩ : ∃ W4, W4 = V2.setRow G (Sha.V s) := ⟨_, rfl⟩
      have HG4 : Hid (Blk W4 G 25 (Sha.V s)) := by show Blk _ _ _ _; rw [hW4]; exact setRow_heap _ _ _ _ _ _ hGZ
      have HB4 : Hid (Below W2.heap.size W2 W4) := by show Below _ _ _; rw [hW4]; exact below_setRow HS2.out hGB _
      have HW4 := Lib.hid hW4
      have HGZ := Lib.hid hGZ
      clear hW4 hGZ hF2 hGB
      go_wp2_with (refine wpList_restore32 rfl _ _ rfl rfl rfl HGZ.out HSL.out (zb_length 32) ?_; rw [← HW4.out])
      obtain ⟨h, hh⟩ : ∃ h, h = Sha.hash x := ⟨_, rfl⟩
      have HHL : Hid (h.length = 32) := by show h.length = 32; rw [hh]; exact hash_length _
      have HHH := Lib.hid hh
      clear hh HW4 HGZ HS2
      have HST : Hid (Below W4.heap.size W4 W4.drew) := Below.drew (Below.refl _ _)
      have HGN4 : Hid (∀ V, Below W4.heap.size W4 V → Below w.heap.size w V) := fun V h => HGEN.out V (HB4.out.trans (h.mono HB4.out.size))
      refine wp_region_stage_tail 9 (fun _ V V' => Below V.heap.size V V') (fun m V => Hid (Below W4.heap.size W4 V)) [(false, .exact (.slice a1 nx cap1)),
          (false, .exact (.int .i64 (q : Int))),
          (false, .exact (.slice a1 q cap1)),
          (false, .exact (.slice a1 nx cap1)),
          (false, .exact (.int .i64 (q : Int))),
          (false, .exact (.slice A2 n2 c2)),
          (false, .grows (Built [.slice a1 q cap1, .slice none 0 0, .slice A2 n2 c2])),
          (false, .exact (.agg (Sha.V h))),
          (false, .grows (Zro W4.heap.size))] (by kernel_rfl) (by kernel_rfl) (by kernel_rfl) rfl (of_decide_eq_true (by kernel_rfl)) (by kernel_rfl) (by kernel_rfl) ?lasts ?start ?walk
      case lasts => exact ⟨fun m v V V' _ h k => h.below k, fun m v V V' _ h k => h.below k, trivial⟩
      case start => exact HST
      case walk =>
        simp only [List.take_succ_cons, List.take_zero, List.drop_succ_cons, List.drop_zero]
        refine stageT_pure rfl (fun _ V => Below.refl _ V) (fun V m hS hl => by go_simp) ?_
        simp only [Act.put, List.setIfInBounds_toArray, List.set_cons_zero, List.set_cons_succ, List.cons_append, List.nil_append]
        refine stageT_pure rfl (fun _ V => Below.refl _ V) (fun V m hS hl => by go_simp) ?_
        simp only [Act.put, List.setIfInBounds_toArray, List.set_cons_zero, List.set_cons_succ, List.cons_append, List.nil_append]
        refine stageT_pure rfl (fun _ V => Below.refl _ V) (fun V m hS hl => by exact exec_upto rfl rfl rfl (Nat.le_trans HQX.out HXC.out)) ?_
        simp only [Act.put, List.setIfInBounds_toArray, List.set_cons_zero, List.set_cons_succ, List.cons_append, List.nil_append]
        refine stageT_pure rfl (fun _ V => Below.refl _ V) (fun V m hS hl => by go_simp) ?_
        simp only [Act.put, List.setIfInBounds_toArray, List.set_cons_zero, List.set_cons_succ, List.cons_append, List.nil_append]
        refine stageT_pure rfl (fun _ V => Below.refl _ V) (fun V m hS hl => by go_simp) ?_
        simp only [Act.put, List.setIfInBounds_toArray, List.set_cons_zero, List.set_cons_succ, List.cons_append, List.nil_append]
        refine stageT_pure rfl (fun _ V => Below.refl _ V) (fun V m hS hl => by exact exec_from rfl rfl rfl HQX.out HCUT.out.1 HCUT.out.2.1 HCUT.out.2.2) ?_
        simp only [Act.put, List.setIfInBounds_toArray, List.set_cons_zero, List.set_cons_succ, List.cons_append, List.nil_append]
        refine stageT_grows rfl (fun V m hS hl => by
            go_simp
            exact ⟨below_new V _, Built.new V [.slice a1 q cap1, .slice none 0 0, .slice A2 n2 c2], hS.out.trans ((below_new V _).mono hS.out.size)⟩) (fun v51 => ?_)
        simp only [Act.put, List.setIfInBounds_toArray, List.set_cons_zero, List.set_cons_succ, List.cons_append, List.nil_append]
        refine stageT_exact rfl (fun V m hS hl => by
            go_simp
            refine Calls.mono (hash_b (xs := [.slice a1 q cap1, .slice none 0 0, .slice A2 n2 c2]) (ls := [xa, [], xb]) (hl.1 (by kernel_rfl)) ⟨HPA.out.grow (HGN4.out V hS.out), PtV.nil _ _, HPB.out.grow (HGN4.out V hS.out), trivial⟩ (by have := HSM.out; simp; omega) (HLD.out.below (HGN4.out V hS.out) HW0.out)) ?_
            rintro e V' ⟨rfl, hb⟩
            exact ⟨_, rfl, hb, by rw [HHH.out, ← HXAB.out]; simp, hS.out.trans (hb.mono hS.out.size)⟩) ?_
        simp only [Act.put, List.setIfInBounds_toArray, List.set_cons_zero, List.set_cons_succ, List.cons_append, List.nil_append]
        refine stageT_grows rfl (fun V m hS hl => by
            show Words.Leaves _ _ _
            rw [exec_alloc32 rfl]
            exact ⟨below_new V _, Zro.new hS.out.size, hS.out.trans ((below_new V _).mono hS.out.size)⟩) (fun v12 => ?_)
        simp only [Act.put, List.setIfInBounds_toArray, List.set_cons_zero, List.set_cons_succ, List.cons_append, List.nil_append]
        refine stageT_nil (fun V3 hS hF => ?_)
        have hF2 : Built [.slice a1 q cap1, .slice none 0 0, .slice A2 n2 c2] v51 V3 ∧ Zro W4.heap.size v12 V3 ∧ True := hF
        obtain ⟨G2, rfl, hGB, hGZ⟩ := hF2.2.1
        have HS3 := Lib.hid hS.out
        clear hS hF HST
        show wpList _ _ _ _ _ _
        obtain ⟨W5, hW5⟩ : ∃ W5, W5 = V3.setRow G2 (Sha.V h) := ⟨_, rfl⟩
        have HH5 : Hid (Blk W5 G2 25 (Sha.V h)) := by show Blk _ _ _ _; rw [hW5]; exact setRow_heap _ _ _ _ _ _ hGZ
        have hb45 : Below W4.heap.size W4 W5 := by rw [hW5]; exact below_setRow HS3.out hGB _
        have HG5 : Hid (Blk W5 G 25 (Sha.V s)) := HG4.out.below hb45 HG4.out.lt
        have HB5 : Hid (Below W2.heap.size W2 W5) := HB4.out.trans (hb45.mono HB4.out.size)
        have HW5 := Lib.hid hW5
        have HGG := Lib.hid hGZ
        clear hW5 hGZ hF2 hGB hb45
        go_wp2_with (refine wpList_restore32 rfl _ _ rfl rfl rfl HGG.out HHL.out (zb_length 32) ?_; rw [← HW5.out])
        clear HW5 HGG HS3 HGN4 HG4 HB4
        have HST : Hid (Below W5.heap.size W5 W5.drew) := Below.drew (Below.refl _ _)
        have HGN5 : Hid (∀ V, Below W5.heap.size W5 V → Below w.heap.size w V) := fun V h => HGEN.out V (HB5.out.trans (h.mono HB5.out.size))
        have HOB : Hid (∀ V, Below W5.heap.size W5 V → Byt V V.heap.size A1 k) := fun V hV => by
          obtain ⟨_, _, _, e, _, _, _, h⟩ := HO2.out.grow (HB5.out.trans (hV.mono HB5.out.size))
          cases e
          exact h
        obtain ⟨bb, hbb⟩ : ∃ b, b = decide (s = h) := ⟨_, rfl⟩
        have HBB := Lib.hid hbb
        clear hbb
        refine wp_region_stage (fun V V' => Below V.heap.size V V') (fun m V => Hid (Below W5.heap.size W5 V)) [(false, .exact (.slice A1 nk c1)),
            (false, .exact (.string ⟨k.toArray⟩)),
            (false, .exact (.slice a0 nk cap0)),
            (false, .exact (.string ⟨k.toArray⟩)),
            (false, .exact (.bool true)),
            (false, .exact (.bool true)),
            (false, .exact (.agg (Sha.V s))),
            (false, .exact (.slice a0 nk cap0)),
            (false, .exact (.slice a1 nx cap1)),
            (false, .exact (.agg (Sha.V s))),
            (false, .exact (.bool true)),
            (false, .exact (.bool true)),
            (false, .exact (.bool true)),
            (false, .exact (.agg (Sha.V h))),
            (false, .exact (.slice a1 nx cap1)),
            (false, .exact (.agg (Sha.V h))),
            (false, .exact (.bool true)),
            (false, .exact (.bool true)),
            (false, .exact (.bool true)),
            (false, .exact (.agg (Sha.V s))),
            (false, .exact (.slice a0 nk cap0)),
            (false, .exact (.slice a1 nx cap1)),
            (false, .exact (.agg (Sha.V s))),
            (false, .exact (.bool true)),
            (false, .exact (.bool true)),
            (false, .exact (.bool true)),
            (false, .exact (.agg (Sha.V s))),
            (false, .exact (.agg (Sha.V h))),
            (false, .exact (.bool bb)),
            (false, .exact (.agg (Sha.V s))),
            (false, .exact (.agg (Sha.V h))),
            (false, .exact (.bool bb)),
            (false, .exact (.bool true)),
            (false, .exact (.bool true)),
            (false, .exact (.bool true))] (by kernel_rfl) (by kernel_rfl) (by kernel_rfl) rfl ?lasts ?start ?walk
        case lasts => exact trivial
        case start => exact HST
        case walk =>
          refine stage_pure rfl (fun V => Below.refl _ V) (fun V m hS hl => by go_simp) ?_
          simp only [Act.put, List.setIfInBounds_toArray, List.set_cons_zero, List.set_cons_succ, List.cons_append, List.nil_append]
          refine stage_pure rfl (fun V => Below.refl _ V) (fun V m hS hl => by
              have hcv := run_str (P := Tryd.prog) (HOB.out V hS.out) 22 9 5 Tryd.underlying22 Tryd.underlying5 Tryd.underlying9 nk c1 HKL.out
              go_simp) ?_
          simp only [Act.put, List.setIfInBounds_toArray, List.set_cons_zero, List.set_cons_succ, List.cons_append, List.nil_append]
          refine stage_pure rfl (fun V => Below.refl _ V) (fun V m hS hl => by go_simp) ?_
          simp only [Act.put, List.setIfInBounds_toArray, List.set_cons_zero, List.set_cons_succ, List.cons_append, List.nil_append]
          refine stage_pure rfl (fun V => Below.refl _ V) (fun V m hS hl => by
              have hcv := run_str (P := Tryd.prog) (HBK.out.below (HGN5.out V hS.out)) 22 9 5 Tryd.underlying22 Tryd.underlying5 Tryd.underlying9 nk cap0 HKL.out
              go_simp) ?_
          simp only [Act.put, List.setIfInBounds_toArray, List.set_cons_zero, List.set_cons_succ, List.cons_append, List.nil_append]
          refine stage_pure rfl (fun V => Below.refl _ V) (fun V m hS hl => by go_simp) ?_
          simp only [Act.put, List.setIfInBounds_toArray, List.set_cons_zero, List.set_cons_succ, List.cons_append, List.nil_append]
          refine stage_pure rfl (fun V => Below.refl _ V) (fun V m hS hl => by go_simp) ?_
          simp only [Act.put, List.setIfInBounds_toArray, List.set_cons_zero, List.set_cons_succ, List.cons_append, List.nil_append]
          refine stage_pure rfl (fun V => Below.refl _ V) (fun V m hS hl => by exact exec_load rfl rfl (load_b32 (HG5.out.below hS.out HG5.out.lt) HSL.out)) ?_
          simp only [Act.put, List.setIfInBounds_toArray, List.set_cons_zero, List.set_cons_succ, List.cons_append, List.nil_append]
          refine stage_pure rfl (fun V => Below.refl _ V) (fun V m hS hl => by go_simp) ?_
          simp only [Act.put, List.setIfInBounds_toArray, List.set_cons_zero, List.set_cons_succ, List.cons_append, List.nil_append]
          refine stage_pure rfl (fun V => Below.refl _ V) (fun V m hS hl => by go_simp) ?_
          simp only [Act.put, List.setIfInBounds_toArray, List.set_cons_zero, List.set_cons_succ, List.cons_append, List.nil_append]
          refine stage_exact rfl (fun V m hS hl => by
              go_simp
              refine Calls.mono (rseal_any (ck := cap0) (c := cap1) HKL.out (by have := HSM.out; have := HKL.out; omega) ((HBK.out.below (HGN5.out V hS.out)).more (HGN5.out V hS.out).size) HXL.out (by have := HSM.out; have := HXL.out; omega) ((HBX.out.below (HGN5.out V hS.out)).more (HGN5.out V hS.out).size)) ?_
              rintro e V' ⟨rfl, hb⟩
              exact ⟨_, rfl, hb, by rw [HSS.out], hS.out.trans (hb.mono hS.out.size)⟩) ?_
          simp only [Act.put, List.setIfInBounds_toArray, List.set_cons_zero, List.set_cons_succ, List.cons_append, List.nil_append]
          refine stage_pure rfl (fun V => Below.refl _ V) (fun V m hS hl => by exact exec_same32 s s HSL.out rfl rfl rfl rfl) ?_
          simp only [Act.put, List.setIfInBounds_toArray, List.set_cons_zero, List.set_cons_succ, List.cons_append, List.nil_append]
          refine stage_pure rfl (fun V => Below.refl _ V) (fun V m hS hl => by go_simp) ?_
          simp only [Act.put, List.setIfInBounds_toArray, List.set_cons_zero, List.set_cons_succ, List.cons_append, List.nil_append]
          refine stage_pure rfl (fun V => Below.refl _ V) (fun V m hS hl => by go_simp) ?_
          simp only [Act.put, List.setIfInBounds_toArray, List.set_cons_zero, List.set_cons_succ, List.cons_append, List.nil_append]
          refine stage_pure rfl (fun V => Below.refl _ V) (fun V m hS hl => by exact exec_load rfl rfl (load_b32 (HH5.out.below hS.out HH5.out.lt) HHL.out)) ?_
          simp only [Act.put, List.setIfInBounds_toArray, List.set_cons_zero, List.set_cons_succ, List.cons_append, List.nil_append]
          refine stage_pure rfl (fun V => Below.refl _ V) (fun V m hS hl => by go_simp) ?_
          simp only [Act.put, List.setIfInBounds_toArray, List.set_cons_zero, List.set_cons_succ, List.cons_append, List.nil_append]
          refine stage_exact rfl (fun V m hS hl => by
              go_simp
              refine Calls.mono (rhash_any (c := cap1) HXL.out (by have := HSM.out; have := HXL.out; omega) ((HBX.out.below (HGN5.out V hS.out)).more (HGN5.out V hS.out).size)) ?_
              rintro e V' ⟨rfl, hb⟩
              exact ⟨_, rfl, hb, by rw [HHH.out], hS.out.trans (hb.mono hS.out.size)⟩) ?_
          simp only [Act.put, List.setIfInBounds_toArray, List.set_cons_zero, List.set_cons_succ, List.cons_append, List.nil_append]
          refine stage_pure rfl (fun V => Below.refl _ V) (fun V m hS hl => by exact exec_same32 h h HHL.out rfl rfl rfl rfl) ?_
          simp only [Act.put, List.setIfInBounds_toArray, List.set_cons_zero, List.set_cons_succ, List.cons_append, List.nil_append]
          refine stage_pure rfl (fun V => Below.refl _ V) (fun V m hS hl => by go_simp) ?_
          simp only [Act.put, List.setIfInBounds_toArray, List.set_cons_zero, List.set_cons_succ, List.cons_append, List.nil_append]
          refine stage_pure rfl (fun V => Below.refl _ V) (fun V m hS hl => by go_simp) ?_
          simp only [Act.put, List.setIfInBounds_toArray, List.set_cons_zero, List.set_cons_succ, List.cons_append, List.nil_append]
          refine stage_pure rfl (fun V => Below.refl _ V) (fun V m hS hl => by exact exec_load rfl rfl (load_b32 (HG5.out.below hS.out HG5.out.lt) HSL.out)) ?_
          simp only [Act.put, List.setIfInBounds_toArray, List.set_cons_zero, List.set_cons_succ, List.cons_append, List.nil_append]
          refine stage_pure rfl (fun V => Below.refl _ V) (fun V m hS hl => by go_simp) ?_
          simp only [Act.put, List.setIfInBounds_toArray, List.set_cons_zero, List.set_cons_succ, List.cons_append, List.nil_append]
          refine stage_pure rfl (fun V => Below.refl _ V) (fun V m hS hl => by go_simp) ?_
          simp only [Act.put, List.setIfInBounds_toArray, List.set_cons_zero, List.set_cons_succ, List.cons_append, List.nil_append]
          refine stage_exact rfl (fun V m hS hl => by
              go_simp
              refine Calls.mono (rseal_any (ck := cap0) (c := cap1) HKL.out (by have := HSM.out; have := HKL.out; omega) ((HBK.out.below (HGN5.out V hS.out)).more (HGN5.out V hS.out).size) HXL.out (by have := HSM.out; have := HXL.out; omega) ((HBX.out.below (HGN5.out V hS.out)).more (HGN5.out V hS.out).size)) ?_
              rintro e V' ⟨rfl, hb⟩
              exact ⟨_, rfl, hb, by rw [HSS.out], hS.out.trans (hb.mono hS.out.size)⟩) ?_
          simp only [Act.put, List.setIfInBounds_toArray, List.set_cons_zero, List.set_cons_succ, List.cons_append, List.nil_append]
          refine stage_exact rfl (fun V m hS hl => by
              go_simp
              refine Calls.mono (same_any s s HSL.out HSL.out V) ?_
              rintro e V' ⟨rfl, hb⟩
              exact ⟨_, rfl, hb, by simp, hS.out.trans (hb.mono hS.out.size)⟩) ?_
          simp only [Act.put, List.setIfInBounds_toArray, List.set_cons_zero, List.set_cons_succ, List.cons_append, List.nil_append]
          refine stage_pure rfl (fun V => Below.refl _ V) (fun V m hS hl => by go_simp) ?_
          simp only [Act.put, List.setIfInBounds_toArray, List.set_cons_zero, List.set_cons_succ, List.cons_append, List.nil_append]
          refine stage_pure rfl (fun V => Below.refl _ V) (fun V m hS hl => by go_simp) ?_
          simp only [Act.put, List.setIfInBounds_toArray, List.set_cons_zero, List.set_cons_succ, List.cons_append, List.nil_append]
          refine stage_pure rfl (fun V => Below.refl _ V) (fun V m hS hl => by exact exec_load rfl rfl (load_b32 (HG5.out.below hS.out HG5.out.lt) HSL.out)) ?_
          simp only [Act.put, List.setIfInBounds_toArray, List.set_cons_zero, List.set_cons_succ, List.cons_append, List.nil_append]
          refine stage_pure rfl (fun V => Below.refl _ V) (fun V m hS hl => by exact exec_load rfl rfl (load_b32 (HH5.out.below hS.out HH5.out.lt) HHL.out)) ?_
          simp only [Act.put, List.setIfInBounds_toArray, List.set_cons_zero, List.set_cons_succ, List.cons_append, List.nil_append]
          refine stage_exact rfl (fun V m hS hl => by
              go_simp
              refine Calls.mono (same_any s h HSL.out HHL.out V) ?_
              rintro e V' ⟨rfl, hb⟩
              exact ⟨_, rfl, hb, by rw [HBB.out], hS.out.trans (hb.mono hS.out.size)⟩) ?_
          simp only [Act.put, List.setIfInBounds_toArray, List.set_cons_zero, List.set_cons_succ, List.cons_append, List.nil_append]
          refine stage_pure rfl (fun V => Below.refl _ V) (fun V m hS hl => by exact exec_load rfl rfl (load_b32 (HG5.out.below hS.out HG5.out.lt) HSL.out)) ?_
          simp only [Act.put, List.setIfInBounds_toArray, List.set_cons_zero, List.set_cons_succ, List.cons_append, List.nil_append]
          refine stage_pure rfl (fun V => Below.refl _ V) (fun V m hS hl => by exact exec_load rfl rfl (load_b32 (HH5.out.below hS.out HH5.out.lt) HHL.out)) ?_
          simp only [Act.put, List.setIfInBounds_toArray, List.set_cons_zero, List.set_cons_succ, List.cons_append, List.nil_append]
          refine stage_pure rfl (fun V => Below.refl _ V) (fun V m hS hl => by
              rw [HBB.out]
              exact exec_eq32 s h HSL.out HHL.out rfl rfl rfl) ?_
          simp only [Act.put, List.setIfInBounds_toArray, List.set_cons_zero, List.set_cons_succ, List.cons_append, List.nil_append]
          refine stage_pure rfl (fun V => Below.refl _ V) (fun V m hS hl => by exact exec_bools bb rfl rfl rfl Tryd.underlying4) ?_
          simp only [Act.put, List.setIfInBounds_toArray, List.set_cons_zero, List.set_cons_succ, List.cons_append, List.nil_append]
          refine stage_pure rfl (fun V => Below.refl _ V) (fun V m hS hl => by go_simp) ?_
          simp only [Act.put, List.setIfInBounds_toArray, List.set_cons_zero, List.set_cons_succ, List.cons_append, List.nil_append]
          refine stage_pure rfl (fun V => Below.refl _ V) (fun V m hS hl => by go_simp) ?_
          simp only [Act.put, List.setIfInBounds_toArray, List.set_cons_zero, List.set_cons_succ, List.cons_append, List.nil_append]
          refine stage_nil (fun V4 hS hF => ?_)
          have HS4 := Lib.hid (HGN5.out V4 hS.out)
          clear hS hF
          go_wp2_with fail
          go_ret
          exact ⟨rfl, HS4.out⟩

/-! ### The row's step -/
/-- The door's own heap meets the condition. -/
theorem door_met (os : Os) (args : Array Value) : laidMetH Tryd.prog [("flume/mac.first", Rows.laid_flume_mac_first), ("flume/mac.rounds", Rows.laid_flume_mac_rounds)] ((World.doorLaid Tryd.prog 400 os).forCall (fun _ _ => 0) ⟨#[], args, []⟩).memory :=
  laidMetH_of_parts3 (fuel := 8) (laidMet_of_run' 8 (by kernel_rfl) (by kernel_rfl)) (by kernel_rfl) (by kernel_rfl)
set_option maxRecDepth 100000 in
theorem lifted (os : Os) (started : os.Started) (H : Type) (enc : TypeId × Value → H) :
    ReturnsInHanded {} Tryd.checked os 3 .any (fun w args => (Rows.macSealsSpec.pre enc Tryd.prog Tryd.f3 [] false w args ∧ laidMetH Tryd.prog [("flume/mac.first", Rows.laid_flume_mac_first), ("flume/mac.rounds", Rows.laid_flume_mac_rounds)] w) ∧ sizedMet enc Tryd.prog Tryd.f3 (OpenSpec.ofChange Rows.macSealsSpec) false w args)
      (Rows.macSealsSpec.post enc Tryd.prog Tryd.f3 false true false false) := by
  refine returnsInHanded_of_change_and (C := Tryd.checked) (X := fun w _ => laidMetH Tryd.prog [("flume/mac.first", Rows.laid_flume_mac_first), ("flume/mac.rounds", Rows.laid_flume_mac_rounds)] w) (fun _ _ _ hh h => h.of_heap hh) own started (by kernel_rfl) Tryd.func3
    (ChangeSpec.witness_shaped (enc := enc) (C := Tryd.checked) (os := os) (X := fun w _ => laidMetH Tryd.prog [("flume/mac.first", Rows.laid_flume_mac_first), ("flume/mac.rounds", Rows.laid_flume_mac_rounds)] w) false (World.doorLaid Tryd.prog 400 os) #[.slice none 0 0, .slice none 0 0, .int .i64 0] 8 rfl (World.shaped_of_RefB (by kernel_rfl) (by kernel_rfl)) (by kernel_rfl) (by kernel_rfl) (by kernel_rfl) (door_met os _)) ?_
  intro W base args ds gs before hval0 hW _ _ hL _
  have hval : ∀ (j : Nat) t v, Tryd.f3.params[j]? = some t → args[j]? = some v → Value.okWide Tryd.prog W .any base t v := hval0
  have hW' := hW
  obtain ⟨p, q, hA0, hV, rfl, hfz, hnd⟩ := hW
  have hA : DataW.TrodAll enc Tryd.prog W 0 (fun _ => true) true Tryd.f3.params.toList args.toList ds p := hA0
  rw [Tryd.params3] at hA hval
  obtain ⟨v0, vs0, d0, ds0, p0, q0, hargs, rfl, rfl, h0, r0⟩ := trodAll_cons hA
  obtain ⟨v1, vs1, d1, ds1, p1, q1, rfl, rfl, rfl, h1, r1⟩ := trodAll_cons r0
  obtain ⟨v2, vs2, d2, ds2, p2, q2, rfl, rfl, rfl, h2, r2⟩ := trodAll_cons r1
  obtain ⟨rfl, rfl, rfl⟩ := trodAll_nil r2
  obtain rfl : args = #[v0, v1, v2] := by cases args; simp_all
  obtain ⟨rfl, rfl⟩ := trodVars_none hV
  obtain ⟨a0, len0, cap0, rfl⟩ := okWide_slice Tryd.underlying22 (hval 0 22 v0 rfl rfl)
  have k0 := h0
  have lt0 : ∀ x ∈ p0, x.block < W.heap.size := by obtain ⟨m, hm⟩ := k0; exact DataW.trod_lt m _ _ _ hm
  obtain ⟨z0, w0⟩ : ∃ zs, IsRow .u8 W a0 len0 cap0 zs := by
    obtain ⟨fuel, hf⟩ := h0
    rcases open_ints Tryd.underlying22 Tryd.underlying5 (by kernel_rfl) hf with ⟨hcs, _⟩ | ⟨x, l, c, zs, hcs, _, hl, hm, hz, _, hcell, hwz⟩
    · simp [Value.cells] at hcs
      obtain ⟨rfl, rfl, rfl⟩ := hcs
      exact ⟨[], .inl ⟨rfl, rfl, rfl, rfl⟩⟩
    · simp [Value.cells] at hcs
      obtain ⟨rfl, rfl, rfl⟩ := hcs
      exact ⟨zs, .inr ⟨_, rfl, hl, hm, by simpa using hz, hcell, hwz⟩⟩
  obtain ⟨a1, len1, cap1, rfl⟩ := okWide_slice Tryd.underlying22 (hval 1 22 v1 rfl rfl)
  have k1 := h1
  have lt1 : ∀ x ∈ p1, x.block < W.heap.size := by obtain ⟨m, hm⟩ := k1; exact DataW.trod_lt m _ _ _ hm
  obtain ⟨z1, w1⟩ : ∃ zs, IsRow .u8 W a1 len1 cap1 zs := by
    obtain ⟨fuel, hf⟩ := h1
    rcases open_ints Tryd.underlying22 Tryd.underlying5 (by kernel_rfl) hf with ⟨hcs, _⟩ | ⟨x, l, c, zs, hcs, _, hl, hm, hz, _, hcell, hwz⟩
    · simp [Value.cells] at hcs
      obtain ⟨rfl, rfl, rfl⟩ := hcs
      exact ⟨[], .inl ⟨rfl, rfl, rfl, rfl⟩⟩
    · simp [Value.cells] at hcs
      obtain ⟨rfl, rfl, rfl⟩ := hcs
      exact ⟨zs, .inr ⟨_, rfl, hl, hm, by simpa using hz, hcell, hwz⟩⟩
  obtain ⟨a2, rfl, rfl, rfl, w2⟩ := open_int Tryd.underlying3 (hval 2 3 v2 rfl rfl) h2
  clear hA0 hval0
  refine (walk a0 len0 cap0 z0 a1 len1 cap1 z1 a2 W (Sha.laid_of hL) w0 w1 w2).mono fun e W' ⟨he, bel⟩ => ?_
  subst he
  exact ⟨_, rfl, _, _, _, [], _, [], hW', trodAll_mk1 (shut_bool Tryd.underlying4 _), (trodAll_cons_mk (Below.trod laidOut (by kernel_rfl) (of_decide_eq_true (by kernel_rfl)) k0 bel lt0) (trodAll_cons_mk (Below.trod laidOut (by kernel_rfl) (of_decide_eq_true (by kernel_rfl)) k1 bel lt1) (trodAll_cons_mk (shut_int Tryd.underlying3 w2) trodAll_mk0))), rfl, bel.frame _, fun h => by cases h⟩

theorem over : Rows.macSealsRow.holds Tryd.pinned (OpenSpec.ofChange Rows.macSealsSpec) :=
  OpenClaim.holds_of_wide 3 Tryd.f3 rfl rfl rfl rfl rfl rfl rfl ⟨rfl, rfl, rfl, rfl, rfl⟩ rfl rfl rfl rfl rfl (by kernel_rfl) Tryd.func3 (by kernel_rfl)
    (of_decide_eq_true (by kernel_rfl)) (by unfold Func.isWrapper; first | (rw [if_pos (by decide +kernel)]; kernel_rfl) | (rw [if_neg (by decide +kernel)]; exact ⟨rfl, rfl⟩))
    (fun os started H enc _ => lifted os started H enc)

theorem proved : Rows.MacSealsCardSaid :=
  Claim7.holds_tied_plain_at .later [] [.data, .data] true (true, "548818a11e97416bfe589dd3bef04e86a870f7a0f927cf50379a9f55926b0257") false
    over (fun _ h => by cases h) (by kernel_rfl) (fun _ h => by cases h) macSeals_row_tie rfl ⟨rfl, rfl⟩ (by kernel_rfl) rfl
    (fun f fn hf hfn => by
      obtain rfl : f = 3 := Option.some.inj ((show Tryd.prog.funcNamed "flume/flumelaw08.MacSeals" = some 3 by kernel_rfl).symm.trans hf) |>.symm
      obtain rfl : fn = Tryd.f3 := (Option.some.inj (Tryd.func3.symm.trans hfn)).symm
      exact ⟨by kernel_rfl, fun j t ht => by
        rw [Tryd.params3] at ht
        have hm : t ∈ [22, 22, 3] := by simpa using Array.mem_of_getElem? ht
        have hall : ([22, 22, 3].all fun u => !Tryd.prog.wantsStandIn u) = true := by kernel_rfl
        exact (show Tryd.prog.wantsStandIn t = false by simpa using List.all_eq_true.1 hall t hm)⟩)
    (by kernel_rfl)
#print axioms proved
end Go.Proofs.YtepmhejmfbcobaaDoor.macSeals
