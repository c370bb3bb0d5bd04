/-
  PROVED: MacAgain of flumelaw08 answers true for every input, and its arguments read afterwards as before. CONDITIONS: none beside the form's own.
-/
import Derived.Test.YtlmljmlddecnmaaDoorRows
import Derived.Test.YtlmljmlddecnmaaDoorMac13
import Derived.Test.YtlmljmlddecnmaaDoorMacLaid
import Derived.Test.YtlmljmlddecnmaaDoorCards
import Derived.Test.YtlmljmlddecnmaaDoorTie
import Derived.SevenTiedAt
import Derived.WalkKit
import Derived.ProofKit
import Derived.OpenShut
import Derived.ShutString
import Derived.ChangeOld
import Derived.Below
namespace Go.Proofs.YtlmljmlddecnmaaDoor.macAgain
open Go.ChangeShapes Go.WideShapes Go.ChangeAt Go.RowKit
open Go.ChangeMaps (open_string shut_string)
set_option linter.unusedVariables false
set_option linter.unusedSimpArgs false

theorem own : ownKnob Tryd.prog.godebug = none := by kernel_rfl
theorem laidOut : laidOutB Tryd.prog = true := by kernel_rfl

/-- What the walk is told of a slice of integers that came in. -/
def IsRow (k : IntKind) (w : World) (a : Option Addr) (len cap : Nat) (zs : List Int) : Prop :=
  (a = none ∧ len = 0 ∧ cap = 0 ∧ zs = []) ∨
  ∃ x, a = some x ∧ len ≤ cap ∧ cap ≤ maxLen ∧ zs.length = cap ∧ (∀ i, i < zs.length → w.cell? (x.add i) = some (.int k (zs.getD i 0))) ∧ ∀ n ∈ zs, (Lit.int k n).wf = true

/-! ### The walk -/
open Words Sha
set_option maxHeartbeats 4000000 in
theorem walk (a0 : Option Addr) (len0 cap0 : Nat) (z0 : List Int) (a1 : Option Addr) (len1 cap1 : Nat) (z1 : List Int) (a2 : Option Addr) (len2 cap2 : Nat) (z2 : List Int) (w : World) (hLaid : Sha.Laid w) (w0 : IsRow .u8 w a0 len0 cap0 z0) (w1 : IsRow .u8 w a1 len1 cap1 z1) (w2 : IsRow .u8 w a2 len2 cap2 z2) :
    Calls Tryd.prog 5 #[.slice a0 len0 cap0, .slice a1 len1 cap1, .slice a2 len2 cap2] w fun e w' => e = .returned (.bool true) ∧ Below w.heap.size w w' := by
  obtain ⟨k, hk, hkc, hk63, hkb⟩ := bytes_of w0
  obtain ⟨x, hx, hxc, hx63, hxb⟩ := bytes_of w1
  obtain ⟨y, hy, hyc, hy63, hyb⟩ := bytes_of w2
  have HK0 : Hid (PtV w w.heap.size (.slice a0 len0 cap0) k) := .mk hk (by omega) hk63 hkb
  have HX0 : Hid (PtV w w.heap.size (.slice a1 len1 cap1) x) := .mk hx (by omega) hx63 hxb
  have HY0 : Hid (PtV w w.heap.size (.slice a2 len2 cap2) y) := .mk hy (by omega) hy63 hyb
  have HLN : Hid (len0 = k.length ∧ len1 = x.length ∧ len2 = y.length) := ⟨hk, hx, hy⟩
  have HCP : Hid (len1 ≤ cap1 ∧ len2 ≤ cap2) := ⟨by omega, by omega⟩
  have HBX := Lib.hid hxb
  have HBY := Lib.hid hyb
  clear w0 w1 w2 hk hx hy hkc hxc hyc hk63 hx63 hy63 hkb hxb hyb
  obtain ⟨i0, hi0, hz0, hz1, hz2⟩ := info_parts3 u8_info
  go_enter Tryd.func5, Tryd.ntmps5
  go_wp2_with fail
  refine (first_any w hLaid).mono ?_
  rintro e W1 ⟨rfl, hb1⟩
  have HB1 := Lib.hid hb1
  clear hb1
  obtain ⟨M, hmax, hM1, hM2⟩ := max3 (P := Tryd.prog) len0 len1 len2 1000 #[3, 3, 3] 3
  by_cases hmx : len0 ≤ 1000 ∧ len1 ≤ 1000 ∧ len2 ≤ 1000
  · have hM := hM1 hmx
    obtain ⟨hm0, hm1, hm2⟩ := hmx
    clear hM1 hM2
    have HE := Lib.hid (own_empty W1 5)
    have HR1 : Hid (Reads (W1.alloc (.cells #[] 5)) w.heap.size 1 a1 len1 (u8s x)) := by
      show Reads _ _ _ _ _ _
      rw [HLN.out.2.1]
      exact Reads.alloc (HBX.out.below HB1.out) HB1.out.size _
    have HR2 : Hid (Byt W1 w.heap.size a2 y) := HBY.out.below HB1.out
    go_wp2_with (at_builtin; refine wpList_append_any _ rfl (.tmp 19) (.tmp 20) _ rfl W1.heap.size 5 i0 _ 1 1 Tryd.underlying22 hi0 hz0 hz1 hz2 rfl (by omega) (.slice (some ⟨W1.heap.size, 0, none⟩) 0 0) 0 [] rfl HE.out w.heap.size a1 len1 cap1 (u8s x) rfl HR1.out (u8s_one x) (by simp only [maxLen]; omega) (by omega) (by simp) ?_)
    intro v1 w1 hown1 hg1 _
    have HO1 := Lib.hid hown1
    have HG1 := Lib.hid (below_app hg1)
    have HR3 : Hid (Reads w1 w.heap.size 1 a2 len2 (u8s y)) := by
      show Reads _ _ _ _ _ _
      rw [HLN.out.2.2]
      exact HR2.out.below (HG1.out.mono HB1.out.size)
    clear hown1 hg1 HE HR1 HR2
    have hsz1 := HG1.out.size
    go_wp2_with (at_builtin; refine wpList_append_any _ rfl (.tmp 21) (.tmp 22) _ rfl W1.heap.size 5 i0 _ 1 1 Tryd.underlying22 hi0 hz0 hz1 hz2 rfl (by omega) v1 len1 (u8s x) rfl HO1.out w.heap.size a2 len2 cap2 (u8s y) rfl HR3.out (u8s_one y) (by simp only [maxLen]; omega) (by omega) (by omega) ?_)
    intro v2 W2 hown2 hg2 _
    rw [← u8s_append] at hown2
    have HZ2 : Hid (PtV W2 W2.heap.size v2 (x ++ y)) := ptv_of_own hown2 (by have := HLN.out; simp; omega)
    obtain ⟨A2, c2, hv2, _, _⟩ := own_slice hown2
    obtain ⟨n2, hn2⟩ : ∃ n2, n2 = len1 + len2 := ⟨_, rfl⟩
    have HB2 : Hid (Below w.heap.size w W2) := HB1.out.trans ((below_app2 HG1.out HO1.out hg2).mono HB1.out.size)
    have HK2 : Hid (PtV W2 W2.heap.size (.slice a0 len0 cap0) k) := HK0.out.grow HB2.out
    have HX2 : Hid (PtV W2 W2.heap.size (.slice a1 len1 cap1) x) := HX0.out.grow HB2.out
    have HY2 : Hid (PtV W2 W2.heap.size (.slice a2 len2 cap2) y) := HY0.out.grow HB2.out
    have HL2 : Hid (Laid W2) := hLaid.below HB2.out hLaid.size
    have HSM : Hid (k.length ≤ 1000 ∧ x.length ≤ 1000 ∧ y.length ≤ 1000) := by
      have := HLN.out
      show _ ∧ _
      omega
    have HW0 : Hid (2 ≤ w.heap.size) := hLaid.size
    rw [← hn2] at hv2
    subst hv2
    clear hn2 hown2 hg2 HO1 HG1 HR3 hsz1 hi0 hz0 hz1 hz2 hmax hM HBX HBY HCP hLaid
    go_wp2_with fail
    have HSE : Hid (Calls Tryd.prog 8 #[.slice a0 len0 cap0, .slice (some ⟨W2.heap.size, 0, none⟩) 2 2] (W2.alloc (.cells #[.slice a1 len1 cap1, .slice a2 len2 cap2] 22)) fun e w' => e = .returned (.agg (V (seal_ k (x ++ y)))) ∧ Below W2.heap.size W2 w') := by
      show Calls _ _ _ _ _
      have := seal_new (t := 22) (n := 2) (c := 2) (xs := [.slice a1 len1 cap1, .slice a2 len2 cap2]) (ls := [x, y]) HK2.out ⟨HX2.out, HY2.out, trivial⟩ rfl (by have := HSM.out; simp; omega) HL2.out
      rw [show [x, y].flatten = x ++ y by simp] at this
      exact this
    refine HSE.out.mono ?_
    rintro e W3 ⟨rfl, hb3⟩
    obtain ⟨s, hs⟩ : ∃ s, s = seal_ k (x ++ y) := ⟨_, rfl⟩
    rw [← hs]
    have HSL : Hid (s.length = 32) := by show s.length = 32; rw [hs]; exact seal_length _ _
    obtain ⟨W4, hW4⟩ : ∃ W4, W4 = put32 W3 s := ⟨_, rfl⟩
    obtain ⟨G, hG⟩ : ∃ G, G = W3.heap.size := ⟨_, rfl⟩
    have hb4 : Below W3.heap.size W3 W4 := by rw [hW4]; exact put32_below _ _
    have HG4 : Hid (Blk W4 G 25 (V s)) := by show Blk _ _ _ _; rw [hW4, hG]; exact put32_blk _ _
    have hb24 : Below W2.heap.size W2 W4 := hb3.trans (hb4.mono hb3.size)
    have HB4 : Hid (Below w.heap.size w W4) := HB2.out.trans (hb24.mono HB2.out.size)
    have HK4 : Hid (PtV W4 W4.heap.size (.slice a0 len0 cap0) k) := HK0.out.grow HB4.out
    have HX4 : Hid (PtV W4 W4.heap.size (.slice a1 len1 cap1) x) := HX0.out.grow HB4.out
    have HY4 : Hid (PtV W4 W4.heap.size (.slice a2 len2 cap2) y) := HY0.out.grow HB4.out
    have HZ4 : Hid (PtV W4 W4.heap.size (.slice A2 n2 c2) (x ++ y)) := HZ2.out.grow hb24
    have HL4 : Hid (Laid W4) := HL2.out.below hb24 HL2.out.size
    have HSS := Lib.hid hs
    have HW4 := Lib.hid hW4
    have HGG := Lib.hid hG
    clear hb3 hb4 hb24 hs hW4 hG HSE HK2 HX2 HY2 HZ2 HL2 HB2
    go_wp2_with (first
      | (with_reducible refine wpList_alloc32 rfl rfl ?_)
      | (refine wpList_store32 rfl _ _ rfl HSL.out rfl rfl ?_; rw [← HW4.out, ← HGG.out]))
    refine Calls.mono (seal_new (t := 22) (n := 1) (c := 1) (xs := [.slice a0 len0 cap0]) (ls := [k]) HY4.out ⟨HK4.out, trivial⟩ rfl (by have := HSM.out; simp; omega) HL4.out) ?_
    rintro e W5 ⟨rfl, hb5⟩
    have HB5 : Hid (Below w.heap.size w W5) := HB4.out.trans (hb5.mono HB4.out.size)
    have HX5 : Hid (PtV W5 W5.heap.size (.slice a1 len1 cap1) x) := HX0.out.grow HB5.out
    have HZ5 : Hid (PtV W5 W5.heap.size (.slice A2 n2 c2) (x ++ y)) := HZ4.out.grow hb5
    have HG5 : Hid (Blk W5 G 25 (V s)) := HG4.out.below hb5 HG4.out.lt
    have HL5 : Hid (Laid W5) := HL4.out.below hb5 HL4.out.size
    clear hb5 HK4 HX4 HY4 HZ4 HL4 HB4 HG4 HW4 HGG
    go_wp2_with fail
    refine Calls.mono (hash_new (t := 22) (n := 1) (c := 1) (xs := [.slice a1 len1 cap1]) (ls := [x]) ⟨HX5.out, trivial⟩ rfl (by have := HSM.out; simp; omega) HL5.out) ?_
    rintro e W6 ⟨rfl, hb6⟩
    have HB6 : Hid (Below w.heap.size w W6) := HB5.out.trans (hb6.mono HB5.out.size)
    have HZ6 : Hid (PtV W6 W6.heap.size (.slice A2 n2 c2) (x ++ y)) := HZ5.out.grow hb6
    have HG6 : Hid (Blk W6 G 25 (V s)) := HG5.out.below hb6 HG5.out.lt
    have HL6 : Hid (Laid W6) := HL5.out.below hb6 HL5.out.size
    clear hb6 HX5 HZ5 HL5 HB5 HG5
    have hgen : ∀ V, Below W6.heap.size W6 V → Below w.heap.size w V := fun V h => HB6.out.trans (h.mono HB6.out.size)
    have HGEN := Lib.hid hgen
    clear hgen
    have HST : Hid (Below W6.heap.size W6 W6.drew) := Below.drew (Below.refl _ _)
    go_wp2_with fail
    refine wp_region_stage (fun V V' => Below V.heap.size V V') (fun m V => Hid (Below W6.heap.size W6 V)) [(false, .exact (.slice a0 len0 cap0)),
        (false, .exact (.slice A2 n2 c2)),
        (false, .grows (Built [.slice A2 n2 c2])),
        (false, .exact (.agg (Sha.V s))),
        (false, .exact (.agg (Sha.V s))),
        (false, .exact (.bool true)),
        (false, .exact (.bool true)),
        (false, .exact (.slice a1 len1 cap1)),
        (false, .exact (.slice a2 len2 cap2)),
        (false, .grows (Built [.slice a1 len1 cap1, .slice a2 len2 cap2])),
        (false, .exact (.agg (Sha.V (hash (x ++ y))))),
        (false, .exact (.slice A2 n2 c2)),
        (false, .grows (Built [.slice A2 n2 c2])),
        (false, .exact (.agg (Sha.V (hash (x ++ y))))),
        (false, .exact (.bool true)),
        (false, .exact (.bool true)),
        (false, .exact (.bool true)),
        (false, .exact (.slice a0 len0 cap0)),
        (false, .exact (.slice a1 len1 cap1)),
        (false, .exact (.slice a2 len2 cap2)),
        (false, .grows (Built [.slice none 0 0, .slice a1 len1 cap1, .slice none 0 0, .slice a2 len2 cap2])),
        (false, .exact (.agg (Sha.V s))),
        (false, .exact (.agg (Sha.V s))),
        (false, .exact (.bool true)),
        (false, .exact (.bool true)),
        (false, .exact (.bool true))] (by kernel_rfl) (by kernel_rfl) (by kernel_rfl) rfl ?lasts ?start ?walk
    case lasts => exact ⟨fun _ _ _ h k => h.below k, fun _ _ _ h k => h.below k, fun _ _ _ h k => h.below k, fun _ _ _ h k => h.below k, trivial⟩
    case start => exact HST
    case walk =>
      refine stage_pure rfl (fun V => Below.refl _ V) (fun V m hS hl => by go_simp) ?_
      simp only [Act.put, List.setIfInBounds_toArray, List.set_cons_zero, List.set_cons_succ, List.cons_append, List.nil_append]
      refine stage_pure rfl (fun V => Below.refl _ V) (fun V m hS hl => by go_simp) ?_
      simp only [Act.put, List.setIfInBounds_toArray, List.set_cons_zero, List.set_cons_succ, List.cons_append, List.nil_append]
      refine stage_grows rfl (fun V m hS hl => by
          go_simp
          exact ⟨below_new V _, Built.new V [.slice A2 n2 c2], hS.out.trans ((below_new V _).mono hS.out.size)⟩) (fun v38 => ?_)
      simp only [Act.put, List.setIfInBounds_toArray, List.set_cons_zero, List.set_cons_succ, List.cons_append, List.nil_append]
      refine stage_exact rfl (fun V m hS hl => by
          go_simp
          refine Calls.mono (seal_b (xs := [.slice A2 n2 c2]) (ls := [x ++ y]) (HK0.out.grow (HGEN.out V hS.out)) (hl.1 (by kernel_rfl)) ⟨HZ6.out.grow hS.out, trivial⟩ (by have := HSM.out; simp; omega) (HL6.out.below hS.out HL6.out.size)) ?_
          rintro e V' ⟨rfl, hb⟩
          exact ⟨_, rfl, hb, by rw [HSS.out]; simp, hS.out.trans (hb.mono hS.out.size)⟩) ?_
      simp only [Act.put, List.setIfInBounds_toArray, List.set_cons_zero, List.set_cons_succ, List.cons_append, List.nil_append]
      refine stage_pure rfl (fun V => Below.refl _ V) (fun V m hS hl => by exact exec_load rfl rfl (load_b32 (HG6.out.below hS.out HG6.out.lt) HSL.out)) ?_
      simp only [Act.put, List.setIfInBounds_toArray, List.set_cons_zero, List.set_cons_succ, List.cons_append, List.nil_append]
      refine stage_pure rfl (fun V => Below.refl _ V) (fun V m hS hl => by exact exec_same32 s s HSL.out rfl rfl rfl rfl) ?_
      simp only [Act.put, List.setIfInBounds_toArray, List.set_cons_zero, List.set_cons_succ, List.cons_append, List.nil_append]
      refine stage_pure rfl (fun V => Below.refl _ V) (fun V m hS hl => by go_simp) ?_
      simp only [Act.put, List.setIfInBounds_toArray, List.set_cons_zero, List.set_cons_succ, List.cons_append, List.nil_append]
      refine stage_pure rfl (fun V => Below.refl _ V) (fun V m hS hl => by go_simp) ?_
      simp only [Act.put, List.setIfInBounds_toArray, List.set_cons_zero, List.set_cons_succ, List.cons_append, List.nil_append]
      refine stage_pure rfl (fun V => Below.refl _ V) (fun V m hS hl => by go_simp) ?_
      simp only [Act.put, List.setIfInBounds_toArray, List.set_cons_zero, List.set_cons_succ, List.cons_append, List.nil_append]
      refine stage_grows rfl (fun V m hS hl => by
          go_simp
          exact ⟨below_new V _, Built.new V [.slice a1 len1 cap1, .slice a2 len2 cap2], hS.out.trans ((below_new V _).mono hS.out.size)⟩) (fun v45 => ?_)
      simp only [Act.put, List.setIfInBounds_toArray, List.set_cons_zero, List.set_cons_succ, List.cons_append, List.nil_append]
      refine stage_exact rfl (fun V m hS hl => by
          go_simp
          refine Calls.mono (hash_b (xs := [.slice a1 len1 cap1, .slice a2 len2 cap2]) (ls := [x, y]) (hl.2.1 (by kernel_rfl)) ⟨HX0.out.grow (HGEN.out V hS.out), HY0.out.grow (HGEN.out V hS.out), trivial⟩ (by have := HSM.out; simp; omega) (HL6.out.below hS.out HL6.out.size)) ?_
          rintro e V' ⟨rfl, hb⟩
          exact ⟨_, rfl, hb, by simp, hS.out.trans (hb.mono hS.out.size)⟩) ?_
      simp only [Act.put, List.setIfInBounds_toArray, List.set_cons_zero, List.set_cons_succ, List.cons_append, List.nil_append]
      refine stage_pure rfl (fun V => Below.refl _ V) (fun V m hS hl => by go_simp) ?_
      simp only [Act.put, List.setIfInBounds_toArray, List.set_cons_zero, List.set_cons_succ, List.cons_append, List.nil_append]
      refine stage_grows rfl (fun V m hS hl => by
          go_simp
          exact ⟨below_new V _, Built.new V [.slice A2 n2 c2], hS.out.trans ((below_new V _).mono hS.out.size)⟩) (fun v48 => ?_)
      simp only [Act.put, List.setIfInBounds_toArray, List.set_cons_zero, List.set_cons_succ, List.cons_append, List.nil_append]
      refine stage_exact rfl (fun V m hS hl => by
          go_simp
          refine Calls.mono (hash_b (xs := [.slice A2 n2 c2]) (ls := [x ++ y]) (hl.2.2.1 (by kernel_rfl)) ⟨HZ6.out.grow hS.out, trivial⟩ (by have := HSM.out; simp; omega) (HL6.out.below hS.out HL6.out.size)) ?_
          rintro e V' ⟨rfl, hb⟩
          exact ⟨_, rfl, hb, by simp, hS.out.trans (hb.mono hS.out.size)⟩) ?_
      simp only [Act.put, List.setIfInBounds_toArray, List.set_cons_zero, List.set_cons_succ, List.cons_append, List.nil_append]
      refine stage_pure rfl (fun V => Below.refl _ V) (fun V m hS hl => by exact exec_same32 _ _ (hash_length _) rfl rfl rfl rfl) ?_
      simp only [Act.put, List.setIfInBounds_toArray, List.set_cons_zero, List.set_cons_succ, List.cons_append, List.nil_append]
      refine stage_pure rfl (fun V => Below.refl _ V) (fun V m hS hl => by go_simp) ?_
      simp only [Act.put, List.setIfInBounds_toArray, List.set_cons_zero, List.set_cons_succ, List.cons_append, List.nil_append]
      refine stage_pure rfl (fun V => Below.refl _ V) (fun V m hS hl => by go_simp) ?_
      simp only [Act.put, List.setIfInBounds_toArray, List.set_cons_zero, List.set_cons_succ, List.cons_append, List.nil_append]
      refine stage_pure rfl (fun V => Below.refl _ V) (fun V m hS hl => by go_simp) ?_
      simp only [Act.put, List.setIfInBounds_toArray, List.set_cons_zero, List.set_cons_succ, List.cons_append, List.nil_append]
      refine stage_pure rfl (fun V => Below.refl _ V) (fun V m hS hl => by go_simp) ?_
      simp only [Act.put, List.setIfInBounds_toArray, List.set_cons_zero, List.set_cons_succ, List.cons_append, List.nil_append]
      refine stage_pure rfl (fun V => Below.refl _ V) (fun V m hS hl => by go_simp) ?_
      simp only [Act.put, List.setIfInBounds_toArray, List.set_cons_zero, List.set_cons_succ, List.cons_append, List.nil_append]
      refine stage_grows rfl (fun V m hS hl => by
          go_simp
          exact ⟨below_new V _, Built.new V [.slice none 0 0, .slice a1 len1 cap1, .slice none 0 0, .slice a2 len2 cap2], hS.out.trans ((below_new V _).mono hS.out.size)⟩) (fun v56 => ?_)
      simp only [Act.put, List.setIfInBounds_toArray, List.set_cons_zero, List.set_cons_succ, List.cons_append, List.nil_append]
      refine stage_exact rfl (fun V m hS hl => by
          go_simp
          refine Calls.mono (seal_b (xs := [.slice none 0 0, .slice a1 len1 cap1, .slice none 0 0, .slice a2 len2 cap2]) (ls := [[], x, [], y]) (HK0.out.grow (HGEN.out V hS.out)) (hl.2.2.2.1 (by kernel_rfl)) ⟨PtV.nil _ _, HX0.out.grow (HGEN.out V hS.out), PtV.nil _ _, HY0.out.grow (HGEN.out V hS.out), trivial⟩ (by have := HSM.out; simp; omega) (HL6.out.below hS.out HL6.out.size)) ?_
          rintro e V' ⟨rfl, hb⟩
          exact ⟨_, rfl, hb, by rw [HSS.out]; simp, hS.out.trans (hb.mono hS.out.size)⟩) ?_
      simp only [Act.put, List.setIfInBounds_toArray, List.set_cons_zero, List.set_cons_succ, List.cons_append, List.nil_append]
      refine stage_pure rfl (fun V => Below.refl _ V) (fun V m hS hl => by exact exec_load rfl rfl (load_b32 (HG6.out.below hS.out HG6.out.lt) HSL.out)) ?_
      simp only [Act.put, List.setIfInBounds_toArray, List.set_cons_zero, List.set_cons_succ, List.cons_append, List.nil_append]
      refine stage_pure rfl (fun V => Below.refl _ V) (fun V m hS hl => by exact exec_same32 s s HSL.out rfl rfl rfl rfl) ?_
      simp only [Act.put, List.setIfInBounds_toArray, List.set_cons_zero, List.set_cons_succ, List.cons_append, List.nil_append]
      refine stage_pure rfl (fun V => Below.refl _ V) (fun V m hS hl => by go_simp) ?_
      simp only [Act.put, List.setIfInBounds_toArray, List.set_cons_zero, List.set_cons_succ, List.cons_append, List.nil_append]
      refine stage_pure rfl (fun V => Below.refl _ V) (fun V m hS hl => by go_simp) ?_
      simp only [Act.put, List.setIfInBounds_toArray, List.set_cons_zero, List.set_cons_succ, List.cons_append, List.nil_append]
      refine stage_nil (fun V2 hS hF => ?_)
      have HS2 := Lib.hid (HGEN.out V2 hS.out)
      clear hS hF
      go_wp2_with fail
      go_ret
      exact ⟨rfl, HS2.out⟩
  · have hM := hM2 hmx
    clear hM1 hM2
    go_wp2_with fail
    go_ret
    exact ⟨rfl, HB1.out⟩

/-! ### The row's step -/
/-- The door's own heap meets the condition. -/
theorem door_met (os : Os) (args : Array Value) : laidMetH Tryd.prog [("flume/mac.first", Rows.laid_flume_mac_first), ("flume/mac.rounds", Rows.laid_flume_mac_rounds)] ((World.doorLaid Tryd.prog 400 os).forCall (fun _ _ => 0) ⟨#[], args, []⟩).memory :=
  laidMetH_of_parts3 (fuel := 8) (laidMet_of_run' 8 (by kernel_rfl) (by kernel_rfl)) (by kernel_rfl) (by kernel_rfl)
set_option maxRecDepth 100000 in
theorem lifted (os : Os) (started : os.Started) (H : Type) (enc : TypeId × Value → H) :
    ReturnsInHanded {} Tryd.checked os 5 .any (fun w args => (Rows.macAgainSpec.pre enc Tryd.prog Tryd.f5 [] false w args ∧ laidMetH Tryd.prog [("flume/mac.first", Rows.laid_flume_mac_first), ("flume/mac.rounds", Rows.laid_flume_mac_rounds)] w) ∧ sizedMet enc Tryd.prog Tryd.f5 (OpenSpec.ofChange Rows.macAgainSpec) false w args)
      (Rows.macAgainSpec.post enc Tryd.prog Tryd.f5 false true false false) := by
  refine returnsInHanded_of_change_and (C := Tryd.checked) (X := fun w _ => laidMetH Tryd.prog [("flume/mac.first", Rows.laid_flume_mac_first), ("flume/mac.rounds", Rows.laid_flume_mac_rounds)] w) (fun _ _ _ hh h => h.of_heap hh) own started (by kernel_rfl) Tryd.func5
    (ChangeSpec.witness_shaped (enc := enc) (C := Tryd.checked) (os := os) (X := fun w _ => laidMetH Tryd.prog [("flume/mac.first", Rows.laid_flume_mac_first), ("flume/mac.rounds", Rows.laid_flume_mac_rounds)] w) false (World.doorLaid Tryd.prog 400 os) #[.slice none 0 0, .slice none 0 0, .slice none 0 0] 8 rfl (World.shaped_of_RefB (by kernel_rfl) (by kernel_rfl)) (by kernel_rfl) (by kernel_rfl) (by kernel_rfl) (door_met os _)) ?_
  intro W base args ds gs before hval0 hW _ _ hL _
  have hval : ∀ (j : Nat) t v, Tryd.f5.params[j]? = some t → args[j]? = some v → Value.okWide Tryd.prog W .any base t v := hval0
  have hW' := hW
  obtain ⟨p, q, hA0, hV, rfl, hfz, hnd⟩ := hW
  have hA : DataW.TrodAll enc Tryd.prog W 0 (fun _ => true) true Tryd.f5.params.toList args.toList ds p := hA0
  rw [Tryd.params5] at hA hval
  obtain ⟨v0, vs0, d0, ds0, p0, q0, hargs, rfl, rfl, h0, r0⟩ := trodAll_cons hA
  obtain ⟨v1, vs1, d1, ds1, p1, q1, rfl, rfl, rfl, h1, r1⟩ := trodAll_cons r0
  obtain ⟨v2, vs2, d2, ds2, p2, q2, rfl, rfl, rfl, h2, r2⟩ := trodAll_cons r1
  obtain ⟨rfl, rfl, rfl⟩ := trodAll_nil r2
  obtain rfl : args = #[v0, v1, v2] := by cases args; simp_all
  obtain ⟨rfl, rfl⟩ := trodVars_none hV
  obtain ⟨a0, len0, cap0, rfl⟩ := okWide_slice Tryd.underlying22 (hval 0 22 v0 rfl rfl)
  have k0 := h0
  have lt0 : ∀ x ∈ p0, x.block < W.heap.size := by obtain ⟨m, hm⟩ := k0; exact DataW.trod_lt m _ _ _ hm
  obtain ⟨z0, w0⟩ : ∃ zs, IsRow .u8 W a0 len0 cap0 zs := by
    obtain ⟨fuel, hf⟩ := h0
    rcases open_ints Tryd.underlying22 Tryd.underlying5 (by kernel_rfl) hf with ⟨hcs, _⟩ | ⟨x, l, c, zs, hcs, _, hl, hm, hz, _, hcell, hwz⟩
    · simp [Value.cells] at hcs
      obtain ⟨rfl, rfl, rfl⟩ := hcs
      exact ⟨[], .inl ⟨rfl, rfl, rfl, rfl⟩⟩
    · simp [Value.cells] at hcs
      obtain ⟨rfl, rfl, rfl⟩ := hcs
      exact ⟨zs, .inr ⟨_, rfl, hl, hm, by simpa using hz, hcell, hwz⟩⟩
  obtain ⟨a1, len1, cap1, rfl⟩ := okWide_slice Tryd.underlying22 (hval 1 22 v1 rfl rfl)
  have k1 := h1
  have lt1 : ∀ x ∈ p1, x.block < W.heap.size := by obtain ⟨m, hm⟩ := k1; exact DataW.trod_lt m _ _ _ hm
  obtain ⟨z1, w1⟩ : ∃ zs, IsRow .u8 W a1 len1 cap1 zs := by
    obtain ⟨fuel, hf⟩ := h1
    rcases open_ints Tryd.underlying22 Tryd.underlying5 (by kernel_rfl) hf with ⟨hcs, _⟩ | ⟨x, l, c, zs, hcs, _, hl, hm, hz, _, hcell, hwz⟩
    · simp [Value.cells] at hcs
      obtain ⟨rfl, rfl, rfl⟩ := hcs
      exact ⟨[], .inl ⟨rfl, rfl, rfl, rfl⟩⟩
    · simp [Value.cells] at hcs
      obtain ⟨rfl, rfl, rfl⟩ := hcs
      exact ⟨zs, .inr ⟨_, rfl, hl, hm, by simpa using hz, hcell, hwz⟩⟩
  obtain ⟨a2, len2, cap2, rfl⟩ := okWide_slice Tryd.underlying22 (hval 2 22 v2 rfl rfl)
  have k2 := h2
  have lt2 : ∀ x ∈ p2, x.block < W.heap.size := by obtain ⟨m, hm⟩ := k2; exact DataW.trod_lt m _ _ _ hm
  obtain ⟨z2, w2⟩ : ∃ zs, IsRow .u8 W a2 len2 cap2 zs := by
    obtain ⟨fuel, hf⟩ := h2
    rcases open_ints Tryd.underlying22 Tryd.underlying5 (by kernel_rfl) hf with ⟨hcs, _⟩ | ⟨x, l, c, zs, hcs, _, hl, hm, hz, _, hcell, hwz⟩
    · simp [Value.cells] at hcs
      obtain ⟨rfl, rfl, rfl⟩ := hcs
      exact ⟨[], .inl ⟨rfl, rfl, rfl, rfl⟩⟩
    · simp [Value.cells] at hcs
      obtain ⟨rfl, rfl, rfl⟩ := hcs
      exact ⟨zs, .inr ⟨_, rfl, hl, hm, by simpa using hz, hcell, hwz⟩⟩
  clear hA0 hval0
  refine (walk a0 len0 cap0 z0 a1 len1 cap1 z1 a2 len2 cap2 z2 W (Sha.laid_of hL) w0 w1 w2).mono fun e W' ⟨he, bel⟩ => ?_
  subst he
  exact ⟨_, rfl, _, _, _, [], _, [], hW', trodAll_mk1 (shut_bool Tryd.underlying4 _), (trodAll_cons_mk (Below.trod laidOut (by kernel_rfl) (of_decide_eq_true (by kernel_rfl)) k0 bel lt0) (trodAll_cons_mk (Below.trod laidOut (by kernel_rfl) (of_decide_eq_true (by kernel_rfl)) k1 bel lt1) (trodAll_cons_mk (Below.trod laidOut (by kernel_rfl) (of_decide_eq_true (by kernel_rfl)) k2 bel lt2) trodAll_mk0))), rfl, bel.frame _, fun h => by cases h⟩

theorem over : Rows.macAgainRow.holds Tryd.pinned (OpenSpec.ofChange Rows.macAgainSpec) :=
  OpenClaim.holds_of_wide 5 Tryd.f5 rfl rfl rfl rfl rfl rfl rfl ⟨rfl, rfl, rfl, rfl, rfl⟩ rfl rfl rfl rfl rfl (by kernel_rfl) Tryd.func5 (by kernel_rfl)
    (of_decide_eq_true (by kernel_rfl)) (by unfold Func.isWrapper; first | (rw [if_pos (by decide +kernel)]; kernel_rfl) | (rw [if_neg (by decide +kernel)]; exact ⟨rfl, rfl⟩))
    (fun os started H enc _ => lifted os started H enc)

theorem proved : Rows.MacAgainCardSaid :=
  Claim7.holds_tied_plain_at .later [] [.data, .data] true (true, "548818a11e97416bfe589dd3bef04e86a870f7a0f927cf50379a9f55926b0257") false
    over (fun _ h => by cases h) (by kernel_rfl) (fun _ h => by cases h) macAgain_row_tie rfl ⟨rfl, rfl⟩ (by kernel_rfl) rfl
    (fun f fn hf hfn => by
      obtain rfl : f = 5 := Option.some.inj ((show Tryd.prog.funcNamed "flume/flumelaw08.MacAgain" = some 5 by kernel_rfl).symm.trans hf) |>.symm
      obtain rfl : fn = Tryd.f5 := (Option.some.inj (Tryd.func5.symm.trans hfn)).symm
      exact ⟨by kernel_rfl, fun j t ht => by
        rw [Tryd.params5] at ht
        have hm : t ∈ [22, 22, 22] := by simpa using Array.mem_of_getElem? ht
        have hall : ([22, 22, 22].all fun u => !Tryd.prog.wantsStandIn u) = true := by kernel_rfl
        exact (show Tryd.prog.wantsStandIn t = false by simpa using List.all_eq_true.1 hall t hm)⟩)
    (by kernel_rfl)
#print axioms proved
end Go.Proofs.YtlmljmlddecnmaaDoor.macAgain
