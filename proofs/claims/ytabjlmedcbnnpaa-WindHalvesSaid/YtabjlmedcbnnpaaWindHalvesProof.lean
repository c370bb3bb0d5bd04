/-
  PROVED: WindHalves of flumelaw11 answers true for every input, and its arguments read afterwards as before. CONDITIONS: none beside the form's own.
-/
import Derived.Test.YtabjlmedcbnnpaaRows
import Derived.Test.YtabjlmedcbnnpaaWndLaw
import Derived.WalkKit
import Derived.ProofKit
import Derived.OpenShut
import Derived.ShutString
import Derived.ChangeOld
import Derived.Below
namespace Go.Proofs.Ytabjlmedcbnnpaa.windHalves
open Go.ChangeShapes Go.WideShapes Go.ChangeAt Go.RowKit
open Go.ChangeMaps (open_string shut_string)
set_option linter.unusedVariables false
set_option linter.unusedSimpArgs false

theorem own : ownKnob Try.prog.godebug = none := by kernel_rfl
theorem laidOut : laidOutB Try.prog = true := by kernel_rfl

/-- What the walk is told of a slice of integers that came in. -/
def IsRow (k : IntKind) (w : World) (a : Option Addr) (len cap : Nat) (zs : List Int) : Prop :=
  (a = none ∧ len = 0 ∧ cap = 0 ∧ zs = []) ∨
  ∃ x, a = some x ∧ len ≤ cap ∧ cap ≤ maxLen ∧ zs.length = cap ∧ (∀ i, i < zs.length → w.cell? (x.add i) = some (.int k (zs.getD i 0))) ∧ ∀ n ∈ zs, (Lit.int k n).wf = true

/-! ### The walk -/
open Words Wnd
theorem halves {s : Int} {j : Nat} (h1 : 1200 ≤ s) (h : s ≤ 4800 ∨ s * 2 ^ j ≤ 1048576) : max (s / 2) 4800 ≤ 4800 ∨ max (s / 2) 4800 * 2 ^ (j + 1) ≤ 1048576 := by
  rcases h with h | h
  · left; omega
  · rcases Int.lt_or_le (s / 2) 4800 with h2 | h2
    · left; omega
    · right
      rw [Int.max_eq_left h2]
      have e : (2 : Int) ^ (j + 1) = 2 ^ j * 2 := Int.pow_succ _ _
      have hp : (0 : Int) ≤ 2 ^ j := Int.le_of_lt (Int.pow_pos (by decide))
      rw [e, show s / 2 * (2 ^ j * 2) = (s / 2 * 2) * 2 ^ j by rw [Int.mul_comm (2 ^ j) 2, ← Int.mul_assoc]]
      exact Int.le_trans (Int.mul_le_mul_of_nonneg_right (by omega) hp) h
set_option maxHeartbeats 4000000 in
set_option maxRecDepth 100000 in
theorem walk {H : Type} {enc : TypeId × Value → H} {base : Nat} (v0 : Value) (d0 : DataW H) (p0 : List MemPlace) (a1 : Int) (w : World) (o0 : Value.okWide Try.prog w .any base 22 v0) (k0 : DataW.Trod enc Try.prog w 0 (fun _ => true) true 22 v0 d0 p0) (w1 : (Lit.int .i64 a1).wf = true) :
    Calls Try.prog 5 #[v0, .int .i64 a1] w fun e w' => e = .returned (.bool true) ∧ Below w.heap.size w w' := by
  have hA := bounds_i64 w1
  clear w1
  obtain ⟨A1, ns, cs1, rfl⟩ := okWide_slice Try.underlying22 o0
  have hsee : Sees w (.slice ActSh) [.slice A1 ns cs1] := sees_of (sh := .slice ActSh) rfl (by kernel_rfl) k0
  obtain ⟨A1', ns', cs1', he, hcs1, hcs63, hel⟩ := Sees.elems hsee
  injection he with e1 e2 e3
  subst e1 e2 e3
  have HA : Hid (∀ i, i < ns → ∃ ad K N F b, A1 = some ad ∧ ActAt w ad i K N F b) := actAt_of hel
  clear o0 k0 hsee hel
  go_enter Try.func5, Try.ntmps5
  go_wp2_with fail
  refine (first_any w).mono ?_
  rintro e W1 ⟨rfl, hb1⟩
  have H0 := Lib.hid (new_any hb1)
  clear hb1
  go_wp2_with fail
  refine H0.out.mono ?_
  rintro e W2 ⟨rfl, h2⟩
  have H2 := Lib.hid h2
  clear h2 H0
  obtain ⟨p, hp⟩ : ∃ p, p = W1.heap.size := ⟨_, rfl⟩
  rw [← hp] at H2 ⊢
  clear hp
  go_wp2_with fail
  go_loopw [29] (fun i wr => ∃ k : Nat, k ≤ ns ∧ i = .int .i64 k ∧ ∃ x, Hid (S1 w wr p x) ∧ Hid (x.Ok (min k 100))) (fun i _ => ns - (intOf i).toNat)
  case atStart => exact ⟨0, Nat.zero_le _, rfl, _, H2, wi0_ok⟩
  case round =>
    obtain ⟨k, hk, rfl, x, HX, OK⟩ := hrel
    by_cases hlt : k < ns
    · obtain ⟨ad, K, N, F, b, rfl, hat⟩ := HA.out k hlt
      obtain ⟨c1, c2, c3, c4, hK, hN, hF⟩ := hat.keep HX.out.b
      have HN := Lib.hid hN
      go_upto_region 7 with (fail)
      have HO := Lib.hid (S1o.new HX.out K N F b)
      obtain ⟨Wo, hWo⟩ : ∃ Wo, Wo = wr.alloc (.cells #[.int .i64 K, .int .i64 N, .int .i64 F, .bool b] 29) := ⟨_, rfl⟩
      obtain ⟨g, hg⟩ : ∃ g, g = wr.heap.size := ⟨_, rfl⟩
      rw [← hWo, ← hg] at HO
      rw [← hWo, ← hg]
      clear hWo hg c1 c2 c3 c4
      have o1 : Wo.cell? ⟨g, 1, none⟩ = some (.int .i64 N) := HO.out.o.cell 1
      have o2 : Wo.cell? ⟨g, 2, none⟩ = some (.int .i64 F) := HO.out.o.cell 2
      have o3 : Wo.cell? ⟨g, 3, none⟩ = some (.bool b) := HO.out.o.cell 3
      by_cases h100 : k < 100
      · go_wp2_with fail
        refine (HO.out.acked OK.out N F HN.out b).mono ?_
        rintro e w3 ⟨rfl, H3⟩
        go_wp2_with fail
        go_roundw
        case rel => exact ⟨k + 1, by omega, by go_num, _, H3.out.s, by rw [show min (k + 1) 100 = min k 100 + 1 by omega]; exact ack_ok OK.out _ _ _ (by omega)⟩
        case measure => simp [intOf]; omega
      · go_wp2_with fail
        go_roundw
        case rel => exact ⟨k + 1, by omega, by go_num, _, HO.out.s, by rw [show min (k + 1) 100 = min k 100 by omega]; exact OK.out⟩
        case measure => simp [intOf]; omega
    · obtain rfl : k = ns := by omega
      have OK2 : Hid (x.Ok 100) := OK.out.more (by omega) (by omega)
      clear OK
      go_wp2_with fail
      go_loopw [45] (fun i wr => ∃ j : Nat, j ≤ 20 ∧ i = .int .i64 j ∧ ∃ x, Hid (S1 w wr p x) ∧ Hid (x.Ok 100) ∧ Hid (x.s ≤ 4800 ∨ x.s * 2 ^ j ≤ 1048576)) (fun i _ => 20 - (intOf i).toNat)
      case atStart => exact ⟨0, Nat.zero_le _, rfl, x, HX, OK2, .inr (by have := OK2.out.s2; omega)⟩
      case round =>
        obtain ⟨j, hj, rfl, x, HX, OK, HS⟩ := hrel
        by_cases hlt : j < 20
        · have hs1 := OK.out.s1
          have hs2 := OK.out.s2
          have HH := Lib.hid (halves hs1 HS.out)
          have HL := Lib.hid (lost_ok OK.out)
          have hm : half x = max (x.s / 2) 4800 := rfl
          have hw : (4800 ≤ x.s / 2 ∧ max (x.s / 2) 4800 = x.s / 2) ∨ (x.s / 2 < 4800 ∧ max (x.s / 2) 4800 = 4800) := by omega
          go_wp2_with fail
          refine HX.out.size.mono ?_
          rintro e w3 ⟨rfl, H3⟩
          have HL1 := Lib.hid (H3.out.lost OK.out)
          obtain ⟨y, hy⟩ : ∃ y, y = lost x := ⟨_, rfl⟩
          have hy1 : y.s = half x := by rw [hy]; rfl
          have hy2 : y.t = half x := by rw [hy]; rfl
          rw [← hy] at HL HL1
          clear hy HX H3
          rw [hm] at hy1 hy2
          obtain ⟨s, hse⟩ : ∃ s, s = x.s := ⟨_, rfl⟩
          rw [← hse] at hs1 hs2 HH hw hy1 hy2 ⊢
          clear hse hm HS OK
          obtain ⟨z, hz⟩ : ∃ z, z = max (s / 2) 4800 := ⟨_, rfl⟩
          rw [← hz] at hy1 hy2 HH hw
          clear hz
          go_wp2_with fail
          refine HL1.out.mono ?_
          rintro e w4 ⟨rfl, H4⟩
          go_wp2_with fail
          refine H4.out.size.mono ?_
          rintro e w5 ⟨rfl, H5⟩
          rw [hy1, hy2]
          have HY := Lib.hid hy1
          clear hy1 hy2
          rcases hw with ⟨hw, rfl⟩ | ⟨hw, rfl⟩
          all_goals
            go_wp2_with fail
            all_goals
              go_roundw
              case rel => exact ⟨j + 1, by omega, by go_num, y, H5, HL, by rw [HY.out]; exact HH.out⟩
              case measure => simp [intOf]; omega
        · obtain rfl : j = 20 := by omega
          have hs1 := OK.out.s1
          have hx : half x = 4800 := by have := HS.out; unfold half; omega
          have OKL := Lib.hid (late_ok OK.out)
          have HL := Lib.hid (HX.out.late OK.out)
          obtain ⟨y, hy⟩ : ∃ y, y = late x := ⟨_, rfl⟩
          have hy1 : y.s = 1200 := by rw [hy]; rfl
          have hy2 : y.t = 4800 := by rw [hy]; exact hx
          rw [← hy] at OKL HL
          clear hy hx OK HX hs1 HS
          obtain ⟨n, hn, hnb⟩ := u64rem a1 3 (by omega) (by omega)
          go_wp2_with fail
          refine HL.out.mono ?_
          rintro e w3 ⟨rfl, H3⟩
          go_wp2_with fail
          refine H3.out.size.mono ?_
          rintro e w4 ⟨rfl, H4⟩
          rw [hy1, hy2]
          have HY1 := Lib.hid hy1
          have HY2 := Lib.hid hy2
          clear hy1 hy2
          go_upto_region 23 with (fail)
          obtain ⟨m, hm⟩ : ∃ m : Nat, m = n + 1 := ⟨_, rfl⟩
          have hm3 : m ≤ 3 := by omega
          rw [show (1 : Int) + (n : Int) = (m : Int) by omega]
          clear hm hnb hn
          go_wp2_with fail
          go_loopw [92] (fun i wr => ∃ j : Nat, j ≤ m ∧ i = .int .i64 j ∧ ∃ x, Hid (S1 w wr p x) ∧ Hid (x.Ok (100 + j)) ∧ Hid (x.s = 1200 + 1200 * j ∧ x.t = 4800)) (fun i _ => m - (intOf i).toNat)
          case atStart => exact ⟨0, Nat.zero_le _, rfl, y, H4, OKL, ⟨by rw [HY1.out]; rfl, HY2.out⟩⟩
          case round =>
            obtain ⟨j, hj, rfl, x, HX, OK, HS⟩ := hrel
            have hs := HS.out.1
            by_cases hlt : j < m
            · go_wp2_with fail
              refine HX.out.size.mono ?_
              rintro e w5 ⟨rfl, H5⟩
              have HA5 := Lib.hid (H5.out.acked OK.out 1200 x.s (by omega) true)
              have HE : Hid ((ack x 1200 x.s true).s = 1200 + 1200 * ((j + 1 : Nat) : Int) ∧ (ack x 1200 x.s true).t = 4800) := by
                have h2 := HS.out.2
                unfold ack
                rw [if_pos (by omega), if_pos ⟨rfl, Int.le_refl _⟩]
                refine ⟨?_, h2⟩
                show min (x.s + min (cl 1200) 1200) 1048576 = _
                have : cl 1200 = 1200 := rfl
                omega
              clear hs
              go_wp2_with fail
              refine HA5.out.mono ?_
              rintro e w6 ⟨rfl, H6⟩
              go_wp2_with fail
              go_roundw
              case rel => exact ⟨j + 1, by omega, by go_num, _, H6, ack_ok OK.out _ _ _ (by omega), HE⟩
              case measure => simp [intOf]; omega
            · obtain rfl : j = m := by omega
              go_wp2_with fail
              refine HX.out.size.mono ?_
              rintro e w5 ⟨rfl, H5⟩
              rw [hs]
              clear hs
              go_wp2_with fail
              go_ret
              refine ⟨?_, H5.out.b⟩
              simp

/-! ### The row's step -/
set_option maxRecDepth 100000 in
theorem lifted (os : Os) (started : os.Started) (H : Type) (enc : TypeId × Value → H) :
    ReturnsInHanded {} Try.checked os 5 .any (Rows.windHalvesSpec.pre6 enc Try.prog Try.f5 Rows.windHalvesRow.domain false) (Rows.windHalvesSpec.post enc Try.prog Try.f5 false true false false) := by
  refine returnsInHanded_of_change (C := Try.checked) own started (by kernel_rfl) Try.func5
    (ChangeSpec.witness6 (enc := enc) (C := Try.checked) false ⟨#[], #[.slice none 0 0, .int .i64 0], []⟩ 8 (by kernel_rfl) (by kernel_rfl) (by kernel_rfl) (by kernel_rfl)) ?_
  intro W base args ds gs before hval0 hW hcnd _
  have hval : ∀ (j : Nat) t v, Try.f5.params[j]? = some t → args[j]? = some v → Value.okWide Try.prog W .any base t v := hval0
  have hW' := hW
  obtain ⟨p, q, hA0, hV, rfl, hfz, hnd⟩ := hW
  have hA : DataW.TrodAll enc Try.prog W 0 (fun _ => true) true Try.f5.params.toList args.toList ds p := hA0
  rw [Try.params5] at hA hval
  obtain ⟨v0, vs0, d0, ds0, p0, q0, hargs, rfl, rfl, h0, r0⟩ := trodAll_cons hA
  obtain ⟨v1, vs1, d1, ds1, p1, q1, rfl, rfl, rfl, h1, r1⟩ := trodAll_cons r0
  obtain ⟨rfl, rfl, rfl⟩ := trodAll_nil r1
  obtain rfl : args = #[v0, v1] := by cases args; simp_all
  obtain ⟨rfl, rfl⟩ := trodVars_none hV
  have lt0 : ∀ x ∈ p0, x.block < W.heap.size := by obtain ⟨m, hm⟩ := h0; exact DataW.trod_lt m _ _ _ hm
  obtain ⟨a1, rfl, rfl, rfl, w1⟩ := open_int Try.underlying3 (hval 1 3 v1 rfl rfl) h1
  clear hA0 hval0
  refine (walk v0 d0 p0 a1 W (hval 0 22 v0 rfl rfl) h0 w1).mono fun e W' ⟨he, bel⟩ => ?_
  subst he
  exact ⟨_, rfl, _, _, _, [], _, [], hW', trodAll_mk1 (shut_bool Try.underlying4 _), (trodAll_cons_mk (Below.trod laidOut (by kernel_rfl) (of_decide_eq_true (by kernel_rfl)) h0 bel lt0) (trodAll_cons_mk (shut_int Try.underlying3 w1) trodAll_mk0)), rfl, bel.frame _, fun h => by cases h⟩

theorem over : Rows.windHalvesRow.holds Try.pinned (OpenSpec.ofChange Rows.windHalvesSpec) :=
  OpenClaim.holds_of_wide 5 Try.f5 rfl rfl rfl rfl rfl rfl rfl ⟨rfl, rfl, rfl, rfl, rfl⟩ rfl rfl rfl rfl rfl (by kernel_rfl) Try.func5 (by kernel_rfl)
    (of_decide_eq_true (by kernel_rfl)) (by unfold Func.isWrapper; first | (rw [if_pos (by decide +kernel)]; kernel_rfl) | (rw [if_neg (by decide +kernel)]; exact ⟨rfl, rfl⟩))
    (fun os started H enc _ => lifted os started H enc)

theorem proved : Rows.WindHalvesSaid := over
#print axioms proved
end Go.Proofs.Ytabjlmedcbnnpaa.windHalves
