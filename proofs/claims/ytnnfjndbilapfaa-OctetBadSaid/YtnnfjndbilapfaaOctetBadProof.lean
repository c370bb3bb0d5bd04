/-
  PROVED: OctetBad of flumelaw04 answers true for every input, and its arguments read afterwards as before. CONDITIONS: none beside the form's own.
-/
import Derived.Test.YtnnfjndbilapfaaRows
import Derived.Test.YtnnfjndbilapfaaOctLaw
import Derived.WalkKit
import Derived.ProofKit
import Derived.OpenShut
import Derived.ShutString
import Derived.ChangeOld
import Derived.Below
namespace Go.Proofs.Ytnnfjndbilapfaa.octetBad
open Go.ChangeShapes Go.WideShapes Go.ChangeAt Go.RowKit
open Go.ChangeMaps (open_string shut_string)
set_option linter.unusedVariables false

theorem own : ownKnob Try.prog.godebug = none := by kernel_rfl
theorem laidOut : laidOutB Try.prog = true := by kernel_rfl

/-- What the walk is told of a slice of integers that came in. -/
def IsRow (k : IntKind) (w : World) (a : Option Addr) (len cap : Nat) (zs : List Int) : Prop :=
  (a = none ∧ len = 0 ∧ cap = 0 ∧ zs = []) ∨
  ∃ x, a = some x ∧ len ≤ cap ∧ cap ≤ maxLen ∧ zs.length = cap ∧ (∀ i, i < zs.length → w.cell? (x.add i) = some (.int k (zs.getD i 0))) ∧ ∀ n ∈ zs, (Lit.int k n).wf = true

/-! ### The walk -/
open Words Oct
set_option maxHeartbeats 4000000 in
set_option maxRecDepth 100000 in
theorem walk (a0 : Option Addr) (len0 cap0 : Nat) (z0 : List Int) (a1 : Int) (a2 : Option Addr) (len2 cap2 : Nat) (z2 : List Int) (w : World) (w0 : IsRow .u8 w a0 len0 cap0 z0) (w1 : (Lit.int .i64 a1).wf = true) (w2 : IsRow .u8 w a2 len2 cap2 z2) :
    Calls Try.prog 6 #[.slice a0 len0 cap0, .int .i64 a1, .slice a2 len2 cap2] w fun e w' => e = .returned (.bool true) ∧ Below w.heap.size w w' := by
  obtain ⟨l, hlen, hcap, hc63, hby⟩ := bytes_of w0
  subst hlen
  obtain ⟨s, hlen2, hcap2, hc632, hby2⟩ := bytes_of w2
  subst hlen2
  have ha1 := bounds_i64 w1
  obtain ⟨x, hx⟩ : ∃ x, x = l.take 2000 := ⟨_, rfl⟩
  have hx1 : l.length ≤ 2000 → x = l := fun h => by rw [hx, List.take_of_length_le h]
  have hx2 : ¬ l.length ≤ 2000 → x.length = 2000 := fun h => by rw [hx, List.length_take]; omega
  have hx3 : x.length ≤ 2000 ∧ x.length ≤ l.length := by rw [hx, List.length_take]; omega
  have hbx : Byt w w.heap.size a0 x := by rw [hx]; exact hby.take_ 2000
  have HX1 := Lib.hid hx1
  have HX2 := Lib.hid hx2
  have HBX := Lib.hid hbx
  have HBS := Lib.hid hby2
  obtain ⟨hx3, hx4⟩ := hx3
  clear hx hx1 hx2 hby hby2 hbx w0 w1 w2
  obtain ⟨m, hm⟩ : ∃ m, m = s.length := ⟨_, rfl⟩
  have HM := Lib.hid hm
  rw [← hm] at hcap2 ⊢
  clear hm
  go_enter Try.func6, Try.ntmps6
  go_wp2_with fail
  refine (first_any w).mono ?_
  rintro e W1 ⟨rfl, hb1⟩
  have HB1 := Lib.hid hb1
  clear hb1
  go_upto_region 3 with (fail)
  go_cut [7] from 15 to 20 (fun s7 wx => ∃ n, s7 = .slice a0 n cap0 ∧ Hid (n = x.length) ∧ n ≤ 2000 ∧ Hid (Below w.heap.size w wx))
  case first =>
    by_cases h3 : (l.length : Int) ≤ 2000
    · have hxl := HX1.out (by omega)
      subst hxl
      go_wp2_with fail
      go_meet
      exact ⟨_, rfl, rfl, hx3, HB1.out⟩
    · go_wp2_with fail
      go_meet
      exact ⟨2000, rfl, (HX2.out (by omega)).symm, by omega, HB1.out⟩
  case rest =>
    obtain ⟨n, rfl, HN, hn2, HB2⟩ := hcut
    go_wp2_with fail
    refine (newReader_any a0 x n cap0 wc HN.out (by omega) ((HBX.out.below HB2.out).more HB2.out.size)).mono ?_
    rintro e W3 ⟨p, G, rfl, hr3, hG, hb3⟩
    have hG3 : w.heap.size ≤ p := by have := HB2.out.size; have := hr3.le; omega
    have HR3 := Lib.hid hr3
    have HB3 := Lib.hid (HB2.out.trans (hb3.mono HB2.out.size))
    clear hr3 hb3 hG
    obtain ⟨q, hq, hqb⟩ := u64rem a1 1000 (by omega) (by omega)
    go_upto_if 31 with (fail)
    rw [hq]
    clear hq
    go_cut [9] from 31 to 33 (fun s9 wx => ∃ nn : Int, s9 = .int .i64 nn ∧ (nn < 0 ∨ (n : Int) < nn) ∧ wx = W3)
    case first =>
      by_cases hneg : a1 < 0
      · go_wp2_with fail
        go_meet
        exact ⟨_, rfl, .inl hneg, rfl⟩
      · go_wp2_with fail
        go_meet
        exact ⟨_, rfl, .inr (by omega), rfl⟩
    case rest =>
      obtain ⟨nn, rfl, hnn, rfl⟩ := hcut
      clear hqb
      go_wp2_with fail
      refine (rd_take_no HR3.out (by rw [← HN.out]; exact hnn)).mono ?_
      rintro e W4 ⟨v4, rfl, ho4, hr4, hf4⟩
      obtain ⟨A4, c4, rfl, HY4⟩ := own_len (n := 0) ho4 rfl
      have HR4 := Lib.hid hr4
      have HB4 := Lib.hid (rd_below HB3.out (Nat.le_refl _) hG3 hf4)
      clear ho4 hr4 hf4 hnn
      go_wp2_with fail
      refine (rd_good HR4.out).mono ?_
      rintro e W5 ⟨rfl, rfl⟩
      go_wp2_with fail
      go_loopw [11, 12, 45] (fun _ _ i wr => ∃ k : Nat, k ≤ m ∧ i = .int .i64 k ∧ Hid (Rd wr p G [] true) ∧ Hid (Below w.heap.size w wr)) (fun _ _ i _ => m - (intOf i).toNat)
      case atStart => exact ⟨0, by omega, rfl, HR4.out, HB4.out⟩
      case round =>
        obtain ⟨k, hk, rfl, HR, HB⟩ := hrel
        by_cases hlt : k < m
        · by_cases h30 : k < 30
          · have hk2 : k < s.length := by rw [← HM.out]; exact hlt
            obtain ⟨ad, rfl, _, hc⟩ := (HBS.out.below HB.out).at_byte hk2
            obtain ⟨z, hz⟩ : ∃ z, z = s[k] := ⟨_, rfl⟩
            rw [← hz] at hc
            have hzb := u8_bd z
            clear hz
            have hz4 : (z.toNat : Int) % 4 = 0 ∨ (z.toNat : Int) % 4 = 1 ∨ (z.toNat : Int) % 4 = 2 ∨ (z.toNat : Int) % 4 = 3 := by omega
            rcases hz4 with h4 | h4 | h4 | h4
            · go_wp2_with fail
              refine (rd_u8_no HR.out (by simp)).mono ?_
              rintro e w2 ⟨rfl, hr2, hf2⟩
              go_wp2_with fail
              go_roundw
              case rel => exact ⟨k + 1, by omega, by go_num, hr2, rd_below HB.out (Nat.le_refl _) hG3 hf2⟩
              case measure => simp [intOf]; omega
            · go_wp2_with fail
              refine (rd_u16_no HR.out (by simp)).mono ?_
              rintro e w2 ⟨rfl, hr2, hf2⟩
              go_wp2_with fail
              go_roundw
              case rel => exact ⟨k + 1, by omega, by go_num, hr2, rd_below HB.out (Nat.le_refl _) hG3 hf2⟩
              case measure => simp [intOf]; omega
            · go_wp2_with fail
              refine (rd_u32_no HR.out (by simp)).mono ?_
              rintro e w2 ⟨rfl, hr2, hf2⟩
              go_wp2_with fail
              go_roundw
              case rel => exact ⟨k + 1, by omega, by go_num, hr2, rd_below HB.out (Nat.le_refl _) hG3 hf2⟩
              case measure => simp [intOf]; omega
            · go_wp2_with fail
              refine (rd_take_end HR.out).mono ?_
              rintro e w2 ⟨v2, rfl, ho2, hr2, hf2⟩
              obtain ⟨A2, c2, rfl, HY2⟩ := own_len (n := 0) ho2 rfl
              go_wp2_with fail
              go_roundw
              case rel => exact ⟨k + 1, by omega, by go_num, hr2, rd_below HB.out (Nat.le_refl _) hG3 hf2⟩
              case measure => simp [intOf]; omega
          · have hk2 : k < s.length := by rw [← HM.out]; exact hlt
            obtain ⟨ad, rfl, _, hc⟩ := (HBS.out.below HB.out).at_byte hk2
            go_wp2_with fail
            refine (rd_good HR.out).mono ?_
            rintro e w2 ⟨rfl, rfl⟩
            go_wp2_with fail
            refine (rd_left HR.out).mono ?_
            rintro e w2 ⟨rfl, rfl⟩
            go_wp2_with fail
            refine (rd_end HR.out).mono ?_
            rintro e w2 ⟨he, rfl⟩
            obtain rfl : e = .returned (.int .i64 40) := he
            go_wp2_with fail
            go_ret
            exact ⟨rfl, HB.out⟩
        · obtain rfl : k = m := by omega
          go_wp2_with fail
          refine (rd_good HR.out).mono ?_
          rintro e w2 ⟨rfl, rfl⟩
          go_wp2_with fail
          refine (rd_left HR.out).mono ?_
          rintro e w2 ⟨rfl, rfl⟩
          go_wp2_with fail
          refine (rd_end HR.out).mono ?_
          rintro e w2 ⟨he, rfl⟩
          obtain rfl : e = .returned (.int .i64 40) := he
          go_wp2_with fail
          go_ret
          exact ⟨rfl, HB.out⟩

/-! ### The row's step -/
set_option maxRecDepth 100000 in
theorem lifted (os : Os) (started : os.Started) (H : Type) (enc : TypeId × Value → H) :
    ReturnsInHanded {} Try.checked os 6 .any (Rows.octetBadSpec.pre6 enc Try.prog Try.f6 Rows.octetBadRow.domain false) (Rows.octetBadSpec.post enc Try.prog Try.f6 false true false false) := by
  refine returnsInHanded_of_change (C := Try.checked) own started (by kernel_rfl) Try.func6
    (ChangeSpec.witness6 (enc := enc) (C := Try.checked) false ⟨#[], #[.slice none 0 0, .int .i64 0, .slice none 0 0], []⟩ 8 (by kernel_rfl) (by kernel_rfl) (by kernel_rfl) (by kernel_rfl)) ?_
  intro W base args ds gs before hval0 hW hcnd _
  have hval : ∀ (j : Nat) t v, Try.f6.params[j]? = some t → args[j]? = some v → Value.okWide Try.prog W .any base t v := hval0
  have hW' := hW
  obtain ⟨p, q, hA0, hV, rfl, hfz, hnd⟩ := hW
  have hA : DataW.TrodAll enc Try.prog W 0 (fun _ => true) true Try.f6.params.toList args.toList ds p := hA0
  rw [Try.params6] at hA hval
  obtain ⟨v0, vs0, d0, ds0, p0, q0, hargs, rfl, rfl, h0, r0⟩ := trodAll_cons hA
  obtain ⟨v1, vs1, d1, ds1, p1, q1, rfl, rfl, rfl, h1, r1⟩ := trodAll_cons r0
  obtain ⟨v2, vs2, d2, ds2, p2, q2, rfl, rfl, rfl, h2, r2⟩ := trodAll_cons r1
  obtain ⟨rfl, rfl, rfl⟩ := trodAll_nil r2
  obtain rfl : args = #[v0, v1, v2] := by cases args; simp_all
  obtain ⟨rfl, rfl⟩ := trodVars_none hV
  obtain ⟨a0, len0, cap0, rfl⟩ := okWide_slice Try.underlying22 (hval 0 22 v0 rfl rfl)
  have k0 := h0
  have lt0 : ∀ x ∈ p0, x.block < W.heap.size := by obtain ⟨m, hm⟩ := k0; exact DataW.trod_lt m _ _ _ hm
  obtain ⟨z0, w0⟩ : ∃ zs, IsRow .u8 W a0 len0 cap0 zs := by
    obtain ⟨fuel, hf⟩ := h0
    rcases open_ints Try.underlying22 Try.underlying5 (by kernel_rfl) hf with ⟨hcs, _⟩ | ⟨x, l, c, zs, hcs, _, hl, hm, hz, _, hcell, hwz⟩
    · simp [Value.cells] at hcs
      obtain ⟨rfl, rfl, rfl⟩ := hcs
      exact ⟨[], .inl ⟨rfl, rfl, rfl, rfl⟩⟩
    · simp [Value.cells] at hcs
      obtain ⟨rfl, rfl, rfl⟩ := hcs
      exact ⟨zs, .inr ⟨_, rfl, hl, hm, by simpa using hz, hcell, hwz⟩⟩
  obtain ⟨a1, rfl, rfl, rfl, w1⟩ := open_int Try.underlying3 (hval 1 3 v1 rfl rfl) h1
  obtain ⟨a2, len2, cap2, rfl⟩ := okWide_slice Try.underlying22 (hval 2 22 v2 rfl rfl)
  have k2 := h2
  have lt2 : ∀ x ∈ p2, x.block < W.heap.size := by obtain ⟨m, hm⟩ := k2; exact DataW.trod_lt m _ _ _ hm
  obtain ⟨z2, w2⟩ : ∃ zs, IsRow .u8 W a2 len2 cap2 zs := by
    obtain ⟨fuel, hf⟩ := h2
    rcases open_ints Try.underlying22 Try.underlying5 (by kernel_rfl) hf with ⟨hcs, _⟩ | ⟨x, l, c, zs, hcs, _, hl, hm, hz, _, hcell, hwz⟩
    · simp [Value.cells] at hcs
      obtain ⟨rfl, rfl, rfl⟩ := hcs
      exact ⟨[], .inl ⟨rfl, rfl, rfl, rfl⟩⟩
    · simp [Value.cells] at hcs
      obtain ⟨rfl, rfl, rfl⟩ := hcs
      exact ⟨zs, .inr ⟨_, rfl, hl, hm, by simpa using hz, hcell, hwz⟩⟩
  clear hA0 hval0
  refine (walk a0 len0 cap0 z0 a1 a2 len2 cap2 z2 W w0 w1 w2).mono fun e W' ⟨he, bel⟩ => ?_
  subst he
  exact ⟨_, rfl, _, _, _, [], _, [], hW', trodAll_mk1 (shut_bool Try.underlying4 _), (trodAll_cons_mk (Below.trod laidOut (by kernel_rfl) (of_decide_eq_true (by kernel_rfl)) k0 bel lt0) (trodAll_cons_mk (shut_int Try.underlying3 w1) (trodAll_cons_mk (Below.trod laidOut (by kernel_rfl) (of_decide_eq_true (by kernel_rfl)) k2 bel lt2) trodAll_mk0))), rfl, bel.frame _, fun h => by cases h⟩

theorem over : Rows.octetBadRow.holds Try.pinned (OpenSpec.ofChange Rows.octetBadSpec) :=
  OpenClaim.holds_of_wide 6 Try.f6 rfl rfl rfl rfl rfl rfl rfl ⟨rfl, rfl, rfl, rfl, rfl⟩ rfl rfl rfl rfl rfl (by kernel_rfl) Try.func6 (by kernel_rfl)
    (of_decide_eq_true (by kernel_rfl)) (by unfold Func.isWrapper; first | (rw [if_pos (by decide +kernel)]; kernel_rfl) | (rw [if_neg (by decide +kernel)]; exact ⟨rfl, rfl⟩))
    (fun os started H enc _ => lifted os started H enc)

theorem proved : Rows.OctetBadSaid := over
#print axioms proved
end Go.Proofs.Ytnnfjndbilapfaa.octetBad
