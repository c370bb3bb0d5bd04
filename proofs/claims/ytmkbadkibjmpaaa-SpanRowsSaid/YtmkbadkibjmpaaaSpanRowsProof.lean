/-
  PROVED: SpanRows of flumelaw02 answers true for every input, and its arguments read afterwards as before. CONDITIONS: none beside the form's own.
  (The frame was written by the kit's proof-skeleton; the walk is mine.)
-/
import Derived.Test.YtmkbadkibjmpaaaRows
import Derived.Test.YtmkbadkibjmpaaaSpanOrd
import Derived.WalkKit
import Derived.ProofKit
import Derived.OpenShut
import Derived.ShutString
import Derived.ChangeOld
import Derived.Below
namespace Go.Proofs.Ytmkbadkibjmpaaa.spanRows
open Go.ChangeShapes Go.WideShapes Go.ChangeAt Go.RowKit
open Go.ChangeMaps (open_string shut_string)
set_option linter.unusedVariables false

theorem own : ownKnob Try.prog.godebug = none := by kernel_rfl
theorem laidOut : laidOutB Try.prog = true := by kernel_rfl

/-- WHAT THE WALK IS TOLD OF A SLICE OF INTEGERS THAT CAME IN: it is nil; or it leads to a row of 'cap' cells, the numbers 'zs' (the first 'len' are its elements, the rest its spare room), each fitting its kind. -/
def IsRow (k : IntKind) (w : World) (a : Option Addr) (len cap : Nat) (zs : List Int) : Prop :=
  (a = none ∧ len = 0 ∧ cap = 0 ∧ zs = []) ∨
  ∃ x, a = some x ∧ len ≤ cap ∧ cap ≤ maxLen ∧ zs.length = cap ∧ (∀ i, i < zs.length → w.cell? (x.add i) = some (.int k (zs.getD i 0))) ∧ ∀ n ∈ zs, (Lit.int k n).wf = true

/-! ### STEP 1: THE WALK: the Go text returns true, AND WRITES NOTHING THAT WAS THERE: 'Below w.heap.size w w'' (Derived/Below.lean: '.refl', '.alloc', '.drew', '.setCell' at a new block, '.trans'). Open each 'IsRow' by 'rcases' AHEAD of 'go_enter'; part every test ahead of the walk. -/
open Ser Span
theorem elem {w w' : World} {a : Option Addr} {len : Nat} {z : List Int} (hr : ∀ i, i < len → ∃ x, a = some x ∧ x.block < w.heap.size ∧ w.cell? (x.add i) = some (.int .u16 (z.getD i 0)) ∧ (Lit.int .u16 (z.getD i 0)).wf = true) (hb : Below w.heap.size w w') {i : Nat} (hi : i < len) :
    ∃ x q, a = some x ∧ w'.cell? (x.add i) = some (.int .u16 q) ∧ 0 ≤ q ∧ q ≤ 65535 := by
  obtain ⟨x, ha, hx, hc, hw⟩ := hr i hi
  have hz := bounds_u16 hw
  exact ⟨x, z.getD i 0, ha, row_later hb hx hc, hz.1, hz.2⟩
/-- The set after the first loop's rounds. -/
def WSt (w wr : World) (p : Nat) : Prop := ∃ v M rs, SetAt wr w.heap.size p v M rs ∧ Gp 2 rs ∧ Below w.heap.size w wr
theorem WSt.below {w wr : World} {p : Nat} (h : WSt w wr p) : Below w.heap.size w wr := by
  obtain ⟨v, M, rs, h1, h2, h3⟩ := h
  exact h3
theorem WSt.add {w wr : World} {p : Nat} {t : Int} (h : WSt w wr p) (ht : 0 ≤ t ∧ t ≤ 4294967295) :
    Calls Try.prog 13 #[ptr p, .int .u32 t] wr fun e w' => (∃ n, e = .returned (.int .i64 n)) ∧ WSt w w' p := by
  obtain ⟨v, M, rs, h1, h2, h3⟩ := h
  refine (add_t h1 h2 ht h3.size).mono ?_
  rintro e w' ⟨v', kk, rs', rfl, hs, hg, hA, _, T⟩
  exact ⟨⟨_, rfl⟩, v', _, rs', hs, hg, h3.trans (h1.below_of T)⟩
/-- All rows from the k-th on begin behind 'last' and a gap. -/
def Ahead (rs : List (Nat × Nat)) (k last : Nat) : Prop := ∀ j (h : j < rs.length), k ≤ j → last + 2 ≤ rs[j].1
theorem ahead_next {rs : List (Nat × Nat)} {k : Nat} (hg : Gp 2 rs) (hk : k < rs.length) : Ahead rs (k + 1) rs[k].2 := by
  intro j hj hkj
  have := List.pairwise_iff_getElem.1 hg.1 k j hk hj (by omega)
  omega
theorem has_row {rs : List (Nat × Nat)} {k : Nat} (hg : Gp 2 rs) (hk : k < rs.length) : hasB rs (rs[k].2 + 1) = false ∧ hasB rs rs[k].1 = true ∧ hasB rs rs[k].2 = true := by
  have hr := hg.2 _ (List.getElem_mem hk)
  have kn : ∀ x, rs[k].1 ≤ x → x ≤ rs[k].2 → knB rs x = true := fun x h1 h2 => (knB_iff rs x).2 ⟨_, List.getElem_mem hk, h1, h2⟩
  refine ⟨?_, ?_, ?_⟩
  · unfold hasB
    have e : knB rs (rs[k].2 + 1) = false := by
      cases hb : knB rs (rs[k].2 + 1)
      · rfl
      · obtain ⟨s, hs, s1, s2⟩ := (knB_iff _ _).1 hb
        obtain ⟨j, hj, rfl⟩ := List.getElem_of_mem hs
        rcases Nat.lt_trichotomy k j with h | h | h
        · have := List.pairwise_iff_getElem.1 hg.1 k j hk hj h; omega
        · subst h; omega
        · have := List.pairwise_iff_getElem.1 hg.1 j k hj hk h; omega
    rw [e]; simp; omega
  · unfold hasB; rw [kn _ (Nat.le_refl _) hr.2.1]; simp
  · unfold hasB; rw [kn _ hr.2.1 (Nat.le_refl _)]; simp
theorem told_all {rs : List (Nat × Nat)} (hg : Gp 2 rs) : told rs 5000 = rs.length := by
  have := gp_len hg
  unfold told
  omega
set_option maxRecDepth 100000 in
set_option maxHeartbeats 2000000 in
theorem walk (a0 : Int) (a1 : Option Addr) (len1 cap1 : Nat) (z1 : List Int) (w : World) (w0 : (Lit.int .u32 a0).wf = true) (w1 : IsRow .u16 w a1 len1 cap1 z1) :
    Calls Try.prog 7 #[.int .u32 a0, .slice a1 len1 cap1] w fun e w' => e = .returned (.bool true) ∧ Below w.heap.size w w' := by
  have hM : 0 ≤ a0 ∧ a0 ≤ 4294967295 := bounds_u32 w0
  obtain ⟨hcap, hlen, hrow⟩ := row_of w1
  have HR := Lib.hid hrow
  clear hrow w1 w0
  go_enter Try.func7, Try.ntmps7
  go_wp2_with fail
  refine (first_span w).mono ?_
  rintro e W1 ⟨rfl, hb1⟩
  go_wp2_with fail
  refine (new_any a0 hM w.heap.size W1 hb1.size).mono ?_
  rintro e W2 ⟨rfl, hs2, hb2⟩
  have HO : Hid (WSt w W2 W1.heap.size) := ⟨_, a0, [], hs2, gp_nil 2, hb1.trans (hb2.mono hb1.size)⟩
  clear hs2 hb1 hb2
  go_wp2_with fail
  go_loopw [18] (fun i wr => ∃ k : Nat, k ≤ len1 ∧ i = .int .i64 k ∧ Hid (WSt w wr W1.heap.size)) (fun i _ => len1 - (intOf i).toNat)
  case atStart => exact ⟨0, Nat.zero_le _, rfl, HO⟩
  case round =>
    obtain ⟨wo, rfl⟩ : ∃ wo : World, wo = wr := ⟨_, rfl⟩
    obtain ⟨i, hk, rfl, ho⟩ := hrel
    by_cases hlt : i < len1
    · obtain ⟨x, q, rfl, hc1, hz1⟩ := elem HR.out ho.out.below hlt
      by_cases h40 : i < 60
      · go_wp2_with fail
        refine (ho.out.add (show 0 ≤ (a0 + q) % 4294967296 ∧ (a0 + q) % 4294967296 ≤ 4294967295 by omega)).mono ?_
        rintro e w1 ⟨⟨n1, rfl⟩, ho1⟩
        have HO1 := Lib.hid ho1
        clear ho1 hc1
        go_wp2
        go_roundw
        case rel => exact ⟨i + 1, by omega, by go_num, HO1⟩
        case measure => simp [intOf]; omega
      · go_wp2
        go_roundw
        case rel => exact ⟨i + 1, by omega, by go_num, ho⟩
        case measure => simp [intOf]; omega
    · obtain ⟨v, M, rs, hs, hg, hb⟩ := ho.out
      have hMM := hs.hM
      have HS := Lib.hid hs
      have HG := Lib.hid hg
      have HB := Lib.hid hb
      have hl := gp_len hg
      clear hs hg hb
      go_wp2_with fail
      refine (gaps_read HS.out HG.out 5000 (by omega)).mono ?_
      rintro e W3 ⟨u, rfl, hu, hb3⟩
      have hga := hu.out.1
      rw [told_all HG.out, List.take_length] at hga
      obtain ⟨ga, gcap, rfl, hcells⟩ := hga
      have HS3 := Lib.hid (HS.out.below hb3)
      have HB3 := Lib.hid (HB.out.trans (hb3.mono HB.out.size))
      have HCL := Lib.hid hcells
      obtain ⟨n, hn⟩ : ∃ n, n = rs.length := ⟨_, rfl⟩
      rw [← hn] at hl ⊢
      have HN := Lib.hid hn
      clear hb3 hu hcells hn
      go_wp2
      go_loopw [8, 9, 35] (fun c t j W => ∃ k last : Nat, k ≤ n ∧ last ≤ 4096 ∧ j = .int .i64 k ∧ c = .int .i64 ((cnt (rs.take k) : Nat) : Int) ∧ t = .int .i64 (last : Int) ∧ Hid (Ahead rs k last) ∧ Hid (Below W3.heap.size W3 W)) (fun _ _ j _ => n - (intOf j).toNat)
      case atStart => exact ⟨0, 0, Nat.zero_le _, by omega, rfl, rfl, rfl, fun j hj _ => (HG.out.2 _ (List.getElem_mem hj)).1, Below.refl _ _⟩
      case round =>
        obtain ⟨W, rfl⟩ : ∃ W : World, W = wr := ⟨_, rfl⟩
        obtain ⟨k, last, hk2, hla, rfl, rfl, rfl, hah, hbW⟩ := hrel
        have hc := cnt_le (gp_take HG.out k)
        by_cases hlt2 : k < n
        · have hk3 : k < rs.length := by rw [← HN.out]; exact hlt2
          rcases HCL.out with h0 | ⟨g, rfl, hgl, hcl⟩
          · rw [h0] at hk3; simp at hk3
          obtain ⟨c0, c1⟩ := hcl k hk3
          have c0 : W.cell? ⟨g, k * 2, none⟩ = _ := (hbW.out.cell (p := ⟨g, k * 2, none⟩) hgl).trans c0
          have c1 : W.cell? ⟨g, k * 2 + 1, none⟩ = _ := (hbW.out.cell (p := ⟨g, k * 2 + 1, none⟩) hgl).trans c1
          have hr := HG.out.2 _ (List.getElem_mem hk3)
          have hct := cnt_take rs k hk3
          have hhr := has_row HG.out hk3
          have hnx := ahead_next HG.out hk3
          have hl2 := hah.out k hk3 (Nat.le_refl _)
          obtain ⟨x, hx⟩ : ∃ x, x = rs[k] := ⟨_, rfl⟩
          rw [← hx] at c0 c1 hr hct hhr hnx hl2
          obtain ⟨m, hm⟩ : ∃ m, m = cnt (rs.take k) := ⟨_, rfl⟩
          rw [← hm] at hc hct ⊢
          have HHR := Lib.hid hhr
          have HCT := Lib.hid hct
          have HNX := Lib.hid hnx
          have HSW := Lib.hid (HS3.out.below hbW.out)
          have hd1 : decide ((x.1 : Int) < (last : Int) + 2) = false := decide_eq_false (by omega)
          have hd2 : decide ((x.2 : Int) < (x.1 : Int)) = false := decide_eq_false (by omega)
          have hd3 : decide (x.2 < x.1) = false := decide_eq_false (by omega)
          have hd4 : decide (x.1 < last + 2) = false := decide_eq_false (by omega)
          clear hhr hct hnx hx hm hcl
          go_wp2_with fail
          obtain ⟨Wd, hWd⟩ : ∃ Wd, Wd = W.alloc (.cells #[.int .u16 (x.1 : Int), .int .u16 (x.2 : Int)] 44) := ⟨_, rfl⟩
          have d0 : Wd.cell? ⟨W.heap.size, 0, none⟩ = some (.int .u16 (x.1 : Int)) := by rw [hWd]; go_simp
          have d1 : Wd.cell? ⟨W.heap.size, 1, none⟩ = some (.int .u16 (x.2 : Int)) := by rw [hWd]; go_simp
          have l1 : W.heap.size < Wd.heap.size := by rw [hWd]; simp
          have hbd : Below W.heap.size W Wd := by rw [hWd]; exact (Below.refl _ _).alloc (Nat.le_refl _) _
          have HSD := Lib.hid (HSW.out.below hbd)
          have HBD := Lib.hid (hbW.out.trans (hbd.mono hbW.out.size))
          rw [← hWd]
          have hbr : Below Wd.heap.size Wd Wd.drew := (Below.refl _ _).drew
          have HCM : Hid (∀ V, Below Wd.heap.size Wd V → Calls Try.prog 17 #[ptr W1.heap.size] V fun e w' => e = .returned (.int .u32 M) ∧ V = w') := fun V hV => mark_any (HSD.out.below hV)
          have HC1 : Hid (∀ V, Below Wd.heap.size Wd V → Calls Try.prog 18 #[ptr W1.heap.size, .int .u32 (adr M (x.2 + 1))] V fun e w' => e = .returned (.bool false) ∧ Below V.heap.size V w') := fun V hV => by
            have := has_any (d := x.2 + 1) (HSD.out.below hV) HG.out (by omega)
            rwa [HHR.out.1] at this
          have HC2 : Hid (∀ V, Below Wd.heap.size Wd V → Calls Try.prog 18 #[ptr W1.heap.size, .int .u32 (adr M x.1)] V fun e w' => e = .returned (.bool true) ∧ Below V.heap.size V w') := fun V hV => by
            have := has_any (d := x.1) (HSD.out.below hV) HG.out (by omega)
            rwa [HHR.out.2.1] at this
          have HC3 : Hid (∀ V, Below Wd.heap.size Wd V → Calls Try.prog 18 #[ptr W1.heap.size, .int .u32 (adr M x.2)] V fun e w' => e = .returned (.bool true) ∧ Below V.heap.size V w') := fun V hV => by
            have := has_any (d := x.2) (HSD.out.below hV) HG.out (by omega)
            rwa [HHR.out.2.2] at this
          have u1 : IntKind.u32.wrap (M + (x.2 : Int)) = adr M x.2 := by rw [IntKind.wrap_u32]; rfl
          have u2 : IntKind.u32.wrap (adr M x.2 + 1) = adr M (x.2 + 1) := by rw [IntKind.wrap_u32]; exact adr_succ M x.2
          have u3 : IntKind.u32.wrap (M + (x.1 : Int)) = adr M x.1 := by rw [IntKind.wrap_u32]; rfl
          have u4 : (M + (x.2 : Int)) % 4294967296 = adr M x.2 := rfl
          have u5 : (adr M x.2 + 1) % 4294967296 = adr M (x.2 + 1) := adr_succ M x.2
          have u6 : (M + (x.1 : Int)) % 4294967296 = adr M x.1 := rfl
          have u0 : IntKind.i64.wrap ((last : Int) + 2) = (last : Int) + 2 := by rw [IntKind.wrap_i64]; omega
          have v1 : IntKind.i64.wrap (x.1 : Int) = (x.1 : Int) := by rw [IntKind.wrap_i64]; omega
          have v2 : IntKind.i64.wrap (x.2 : Int) = (x.2 : Int) := by rw [IntKind.wrap_i64]; omega
          have v3 : IntKind.u32.wrap (x.1 : Int) = (x.1 : Int) := by rw [IntKind.wrap_u32]; omega
          have v4 : IntKind.u32.wrap (x.2 : Int) = (x.2 : Int) := by rw [IntKind.wrap_u32]; omega
          clear hWd c0 c1 hbd
          go_region_held3 (fun w' => Below Wd.heap.size Wd w' ∧ w'.cell? ⟨W.heap.size, 0, none⟩ = some (.int .u16 (x.1 : Int)) ∧ w'.cell? ⟨W.heap.size, 1, none⟩ = some (.int .u16 (x.2 : Int)))
            (first
              | exact ⟨hbr, d0, d1⟩
              | go_keep
              | (go_split_ands
                 refine ⟨?_, ?_, ?_⟩
                 · exact Below.trans (by assumption) (hbN.mono (Below.size (by assumption)))
                 · exact (hbN.cell (p := ⟨W.heap.size, 0, none⟩) (Nat.lt_of_lt_of_le l1 (Below.size (by assumption)))).trans (by assumption)
                 · exact (hbN.cell (p := ⟨W.heap.size, 1, none⟩) (Nat.lt_of_lt_of_le l1 (Below.size (by assumption)))).trans (by assumption)))
            (first
              | (go_at_call 17; go_split_ands; (refine (HCM.out _ (by assumption)).mono ?_); rintro e w' ⟨rfl, rfl⟩)
              | (go_at_call 18; go_split_ands; (with_reducible refine (HC1.out _ ?_).mono ?_); (assumption); rintro e wN ⟨rfl, hbN⟩)
              | (go_at_call 18; go_split_ands; (with_reducible refine (HC2.out _ ?_).mono ?_); (assumption); rintro e wN ⟨rfl, hbN⟩)
              | (go_at_call 18; go_split_ands; (with_reducible refine (HC3.out _ ?_).mono ?_); (assumption); rintro e wN ⟨rfl, hbN⟩))
          have hbw : Below Wd.heap.size Wd wN := Below.trans (by assumption) (hbN.mono (Below.size (by assumption)))
          have e0 := (hbw.cell (p := ⟨W.heap.size, 0, none⟩) l1).trans d0
          have e1 := (hbw.cell (p := ⟨W.heap.size, 1, none⟩) l1).trans d1
          have HBE := Lib.hid (HBD.out.trans (hbw.mono HBD.out.size))
          clear u0 u1 u2 u3 u4 u5 u6 v1 v2 v3 v4 hd1 hd2 hd3 hd4
          go_wp2
          go_roundw
          case rel =>
            refine ⟨k + 1, x.2, by omega, by omega, by go_num, ?_, rfl, HNX, HBE⟩
            rw [HCT.out]
            congr 1
            omega
          case measure => simp [intOf]; omega
        · obtain rfl : k = n := by omega
          have HSW := Lib.hid (HS3.out.below hbW.out)
          have HBW := Lib.hid (HB3.out.trans (hbW.out.mono HB3.out.size))
          have hct : cnt (rs.take k) = cnt rs := by rw [HN.out, List.take_length]
          obtain ⟨m, hm⟩ : ∃ m, m = cnt rs := ⟨_, rfl⟩
          rw [hct, ← hm]
          have HM2 := Lib.hid hm
          have CL := len_any HSW.out HG.out
          rw [← hm] at CL
          have HCL2 := Lib.hid CL
          clear hct hm CL
          go_wp2_with fail
          refine HCL2.out.mono ?_
          rintro e w5 ⟨rfl, hb5⟩
          have HS5 := Lib.hid (HSW.out.below hb5)
          have HB5 := Lib.hid (HBW.out.trans (hb5.mono HBW.out.size))
          clear hb5
          go_wp2_with fail
          refine (mark_any HS5.out).mono ?_
          rintro e w6 ⟨rfl, rfl⟩
          have CH := has_any (d := 1) HS5.out HG.out (by omega)
          have hh : hasB rs 1 = false := by unfold hasB; rw [kn_far HG.out (by omega)]; simp
          rw [hh, show adr M 1 = (M + 1) % 4294967296 from rfl] at CH
          have HCH := Lib.hid CH
          clear CH hh
          go_wp2_with fail
          refine HCH.out.mono ?_
          rintro e w7 ⟨rfl, hb7⟩
          have HB7 := Lib.hid (HB5.out.trans (hb7.mono HB5.out.size))
          clear hb7
          go_wp2
          go_ret
          exact ⟨rfl, HB7.out⟩

/-! ### THE ROW's STEP: WRITTEN OUT: LEAVE IT -/
set_option maxRecDepth 100000 in
theorem lifted (os : Os) (started : os.Started) (H : Type) (enc : TypeId × Value → H) :
    ReturnsInHanded {} Try.checked os 7 .any (Rows.spanRowsSpec.pre6 enc Try.prog Try.f7 Rows.spanRowsRow.domain false) (Rows.spanRowsSpec.post enc Try.prog Try.f7 false true false false) := by
  refine returnsInHanded_of_change (C := Try.checked) own started (by kernel_rfl) Try.func7
    (ChangeSpec.witness6 (enc := enc) (C := Try.checked) false ⟨#[], #[.int .u32 0, .slice none 0 0], []⟩ 8 (by kernel_rfl) (by kernel_rfl) (by kernel_rfl) (by kernel_rfl)) ?_
  intro W base args ds gs before hval0 hW hcnd _
  have hval : ∀ (j : Nat) t v, Try.f7.params[j]? = some t → args[j]? = some v → Value.okWide Try.prog W .any base t v := hval0
  have hW' := hW
  obtain ⟨p, q, hA0, hV, rfl, hfz, hnd⟩ := hW
  have hA : DataW.TrodAll enc Try.prog W 0 (fun _ => true) true Try.f7.params.toList args.toList ds p := hA0
  rw [Try.params7] at hA hval
  obtain ⟨v0, vs0, d0, ds0, p0, q0, hargs, rfl, rfl, h0, r0⟩ := trodAll_cons hA
  obtain ⟨v1, vs1, d1, ds1, p1, q1, rfl, rfl, rfl, h1, r1⟩ := trodAll_cons r0
  obtain ⟨rfl, rfl, rfl⟩ := trodAll_nil r1
  obtain rfl : args = #[v0, v1] := by cases args; simp_all
  obtain ⟨rfl, rfl⟩ := trodVars_none hV
  obtain ⟨a0, rfl, rfl, rfl, w0⟩ := open_int Try.underlying22 (hval 0 22 v0 rfl rfl) h0
  obtain ⟨a1, len1, cap1, rfl⟩ := okWide_slice Try.underlying46 (hval 1 46 v1 rfl rfl)
  have k1 := h1
  have lt1 : ∀ x ∈ p1, x.block < W.heap.size := by obtain ⟨m, hm⟩ := k1; exact DataW.trod_lt m _ _ _ hm
  obtain ⟨z1, w1⟩ : ∃ zs, IsRow .u16 W a1 len1 cap1 zs := by
    obtain ⟨fuel, hf⟩ := h1
    rcases open_ints Try.underlying46 Try.underlying42 (by kernel_rfl) hf with ⟨hcs, _⟩ | ⟨x, l, c, zs, hcs, _, hl, hm, hz, _, hcell, hwz⟩
    · simp [Value.cells] at hcs
      obtain ⟨rfl, rfl, rfl⟩ := hcs
      exact ⟨[], .inl ⟨rfl, rfl, rfl, rfl⟩⟩
    · simp [Value.cells] at hcs
      obtain ⟨rfl, rfl, rfl⟩ := hcs
      exact ⟨zs, .inr ⟨_, rfl, hl, hm, by simpa using hz, hcell, hwz⟩⟩
  clear hA0 hval0
  refine (walk a0 a1 len1 cap1 z1 W w0 w1).mono fun e W' ⟨he, bel⟩ => ?_
  subst he
  exact ⟨_, rfl, _, _, _, [], _, [], hW', trodAll_mk1 (shut_bool Try.underlying4 _), (trodAll_cons_mk (shut_int Try.underlying22 w0) (trodAll_cons_mk (Below.trod laidOut (by kernel_rfl) (of_decide_eq_true (by kernel_rfl)) k1 bel lt1) trodAll_mk0)), rfl, bel.frame _, fun h => by cases h⟩

theorem over : Rows.spanRowsRow.holds Try.pinned (OpenSpec.ofChange Rows.spanRowsSpec) :=
  OpenClaim.holds_of_wide 7 Try.f7 rfl rfl rfl rfl rfl rfl rfl ⟨rfl, rfl, rfl, rfl, rfl⟩ rfl rfl rfl rfl rfl (by kernel_rfl) Try.func7 (by kernel_rfl)
    (of_decide_eq_true (by kernel_rfl)) (by unfold Func.isWrapper; first | (rw [if_pos (by decide +kernel)]; kernel_rfl) | (rw [if_neg (by decide +kernel)]; exact ⟨rfl, rfl⟩))
    (fun os started H enc _ => lifted os started H enc)

/-- ████ THE STATEMENT ████ -/
theorem proved : Rows.SpanRowsSaid := over
#print axioms proved
end Go.Proofs.Ytmkbadkibjmpaaa.spanRows
