/-
  PROVED: CrcSeals of flumelaw03 answers true for every input, and its arguments read afterwards as before. CONDITIONS: none beside the form's own.
  (The frame was written by the kit's proof-skeleton; the walk is mine.)
-/
import Derived.Test.YtgbkmnmkejcogaaRows
import Derived.Test.YtgbkmnmkejcogaaCrcLaw
import Derived.WalkKit
import Derived.ProofKit
import Derived.OpenShut
import Derived.ShutString
import Derived.ChangeOld
import Derived.Below
namespace Go.Proofs.Ytgbkmnmkejcogaa.crcSeals
open Go.ChangeShapes Go.WideShapes Go.ChangeAt Go.RowKit
open Go.ChangeMaps (open_string shut_string)
set_option linter.unusedVariables false

theorem own : ownKnob Try.prog.godebug = none := by kernel_rfl
theorem laidOut : laidOutB Try.prog = true := by kernel_rfl

/-- WHAT THE WALK IS TOLD OF A SLICE OF INTEGERS THAT CAME IN: it is nil; or it leads to a row of 'cap' cells, the numbers 'zs' (the first 'len' are its elements, the rest its spare room), each fitting its kind. -/
def IsRow (k : IntKind) (w : World) (a : Option Addr) (len cap : Nat) (zs : List Int) : Prop :=
  (a = none ∧ len = 0 ∧ cap = 0 ∧ zs = []) ∨
  ∃ x, a = some x ∧ len ≤ cap ∧ cap ≤ maxLen ∧ zs.length = cap ∧ (∀ i, i < zs.length → w.cell? (x.add i) = some (.int k (zs.getD i 0))) ∧ ∀ n ∈ zs, (Lit.int k n).wf = true

/-! ### STEP 1: THE WALK: the Go text returns true, AND WRITES NOTHING THAT WAS THERE: 'Below w.heap.size w w'' (Derived/Below.lean: '.refl', '.alloc', '.drew', '.setCell' at a new block, '.trans'). Open each 'IsRow' by 'rcases' AHEAD of 'go_enter'; part every test ahead of the walk. -/
open Words Crc
set_option maxHeartbeats 4000000 in
theorem walk (a0 : Option Addr) (len0 cap0 : Nat) (z0 : List Int) (a1 : Int) (a2 : Int) (w : World) (w0 : IsRow .u8 w a0 len0 cap0 z0) (w1 : (Lit.int .i64 a1).wf = true) (w2 : (Lit.int .i64 a2).wf = true) :
    Calls Try.prog 3 #[.slice a0 len0 cap0, .int .i64 a1, .int .i64 a2] w fun e w' => e = .returned (.bool true) ∧ Below w.heap.size w w' := by
  obtain ⟨l, hlen, hcap, hc63, hby⟩ := bytes_of w0
  subst hlen
  have ha1 := bounds_i64 w1
  have HBY := Lib.hid hby
  clear hby w0 w1 w2
  obtain ⟨i0, hi0, hz0, hz1, hz2⟩ := info_parts3 u8_info
  obtain ⟨x, hx⟩ : ∃ x, x = l.take 3000 := ⟨_, rfl⟩
  have hx1 : l.length ≤ 3000 → x = l := fun h => by rw [hx, List.take_of_length_le h]
  have hx2 : ¬ l.length ≤ 3000 → x.length = 3000 := fun h => by rw [hx, List.length_take]; omega
  have hx3 : x.length ≤ 3000 ∧ x.length ≤ l.length := by rw [hx, List.length_take]; omega
  have HX := Lib.hid hx
  have HX1 := Lib.hid hx1
  have HX2 := Lib.hid hx2
  obtain ⟨hx3, hx4⟩ := hx3
  clear hx hx1 hx2
  go_enter Try.func3, Try.ntmps3
  go_wp2_with fail
  refine (first_any w).mono ?_
  rintro e W1 ⟨rfl, hb1⟩
  have HB1 := Lib.hid hb1
  have HE := Lib.hid (own_empty W1 5)
  clear hb1
  go_upto_region 3 with (fail)
  go_cut [7] from 14 to 20 (fun s7 wx => ∃ n A1 c1, s7 = .slice A1 n c1 ∧ Hid (n = x.length) ∧ n ≤ 3000 ∧ n ≤ l.length ∧ n ≤ c1 ∧ c1 ≤ 9223372036854775807 ∧ Hid (wx.ownsRow w.heap.size 5 1 (.slice A1 n c1) n (u8s x)) ∧ Hid (Below w.heap.size w wx))
  case first =>
    by_cases h3 : (l.length : Int) ≤ 3000
    · have hxl := HX1.out (by omega)
      subst hxl
      go_wp2_with (at_builtin; refine wpList_append_any _ rfl (.tmp 14) (.tmp 19) _ rfl W1.heap.size 5 i0 _ 1 1 Try.underlying22 hi0 hz0 hz1 hz2 rfl (by omega) (.slice (some ⟨W1.heap.size, 0, none⟩) 0 0) 0 [] rfl HE.out w.heap.size a0 x.length cap0 (u8s x) rfl ((HBY.out.below HB1.out).alloc HB1.out.size _) (u8s_one x) (by simp only [maxLen]; omega) (by omega) (by simp) ?_; intro v1 w1 hown1 hg1 hat1; obtain ⟨n, A1, c1, rfl, HN, hnq, hnc, hc1, HO, HB2⟩ := copied HB1.out hown1 rfl hg1; clear hown1 hg1 hat1)
      go_meet
      exact ⟨n, A1, c1, rfl, HN, by omega, by omega, hnc, hc1, HO, HB2⟩
    · go_wp2_with (at_builtin; refine wpList_append_any _ rfl (.tmp 14) (.tmp 19) _ rfl W1.heap.size 5 i0 _ 1 1 Try.underlying22 hi0 hz0 hz1 hz2 rfl (by omega) (.slice (some ⟨W1.heap.size, 0, none⟩) 0 0) 0 [] rfl HE.out w.heap.size a0 3000 cap0 (u8s x) rfl (by have := (((HBY.out.take_ 3000).below HB1.out).alloc HB1.out.size (.cells #[] 5)); unfold Byt at this; rw [← HX.out, HX2.out (by omega)] at this; exact this) (u8s_one x) (by simp only [maxLen]; omega) (by omega) (by simp) ?_; intro v1 w1 hown1 hg1 hat1; obtain ⟨n, A1, c1, rfl, HN, hnq, hnc, hc1, HO, HB2⟩ := copied HB1.out hown1 (HX2.out (by omega)).symm hg1; clear hown1 hg1 hat1)
      go_meet
      exact ⟨n, A1, c1, rfl, HN, by omega, by omega, hnc, hc1, HO, HB2⟩
  case rest =>
    obtain ⟨n, A1, c1, rfl, HN, hn3, hnl, hnc, hc1, HO, HB2⟩ := hcut
    go_wp2_with fail
    obtain ⟨k, hk, hkn⟩ := u64rem a2 ((n : Int) + 1) (by omega) (by omega)
    rw [hk]
    clear hk
    have hkn : k ≤ n := by omega
    have hs1 : w.heap.size ≤ wc.heap.size := HB2.out.size
    have BX : Byt wc wc.heap.size A1 x := by have := HO.out; rw [HN.out] at this; exact Reads.of_own this
    have HBX := Lib.hid BX
    go_cut [39] from 29 to 38 (fun s39 wx => s39 = .bool false ∧ Below wc.heap.size wc wx)
    case first =>
      have HS := Lib.hid (sum_two (k := k) (by omega) (Nat.le_refl _) (by rw [← HN.out]; exact hkn) BX)
      have HR := Lib.hid (fun V (hb : Below wc.heap.size wc V) => rsum_any A1 x c1 wc.heap.size V (by omega) (BX.below hb))
      have HD : Hid (Byt wc wc.heap.size (A1.map (·.add k)) (x.drop k)) := by have := BX.cut_ (k := k) (cap := x.length + k + 1) (by rw [← HN.out]; exact hkn) (by omega); rwa [if_neg (by omega)] at this
      have HD1 : Hid (n ≤ k → Byt wc wc.heap.size A1 (x.drop k)) := fun h => BX.cut_end (by rw [← HN.out]; exact h)
      have hbr := (Below.refl wc.heap.size wc).drew
      have g0 : (0 : Int) ≤ (k : Int) := by omega
      have g1 : (k : Int) ≤ (c1 : Int) := by omega
      have g2 : (k : Int) ≤ (n : Int) := by omega
      clear BX
      by_cases hck : c1 = k
      · obtain rfl : n = c1 := by omega
        subst hck
        go_region_held3 (fun w' => Below wc.heap.size wc w')
          (first | exact hbr | assumption | go_keep | exact Below.alloc (by assumption) (Below.size (by assumption)) _)
          (first
            | (go_at_call 9; (refine (HS.out _ _ n A1 (n - n) 0 ?b1 ?b2 ?b3 ?b4).mono ?_); (case b2 => (rw [Nat.sub_self]; exact Blk.new _ _ _)); (case b1 => assumption); (case b3 => rw [← HN.out]); (case b4 => exact HD1.out (Nat.le_refl _)); rintro e wN ⟨rfl, rfl⟩)
            | (go_at_call 10; (refine Calls.mono (by have := HR.out _ (by assumption); rw [← HN.out] at this; exact this) ?_); rintro e wN ⟨rfl, rfl⟩))
        all_goals (go_wp2_with fail; go_meet; exact ⟨rfl, by assumption⟩)
      · go_region_held3 (fun w' => Below wc.heap.size wc w')
          (first | exact hbr | assumption | go_keep | exact Below.alloc (by assumption) (Below.size (by assumption)) _)
          (first
            | (go_at_call 9; (refine (HS.out _ _ c1 (A1.map (·.add k)) (n - k) (c1 - k) ?b1 ?b2 ?b3 ?b4).mono ?_); (case b2 => exact Blk.new _ _ _); (case b1 => assumption); (case b3 => rw [← HN.out]); (case b4 => exact HD.out); rintro e wN ⟨rfl, rfl⟩)
            | (go_at_call 10; (refine Calls.mono (by have := HR.out _ (by assumption); rw [← HN.out] at this; exact this) ?_); rintro e wN ⟨rfl, rfl⟩))
        all_goals (go_wp2_with fail; go_meet; exact ⟨rfl, by assumption⟩)
    case rest =>
      obtain ⟨rfl, hbw⟩ := hcut
      have HBX2 := Lib.hid ((HBX.out.below hbw).more hbw.size)
      have HB3 := Lib.hid (HB2.out.trans (hbw.mono hs1))
      clear hbw BX HBX
      by_cases hf : 0 ≤ a1 ∧ a1 + 4 ≤ (n : Int)
      · obtain ⟨hf0, hf1⟩ := hf
        obtain ⟨p, hp⟩ : ∃ p : Nat, a1 = (p : Int) := ⟨a1.toNat, by omega⟩
        subst hp
        have hp4 : p + 4 ≤ n := by omega
        have HP4 : Hid (p + 4 ≤ x.length) := by rw [← HN.out]; exact hp4
        go_wp2_with fail
        refine Calls.mono (by have := seal_any A1 x c1 p wc (by rw [← HN.out]; exact hnc) hc1 (by omega) HBX2.out HP4.out; rw [← HN.out] at this; exact this) ?_
        rintro e W2 ⟨v, rfl, hown, hb2⟩
        obtain ⟨A2, c2, rfl, hn2, hc2, HS2⟩ := own_as (n := n) hown (by rw [sealL_length _ _ HP4.out]; exact HN.out)
        have HX3 := Lib.hid ((HBX2.out.below hb2).more hb2.size)
        have HL3 := Lib.hid (((HBY.out.take_ 3000).below (HB3.out.trans (hb2.mono HB3.out.size))).more (HB3.out.trans (hb2.mono HB3.out.size)).size)
        have HB4 := Lib.hid (HB3.out.trans (hb2.mono HB3.out.size))
        clear hown hb2
        go_wp2_with fail
        have hst1 : ∀ q, (convert 22 9 (.slice A1 n c1)).run Try.prog (W2.drewN q) = .ok (.string ⟨x.toArray⟩) (W2.drewN q) := fun q => run_str (B := W2.heap.size) (HX3.out.drewN q) _ _ _ Try.underlying22 Try.underlying5 Try.underlying9 n c1 HN.out
        have hst2 : ∀ q, (convert 22 9 (.slice a0 n cap0)).run Try.prog (W2.drewN q) = .ok (.string ⟨x.toArray⟩) (W2.drewN q) := fun q => run_str (B := W2.heap.size) (by rw [HX.out]; exact HL3.out.drewN q) _ _ _ Try.underlying22 Try.underlying5 Try.underlying9 n cap0 HN.out
        have g1 : (n : Int) ≤ (cap0 : Int) := by omega
        go_quiet ((go_at_call 12; exact quiet_left (rfits_yes n p _ (by omega) ⟨by omega, by omega⟩)))
        have HR2 : Hid (∀ q, Calls Try.prog 14 #[.slice A1 n c1, .int .i64 (p : Int)] (W2.drewN q) (RSealDone (W2.drewN q) x p)) := fun q => by
          have := rseal_any A1 x c1 p (W2.drewN q) (by rw [← HN.out]; exact hnc) hc1 (by omega) (HX3.out.drewN q) HP4.out
          rwa [← HN.out] at this
        clear hst1 hst2
        go_wp2_with fail
        refine (HR2.out _).mono ?_
        rintro e W3 ⟨v, rfl, hown, hb3⟩
        obtain ⟨A3, c3, rfl, hn3', hc3, HS3⟩ := own_as (n := n) hown (by rw [sealL_length _ _ HP4.out]; exact HN.out)
        have hb3 : Below W2.heap.size W2 W3 := (below_drewN (Below.refl _ _) _).trans hb3
        have HX4 := Lib.hid ((HX3.out.below hb3).more hb3.size)
        have HS4 := Lib.hid ((HS2.out.below hb3).more hb3.size)
        have HB5 := Lib.hid (HB4.out.trans (hb3.mono HB4.out.size))
        obtain ⟨y, hy⟩ : ∃ y, y = sealL x p := ⟨_, rfl⟩
        rw [← hy] at HS3 HS4
        have HNy : Hid (n = y.length) := by rw [hy, sealL_length _ _ HP4.out]; exact HN.out
        have HPy : Hid (p + 4 ≤ y.length) := by rw [← HNy.out]; exact hp4
        have HY1 : Hid (sealedB y p = true) := by rw [hy]; exact sealed_seal _ _ HP4.out
        have HY2 : Hid (sealedB x p = true ↔ x = y) := by rw [hy]; exact sealed_iff _ _ HP4.out
        clear hown hb3 hy HR2 HS2 HX3 HL3 HBX2
        go_wp2_with fail
        have hst1 : ∀ V, Below W3.heap.size W3 V → (convert 22 9 (.slice A1 n c1)).run Try.prog V = .ok (.string ⟨x.toArray⟩) V := fun V hb => run_str (HX4.out.below hb) _ _ _ Try.underlying22 Try.underlying5 Try.underlying9 n c1 HN.out
        have hst2 : ∀ V, Below W3.heap.size W3 V → (convert 22 9 (.slice A2 n c2)).run Try.prog V = .ok (.string ⟨y.toArray⟩) V := fun V hb => run_str (HS4.out.below hb) _ _ _ Try.underlying22 Try.underlying5 Try.underlying9 n c2 HNy.out
        have hst3 : ∀ V, Below W3.heap.size W3 V → (convert 22 9 (.slice A3 n c3)).run Try.prog V = .ok (.string ⟨y.toArray⟩) V := fun V hb => run_str (HS3.out.below hb) _ _ _ Try.underlying22 Try.underlying5 Try.underlying9 n c3 HNy.out
        have HC2 : Hid (∀ V, Below W3.heap.size W3 V → Calls Try.prog 13 #[.slice A2 n c2, .int .i64 (p : Int)] V fun e w' => e = .returned (.bool true) ∧ Below V.heap.size V w') := fun V hb => by
          have := sealed_any A2 y c2 p V (by rw [← HNy.out]; exact hn2) hc2 ((HS4.out.below hb).more hb.size) HPy.out
          rw [← HNy.out] at this
          exact this.mono fun e w' h => ⟨by rw [h.1, HY1.out], h.2⟩
        have HC1 : Hid (∀ V, Below W3.heap.size W3 V → Calls Try.prog 13 #[.slice A1 n c1, .int .i64 (p : Int)] V fun e w' => e = .returned (.bool (sealedB x p)) ∧ Below V.heap.size V w') := fun V hb => by
          have := sealed_any A1 x c1 p V (by rw [← HN.out]; exact hnc) hc1 ((HX4.out.below hb).more hb.size) HP4.out
          rw [← HN.out] at this
          exact this
        have hbr := (Below.refl W3.heap.size W3).drew
        by_cases hxy : x = y
        · subst hxy
          have hsx : sealedB x p = true := HY1.out
          rw [hsx] at HC1
          go_region_held3 (fun w' => Below W3.heap.size W3 w')
            (first | exact hbr | assumption | go_keep | exact Below.trans (by assumption) (hbN.mono (Below.size (by assumption))))
            (first
              | (go_at_call 13; go_split_ands; (with_reducible refine (HC1.out _ ?_).mono ?_); (assumption); rintro e wN ⟨rfl, hbN⟩)
              | (go_at_call 13; go_split_ands; (with_reducible refine (HC2.out _ ?_).mono ?_); (assumption); rintro e wN ⟨rfl, hbN⟩))
          all_goals
            have hbz : Below W3.heap.size W3 wN := by first | assumption | exact Below.trans (by assumption) (hbN.mono (Below.size (by assumption)))
            go_wp2_with fail
            go_ret
            exact ⟨rfl, HB5.out.trans (hbz.mono HB5.out.size)⟩
        · have hxyb : (x == y) = false := by simpa using hxy
          have hsx : sealedB x p = false := by
            rcases h : sealedB x p with _ | _
            · rfl
            · exact absurd (HY2.out.1 h) hxy
          rw [hsx] at HC1
          go_region_held3 (fun w' => Below W3.heap.size W3 w')
            (first | exact hbr | assumption | go_keep | exact Below.trans (by assumption) (hbN.mono (Below.size (by assumption))))
            (first
              | (go_at_call 13; go_split_ands; (with_reducible refine (HC1.out _ ?_).mono ?_); (assumption); rintro e wN ⟨rfl, hbN⟩)
              | (go_at_call 13; go_split_ands; (with_reducible refine (HC2.out _ ?_).mono ?_); (assumption); rintro e wN ⟨rfl, hbN⟩))
          all_goals
            have hbz : Below W3.heap.size W3 wN := by first | assumption | exact Below.trans (by assumption) (hbN.mono (Below.size (by assumption)))
            go_wp2_with fail
            go_ret
            exact ⟨rfl, HB5.out.trans (hbz.mono HB5.out.size)⟩
      · have hf2 : a1 < 0 ∨ (n : Int) < a1 + 4 := by omega
        go_wp2_with fail
        refine (seal_not A1 n c1 a1 wc (by omega) hf2 ha1.2).mono ?_
        rintro e W2 ⟨rfl, rfl⟩
        go_wp2_with fail
        have HL3 := Lib.hid (((HBY.out.take_ 3000).below HB3.out).more HB3.out.size)
        have hst1 : ∀ q, (convert 22 9 (.slice A1 n c1)).run Try.prog (wc.drewN q) = .ok (.string ⟨x.toArray⟩) (wc.drewN q) := fun q => run_str (B := wc.heap.size) (HBX2.out.drewN q) _ _ _ Try.underlying22 Try.underlying5 Try.underlying9 n c1 HN.out
        have hst2 : ∀ q, (convert 22 9 (.slice a0 n cap0)).run Try.prog (wc.drewN q) = .ok (.string ⟨x.toArray⟩) (wc.drewN q) := fun q => run_str (B := wc.heap.size) (by rw [HX.out]; exact HL3.out.drewN q) _ _ _ Try.underlying22 Try.underlying5 Try.underlying9 n cap0 HN.out
        have g1 : (n : Int) ≤ (cap0 : Int) := by omega
        go_quiet ((go_at_call 12; exact quiet_left (rfits_not n a1 _ (by omega) hf2 ha1.2)))
        clear hst1 hst2
        go_wp2_with fail
        refine (sealed_not A1 n c1 a1 _ (by omega) hf2 ha1.2).mono ?_
        rintro e W3 ⟨rfl, rfl⟩
        go_wp2_with fail
        go_ret
        exact ⟨rfl, below_drewN HB3.out _⟩

/-! ### THE ROW's STEP: WRITTEN OUT: LEAVE IT -/
set_option maxRecDepth 100000 in
theorem lifted (os : Os) (started : os.Started) (H : Type) (enc : TypeId × Value → H) :
    ReturnsInHanded {} Try.checked os 3 .any (Rows.crcSealsSpec.pre6 enc Try.prog Try.f3 Rows.crcSealsRow.domain false) (Rows.crcSealsSpec.post enc Try.prog Try.f3 false true false false) := by
  refine returnsInHanded_of_change (C := Try.checked) own started (by kernel_rfl) Try.func3
    (ChangeSpec.witness6 (enc := enc) (C := Try.checked) false ⟨#[], #[.slice none 0 0, .int .i64 0, .int .i64 0], []⟩ 8 (by kernel_rfl) (by kernel_rfl) (by kernel_rfl) (by kernel_rfl)) ?_
  intro W base args ds gs before hval0 hW hcnd _
  have hval : ∀ (j : Nat) t v, Try.f3.params[j]? = some t → args[j]? = some v → Value.okWide Try.prog W .any base t v := hval0
  have hW' := hW
  obtain ⟨p, q, hA0, hV, rfl, hfz, hnd⟩ := hW
  have hA : DataW.TrodAll enc Try.prog W 0 (fun _ => true) true Try.f3.params.toList args.toList ds p := hA0
  rw [Try.params3] at hA hval
  obtain ⟨v0, vs0, d0, ds0, p0, q0, hargs, rfl, rfl, h0, r0⟩ := trodAll_cons hA
  obtain ⟨v1, vs1, d1, ds1, p1, q1, rfl, rfl, rfl, h1, r1⟩ := trodAll_cons r0
  obtain ⟨v2, vs2, d2, ds2, p2, q2, rfl, rfl, rfl, h2, r2⟩ := trodAll_cons r1
  obtain ⟨rfl, rfl, rfl⟩ := trodAll_nil r2
  obtain rfl : args = #[v0, v1, v2] := by cases args; simp_all
  obtain ⟨rfl, rfl⟩ := trodVars_none hV
  obtain ⟨a0, len0, cap0, rfl⟩ := okWide_slice Try.underlying22 (hval 0 22 v0 rfl rfl)
  have k0 := h0
  have lt0 : ∀ x ∈ p0, x.block < W.heap.size := by obtain ⟨m, hm⟩ := k0; exact DataW.trod_lt m _ _ _ hm
  obtain ⟨z0, w0⟩ : ∃ zs, IsRow .u8 W a0 len0 cap0 zs := by
    obtain ⟨fuel, hf⟩ := h0
    rcases open_ints Try.underlying22 Try.underlying5 (by kernel_rfl) hf with ⟨hcs, _⟩ | ⟨x, l, c, zs, hcs, _, hl, hm, hz, _, hcell, hwz⟩
    · simp [Value.cells] at hcs
      obtain ⟨rfl, rfl, rfl⟩ := hcs
      exact ⟨[], .inl ⟨rfl, rfl, rfl, rfl⟩⟩
    · simp [Value.cells] at hcs
      obtain ⟨rfl, rfl, rfl⟩ := hcs
      exact ⟨zs, .inr ⟨_, rfl, hl, hm, by simpa using hz, hcell, hwz⟩⟩
  obtain ⟨a1, rfl, rfl, rfl, w1⟩ := open_int Try.underlying3 (hval 1 3 v1 rfl rfl) h1
  obtain ⟨a2, rfl, rfl, rfl, w2⟩ := open_int Try.underlying3 (hval 2 3 v2 rfl rfl) h2
  clear hA0 hval0
  refine (walk a0 len0 cap0 z0 a1 a2 W w0 w1 w2).mono fun e W' ⟨he, bel⟩ => ?_
  subst he
  exact ⟨_, rfl, _, _, _, [], _, [], hW', trodAll_mk1 (shut_bool Try.underlying4 _), (trodAll_cons_mk (Below.trod laidOut (by kernel_rfl) (of_decide_eq_true (by kernel_rfl)) k0 bel lt0) (trodAll_cons_mk (shut_int Try.underlying3 w1) (trodAll_cons_mk (shut_int Try.underlying3 w2) trodAll_mk0))), rfl, bel.frame _, fun h => by cases h⟩

theorem over : Rows.crcSealsRow.holds Try.pinned (OpenSpec.ofChange Rows.crcSealsSpec) :=
  OpenClaim.holds_of_wide 3 Try.f3 rfl rfl rfl rfl rfl rfl rfl ⟨rfl, rfl, rfl, rfl, rfl⟩ rfl rfl rfl rfl rfl (by kernel_rfl) Try.func3 (by kernel_rfl)
    (of_decide_eq_true (by kernel_rfl)) (by unfold Func.isWrapper; first | (rw [if_pos (by decide +kernel)]; kernel_rfl) | (rw [if_neg (by decide +kernel)]; exact ⟨rfl, rfl⟩))
    (fun os started H enc _ => lifted os started H enc)

/-- ████ THE STATEMENT ████ -/
theorem proved : Rows.CrcSealsSaid := over
#print axioms proved
end Go.Proofs.Ytgbkmnmkejcogaa.crcSeals
