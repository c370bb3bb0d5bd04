/-
  PROVED: WindSlow of flumelaw11 answers true for every input, and its arguments read afterwards as before. CONDITIONS: none beside the form's own.
-/
import Derived.Test.YtabjlmedcbnnpaaRows
import Derived.Test.YtabjlmedcbnnpaaWndLaw
import Derived.WalkKit
import Derived.ProofKit
import Derived.OpenShut
import Derived.ShutString
import Derived.ChangeOld
import Derived.Below
namespace Go.Proofs.Ytabjlmedcbnnpaa.windSlow
open Go.ChangeShapes Go.WideShapes Go.ChangeAt Go.RowKit
open Go.ChangeMaps (open_string shut_string)
set_option linter.unusedVariables false
set_option linter.unusedSimpArgs false

theorem own : ownKnob Try.prog.godebug = none := by kernel_rfl
theorem laidOut : laidOutB Try.prog = true := by kernel_rfl

/-- What the walk is told of a slice of integers that came in. -/
def IsRow (k : IntKind) (w : World) (a : Option Addr) (len cap : Nat) (zs : List Int) : Prop :=
  (a = none ∧ len = 0 ∧ cap = 0 ∧ zs = []) ∨
  ∃ x, a = some x ∧ len ≤ cap ∧ cap ≤ maxLen ∧ zs.length = cap ∧ (∀ i, i < zs.length → w.cell? (x.add i) = some (.int k (zs.getD i 0))) ∧ ∀ n ∈ zs, (Lit.int k n).wf = true

/-! ### The walk -/
open Words Wnd
theorem ack_slow {x : Wi} {k : Nat} (ok : x.Ok k) (n f : Int) (on : Bool) : x.s ≤ (ack x n f on).s ∧ (ack x n f on).s ≤ x.s + 1200 ∧ (x.s < (ack x n f on).s → x.s ≤ f) := by
  have h2 := ok.s2
  have hc := cl_le n
  unfold ack
  split
  · split
    · rename_i h
      refine ⟨?_, ?_, fun _ => h.2⟩ <;> show _ ≤ _ <;> simp only [gw] <;> omega
    · exact ⟨Int.le_refl _, by omega, fun h => absurd h (Int.lt_irrefl _)⟩
  · unfold col
    split
    · rename_i h
      refine ⟨?_, ?_, fun _ => of_decide_eq_true h.1⟩ <;> show _ ≤ _ <;> simp only <;> omega
    · exact ⟨Int.le_refl _, by simp only; omega, fun h => absurd h (Int.lt_irrefl _)⟩
set_option maxHeartbeats 4000000 in
set_option maxRecDepth 100000 in
theorem walk {H : Type} {enc : TypeId × Value → H} {base : Nat} (v0 : Value) (d0 : DataW H) (p0 : List MemPlace) (w : World) (o0 : Value.okWide Try.prog w .any base 22 v0) (k0 : DataW.Trod enc Try.prog w 0 (fun _ => true) true 22 v0 d0 p0) :
    Calls Try.prog 4 #[v0] w fun e w' => e = .returned (.bool true) ∧ Below w.heap.size w w' := by
  obtain ⟨A1, ns, cs1, rfl⟩ := okWide_slice Try.underlying22 o0
  have hsee : Sees w (.slice ActSh) [.slice A1 ns cs1] := sees_of (sh := .slice ActSh) rfl (by kernel_rfl) k0
  obtain ⟨A1', ns', cs1', he, hcs1, hcs63, hel⟩ := Sees.elems hsee
  injection he with e1 e2 e3
  subst e1 e2 e3
  have HA : Hid (∀ i, i < ns → ∃ ad K N F b, A1 = some ad ∧ ActAt w ad i K N F b) := actAt_of hel
  clear o0 k0 hsee hel
  go_enter Try.func4, Try.ntmps4
  go_wp2_with fail
  refine (first_any w).mono ?_
  rintro e W1 ⟨rfl, hb1⟩
  have H0 := Lib.hid (new_any hb1)
  clear hb1
  go_wp2_with fail
  refine H0.out.mono ?_
  rintro e W2 ⟨rfl, h2⟩
  have H2 := Lib.hid h2
  clear h2 H0
  obtain ⟨p, hp⟩ : ∃ p, p = W1.heap.size := ⟨_, rfl⟩
  rw [← hp] at H2 ⊢
  clear hp
  go_wp2_with fail
  go_loopw [23] (fun i wr => ∃ k : Nat, k ≤ ns ∧ i = .int .i64 k ∧ ∃ x, Hid (S1 w wr p x) ∧ Hid (x.Ok (min k 200))) (fun i _ => ns - (intOf i).toNat)
  case atStart => exact ⟨0, Nat.zero_le _, rfl, _, H2, wi0_ok⟩
  case round =>
    obtain ⟨k, hk, rfl, x, HX, OK⟩ := hrel
    by_cases hlt : k < ns
    · obtain ⟨ad, K, N, F, b, rfl, hat⟩ := HA.out k hlt
      obtain ⟨c1, c2, c3, c4, hK, hN, hF⟩ := hat.keep HX.out.b
      have HN := Lib.hid hN
      go_upto_region 7 with (fail)
      have HO := Lib.hid (S1o.new HX.out K N F b)
      obtain ⟨Wo, hWo⟩ : ∃ Wo, Wo = wr.alloc (.cells #[.int .i64 K, .int .i64 N, .int .i64 F, .bool b] 29) := ⟨_, rfl⟩
      obtain ⟨g, hg⟩ : ∃ g, g = wr.heap.size := ⟨_, rfl⟩
      rw [← hWo, ← hg] at HO
      rw [← hWo, ← hg]
      clear hWo hg c1 c2 c3 c4
      have o1 : Wo.cell? ⟨g, 1, none⟩ = some (.int .i64 N) := HO.out.o.cell 1
      have o2 : Wo.cell? ⟨g, 2, none⟩ = some (.int .i64 F) := HO.out.o.cell 2
      have o3 : Wo.cell? ⟨g, 3, none⟩ = some (.bool b) := HO.out.o.cell 3
      by_cases h200 : k < 200
      · go_wp2_with fail
        refine HO.out.size.mono ?_
        rintro e w3 ⟨rfl, H3⟩
        have o0 : w3.cell? ⟨g, 0, none⟩ = some (.int .i64 K) := H3.out.o.cell 0
        have hs1 := OK.out.s1
        have hs2 := OK.out.s2
        go_upto_region 14 with (fail)
        obtain ⟨r, hr⟩ : ∃ r, r = (IntKind.u64.wrap K).tmod 3 := ⟨_, rfl⟩
        rw [← hr]
        clear hr o0 o1 o2 o3
        by_cases r0 : r = 0
        · have o1 : w3.cell? ⟨g, 1, none⟩ = some (.int .i64 N) := H3.out.o.cell 1
          have o2 : w3.cell? ⟨g, 2, none⟩ = some (.int .i64 F) := H3.out.o.cell 2
          have o3 : w3.cell? ⟨g, 3, none⟩ = some (.bool b) := H3.out.o.cell 3
          have HA3 := Lib.hid (H3.out.acked OK.out N F HN.out b)
          have OK3 : Hid ((ack x N F b).Ok (min k 200 + 1)) := ack_ok OK.out _ _ _ (by omega)
          have hsl := ack_slow OK.out N F b
          obtain ⟨y, hy⟩ : ∃ y, y = ack x N F b := ⟨_, rfl⟩
          rw [← hy] at HA3 OK3 hsl
          clear hy OK HX H3
          obtain ⟨s, hse⟩ : ∃ s, s = x.s := ⟨_, rfl⟩
          rw [← hse] at hs1 hs2 hsl ⊢
          clear hse
          go_wp2_with fail
          refine HA3.out.mono ?_
          rintro e w4 ⟨rfl, H4⟩
          go_wp2_with fail
          refine H4.out.size.mono ?_
          rintro e w5 ⟨rfl, H5⟩
          have o2 : w5.cell? ⟨g, 2, none⟩ = some (.int .i64 F) := H5.out.o.cell 2
          obtain ⟨z, hz⟩ : ∃ z, z = y.s := ⟨_, rfl⟩
          rw [← hz] at hsl ⊢
          clear hz
          obtain ⟨h1, h2, h3⟩ := hsl
          rcases Int.lt_or_le s z with h4 | h4
          · have h5 := h3 h4
            clear h3
            go_wp2_with fail
            go_roundw
            case rel => exact ⟨k + 1, by omega, by go_num, _, H5.out.s, by rw [show min (k + 1) 200 = min k 200 + 1 by omega]; exact OK3⟩
            case measure => simp [intOf]; omega
          · clear h3
            go_wp2_with fail
            go_roundw
            case rel => exact ⟨k + 1, by omega, by go_num, _, H5.out.s, by rw [show min (k + 1) 200 = min k 200 + 1 by omega]; exact OK3⟩
            case measure => simp [intOf]; omega
        · by_cases r1 : r = 1
          · have HA3 := Lib.hid (H3.out.lost OK.out)
            have OK3 : Hid ((lost x).Ok (min k 200 + 1)) := (lost_ok OK.out).more (by omega) (by omega)
            have hz : half x = max (x.s / 2) 4800 := rfl
            have e1 : (lost x).s = half x := rfl
            have e2 : (lost x).t = half x := rfl
            have e3 : (lost x).c = 0 := rfl
            obtain ⟨y, hy⟩ : ∃ y, y = lost x := ⟨_, rfl⟩
            rw [← hy] at HA3 OK3 e1 e2 e3
            clear hy OK HX H3
            obtain ⟨z, hze⟩ : ∃ z, z = half x := ⟨_, rfl⟩
            rw [← hze] at hz e1 e2
            clear hze
            obtain ⟨s, hse⟩ : ∃ s, s = x.s := ⟨_, rfl⟩
            rw [← hse] at hs1 hs2 hz ⊢
            clear hse
            have hz2 : (z ≤ s ∧ 4800 ≤ s) ∨ (z ≤ 4800 ∧ s < 4800) := by omega
            clear hz
            go_wp2_with fail
            refine HA3.out.mono ?_
            rintro e w4 ⟨rfl, H4⟩
            go_wp2_with fail
            refine H4.out.size.mono ?_
            rintro e w5 ⟨rfl, H5⟩
            rw [e1, e2, e3]
            clear e1 e2 e3
            rcases hz2 with ⟨h1, h2⟩ | ⟨h1, h2⟩
            all_goals
              go_wp2_with fail
              go_roundw
              case rel => exact ⟨k + 1, by omega, by go_num, _, H5.out.s, by rw [show min (k + 1) 200 = min k 200 + 1 by omega]; exact OK3⟩
              case measure => simp [intOf]; omega
          · have HA3 := Lib.hid (H3.out.rest OK.out)
            have OK3 : Hid ((rest x).Ok (min k 200 + 1)) := (rest_ok OK.out).more (by omega) (by omega)
            have hz : (rest x).s ≤ x.s := by show min (half x) x.s ≤ _; omega
            obtain ⟨y, hy⟩ : ∃ y, y = rest x := ⟨_, rfl⟩
            rw [← hy] at HA3 OK3 hz
            clear hy OK HX H3
            obtain ⟨s, hse⟩ : ∃ s, s = x.s := ⟨_, rfl⟩
            rw [← hse] at hs1 hs2 hz ⊢
            clear hse
            go_wp2_with fail
            refine HA3.out.mono ?_
            rintro e w4 ⟨rfl, H4⟩
            go_wp2_with fail
            refine H4.out.size.mono ?_
            rintro e w5 ⟨rfl, H5⟩
            go_wp2_with fail
            go_roundw
            case rel => exact ⟨k + 1, by omega, by go_num, _, H5.out.s, by rw [show min (k + 1) 200 = min k 200 + 1 by omega]; exact OK3⟩
            case measure => simp [intOf]; omega
      · go_wp2_with fail
        go_ret
        exact ⟨rfl, HO.out.s.b⟩
    · obtain rfl : k = ns := by omega
      go_wp2_with fail
      go_ret
      exact ⟨rfl, HX.out.b⟩

/-! ### The row's step -/
set_option maxRecDepth 100000 in
theorem lifted (os : Os) (started : os.Started) (H : Type) (enc : TypeId × Value → H) :
    ReturnsInHanded {} Try.checked os 4 .any (Rows.windSlowSpec.pre6 enc Try.prog Try.f4 Rows.windSlowRow.domain false) (Rows.windSlowSpec.post enc Try.prog Try.f4 false true false false) := by
  refine returnsInHanded_of_change (C := Try.checked) own started (by kernel_rfl) Try.func4
    (ChangeSpec.witness6 (enc := enc) (C := Try.checked) false ⟨#[], #[.slice none 0 0], []⟩ 8 (by kernel_rfl) (by kernel_rfl) (by kernel_rfl) (by kernel_rfl)) ?_
  intro W base args ds gs before hval0 hW hcnd _
  have hval : ∀ (j : Nat) t v, Try.f4.params[j]? = some t → args[j]? = some v → Value.okWide Try.prog W .any base t v := hval0
  have hW' := hW
  obtain ⟨p, q, hA0, hV, rfl, hfz, hnd⟩ := hW
  have hA : DataW.TrodAll enc Try.prog W 0 (fun _ => true) true Try.f4.params.toList args.toList ds p := hA0
  rw [Try.params4] at hA hval
  obtain ⟨v0, vs0, d0, ds0, p0, q0, hargs, rfl, rfl, h0, r0⟩ := trodAll_cons hA
  obtain ⟨rfl, rfl, rfl⟩ := trodAll_nil r0
  obtain rfl : args = #[v0] := by cases args; simp_all
  obtain ⟨rfl, rfl⟩ := trodVars_none hV
  have lt0 : ∀ x ∈ p0, x.block < W.heap.size := by obtain ⟨m, hm⟩ := h0; exact DataW.trod_lt m _ _ _ hm
  clear hA0 hval0
  refine (walk v0 d0 p0 W (hval 0 22 v0 rfl rfl) h0).mono fun e W' ⟨he, bel⟩ => ?_
  subst he
  exact ⟨_, rfl, _, _, _, [], _, [], hW', trodAll_mk1 (shut_bool Try.underlying4 _), (trodAll_cons_mk (Below.trod laidOut (by kernel_rfl) (of_decide_eq_true (by kernel_rfl)) h0 bel lt0) trodAll_mk0), rfl, bel.frame _, fun h => by cases h⟩

theorem over : Rows.windSlowRow.holds Try.pinned (OpenSpec.ofChange Rows.windSlowSpec) :=
  OpenClaim.holds_of_wide 4 Try.f4 rfl rfl rfl rfl rfl rfl rfl ⟨rfl, rfl, rfl, rfl, rfl⟩ rfl rfl rfl rfl rfl (by kernel_rfl) Try.func4 (by kernel_rfl)
    (of_decide_eq_true (by kernel_rfl)) (by unfold Func.isWrapper; first | (rw [if_pos (by decide +kernel)]; kernel_rfl) | (rw [if_neg (by decide +kernel)]; exact ⟨rfl, rfl⟩))
    (fun os started H enc _ => lifted os started H enc)

theorem proved : Rows.WindSlowSaid := over
#print axioms proved
end Go.Proofs.Ytabjlmedcbnnpaa.windSlow
