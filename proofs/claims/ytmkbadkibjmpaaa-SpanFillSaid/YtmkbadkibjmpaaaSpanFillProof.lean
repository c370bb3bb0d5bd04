/-
  PROVED: SpanFill of flumelaw02 answers true for every input, and its arguments read afterwards as before. CONDITIONS: none beside the form's own.
  (The frame was written by the kit's proof-skeleton; the walk is mine.)
-/
import Derived.Test.YtmkbadkibjmpaaaRows
import Derived.Test.YtmkbadkibjmpaaaSpanFil
import Derived.WalkKit
import Derived.ProofKit
import Derived.OpenShut
import Derived.ShutString
import Derived.ChangeOld
import Derived.Below
namespace Go.Proofs.Ytmkbadkibjmpaaa.spanFill
open Go.ChangeShapes Go.WideShapes Go.ChangeAt Go.RowKit
open Go.ChangeMaps (open_string shut_string)
set_option linter.unusedVariables false

theorem own : ownKnob Try.prog.godebug = none := by kernel_rfl
theorem laidOut : laidOutB Try.prog = true := by kernel_rfl

/-- WHAT THE WALK IS TOLD OF A SLICE OF INTEGERS THAT CAME IN: it is nil; or it leads to a row of 'cap' cells, the numbers 'zs' (the first 'len' are its elements, the rest its spare room), each fitting its kind. -/
def IsRow (k : IntKind) (w : World) (a : Option Addr) (len cap : Nat) (zs : List Int) : Prop :=
  (a = none ∧ len = 0 ∧ cap = 0 ∧ zs = []) ∨
  ∃ x, a = some x ∧ len ≤ cap ∧ cap ≤ maxLen ∧ zs.length = cap ∧ (∀ i, i < zs.length → w.cell? (x.add i) = some (.int k (zs.getD i 0))) ∧ ∀ n ∈ zs, (Lit.int k n).wf = true

/-! ### STEP 1: THE WALK: the Go text returns true, AND WRITES NOTHING THAT WAS THERE: 'Below w.heap.size w w'' (Derived/Below.lean: '.refl', '.alloc', '.drew', '.setCell' at a new block, '.trans'). Open each 'IsRow' by 'rcases' AHEAD of 'go_enter'; part every test ahead of the walk. -/
open Ser Span
theorem elem {w w' : World} {a : Option Addr} {len : Nat} {z : List Int} (hr : ∀ i, i < len → ∃ x, a = some x ∧ x.block < w.heap.size ∧ w.cell? (x.add i) = some (.int .u16 (z.getD i 0)) ∧ (Lit.int .u16 (z.getD i 0)).wf = true) (hb : Below w.heap.size w w') {i : Nat} (hi : i < len) :
    ∃ x, ∃ q : Nat, a = some x ∧ w'.cell? (x.add i) = some (.int .u16 (q : Int)) ∧ q ≤ 65535 := by
  obtain ⟨x, ha, hx, hc, hw⟩ := hr i hi
  have hz := bounds_u16 hw
  refine ⟨x, (z.getD i 0).toNat, ha, ?_, by omega⟩
  rw [show (((z.getD i 0).toNat : Nat) : Int) = z.getD i 0 by omega]
  exact row_later hb hx hc
theorem adr_form (a0 : Int) (q : Nat) : (a0 + (q : Int)) % 4294967296 = adr a0 q := rfl
set_option maxHeartbeats 1000000 in
theorem walk (a0 : Int) (a1 : Option Addr) (len1 cap1 : Nat) (z1 : List Int) (w : World) (w0 : (Lit.int .u32 a0).wf = true) (w1 : IsRow .u16 w a1 len1 cap1 z1) :
    Calls Try.prog 6 #[.int .u32 a0, .slice a1 len1 cap1] w fun e w' => e = .returned (.bool true) ∧ Below w.heap.size w w' := by
  have hM : 0 ≤ a0 ∧ a0 ≤ 4294967295 := bounds_u32 w0
  obtain ⟨hcap, hlen, hrow⟩ := row_of w1
  have HR := Lib.hid hrow
  clear hrow w1 w0
  go_enter Try.func6, Try.ntmps6
  go_wp2_with fail
  refine (first_span w).mono ?_
  rintro e W1 ⟨rfl, hb1⟩
  go_wp2_with fail
  refine (new_any a0 hM w.heap.size W1 hb1.size).mono ?_
  rintro e W2 ⟨rfl, hs2, hb2⟩
  have HO := Lib.hid (FSt.new hM (hb1.trans (hb2.mono hb1.size)) hs2)
  clear hs2 hb1 hb2
  go_wp2_with fail
  go_loopw [6, 16] (fun c i wr => ∃ k T : Nat, k ≤ len1 ∧ T ≤ 65535 ∧ i = .int .i64 k ∧ c = .int .u32 (T : Int) ∧ Hid (FSt w wr W1.heap.size a0 T 1)) (fun _ i _ => len1 - (intOf i).toNat)
  case atStart => exact ⟨0, 0, Nat.zero_le _, by omega, rfl, rfl, HO⟩
  case round =>
    obtain ⟨k, T, hk, hT, rfl, rfl, ho⟩ := hrel
    by_cases hlt : k < len1
    · obtain ⟨x, q, rfl, hc1, hq⟩ := elem HR.out ho.out.below hlt
      by_cases h40 : k < 40
      · have HC := Lib.hid (ho.out.add hM hT hq)
        have hmx : T < q ∨ ¬ T < q := by omega
        rcases hmx with hmx | hmx
        all_goals
          go_wp2_with fail
          rw [adr_form]
          refine HC.out.mono ?_
          rintro e w1 ⟨n, rfl, ⟨rfl, hs⟩ | ⟨hn, hs⟩⟩
          · have HS := Lib.hid hs
            clear hs
            go_wp2
            go_roundw
            case rel => exact ⟨k + 1, max T q, by omega, by omega, by go_num, by first | (rw [Nat.max_eq_right (by omega)]) | (rw [Nat.max_eq_left (by omega)]), HS⟩
            case measure => simp [intOf]; omega
          · have HS := Lib.hid hs
            clear hs
            go_wp2
            go_roundw
            case rel => exact ⟨k + 1, T, by omega, hT, by go_num, rfl, HS⟩
            case measure => simp [intOf]; omega
      · go_wp2
        go_roundw
        case rel => exact ⟨k + 1, T, by omega, hT, by go_num, rfl, ho⟩
        case measure => simp [intOf]; omega
    · obtain rfl : k = len1 := by omega
      go_wp2
      go_loopw [9] (fun d wr => ∃ j : Nat, 1 ≤ j ∧ j ≤ T + 1 ∧ d = .int .u32 (j : Int) ∧ Hid (FSt w wr W1.heap.size a0 T j)) (fun d _ => T + 1 - (intOf d).toNat)
      case atStart => exact ⟨1, Nat.le_refl _, by omega, rfl, ho⟩
      case round =>
        obtain ⟨j, hj1, hj2, rfl, hf⟩ := hrel
        by_cases hjt : j ≤ T
        · have HC := Lib.hid (hf.out.fill hM hT hj1 hjt)
          go_wp2_with fail
          rw [adr_form]
          refine HC.out.mono ?_
          rintro e w1 ⟨⟨n, rfl⟩, hs⟩
          have HS := Lib.hid hs
          clear hs
          go_wp2
          go_roundw
          case rel => exact ⟨j + 1, by omega, by omega, by go_num, HS⟩
          case measure => simp [intOf]; omega
        · obtain rfl : j = T + 1 := by omega
          obtain ⟨v, hs⟩ := hf.out.done
          have HS := Lib.hid hs
          have HB := Lib.hid hf.out.below
          have hmk : (adr a0 T == (a0 + (T : Int)) % 4294967296) = true := by simp [adr]
          clear hs
          go_wp2_with fail
          refine (mark_any HS.out).mono ?_
          rintro e w1 ⟨rfl, rfl⟩
          go_wp2_with fail
          refine (len_any HS.out (gp_nil 2)).mono ?_
          rintro e w2 ⟨rfl, hb2⟩
          have hcn : ((cnt [] : Nat) : Int) = 0 := rfl
          rw [hcn]
          have HS2 := Lib.hid (HS.out.below hb2)
          have HB2 := Lib.hid (HB.out.trans (hb2.mono HB.out.size))
          clear hb2 hcn
          go_wp2_with fail
          refine (gaps_read HS2.out (gp_nil 2) 9 (by omega)).mono ?_
          rintro e w3 ⟨u, rfl, hu, hb3⟩
          obtain ⟨ua, uc, rfl⟩ := own_slice hu.out.2
          have ht : told [] 9 = 0 := rfl
          rw [ht]
          have HB3 := Lib.hid (HB2.out.trans (hb3.mono HB2.out.size))
          clear hb3 hu ht
          go_wp2
          go_ret
          exact ⟨rfl, HB3.out⟩

/-! ### THE ROW's STEP: WRITTEN OUT: LEAVE IT -/
set_option maxRecDepth 100000 in
theorem lifted (os : Os) (started : os.Started) (H : Type) (enc : TypeId × Value → H) :
    ReturnsInHanded {} Try.checked os 6 .any (Rows.spanFillSpec.pre6 enc Try.prog Try.f6 Rows.spanFillRow.domain false) (Rows.spanFillSpec.post enc Try.prog Try.f6 false true false false) := by
  refine returnsInHanded_of_change (C := Try.checked) own started (by kernel_rfl) Try.func6
    (ChangeSpec.witness6 (enc := enc) (C := Try.checked) false ⟨#[], #[.int .u32 0, .slice none 0 0], []⟩ 8 (by kernel_rfl) (by kernel_rfl) (by kernel_rfl) (by kernel_rfl)) ?_
  intro W base args ds gs before hval0 hW hcnd _
  have hval : ∀ (j : Nat) t v, Try.f6.params[j]? = some t → args[j]? = some v → Value.okWide Try.prog W .any base t v := hval0
  have hW' := hW
  obtain ⟨p, q, hA0, hV, rfl, hfz, hnd⟩ := hW
  have hA : DataW.TrodAll enc Try.prog W 0 (fun _ => true) true Try.f6.params.toList args.toList ds p := hA0
  rw [Try.params6] at hA hval
  obtain ⟨v0, vs0, d0, ds0, p0, q0, hargs, rfl, rfl, h0, r0⟩ := trodAll_cons hA
  obtain ⟨v1, vs1, d1, ds1, p1, q1, rfl, rfl, rfl, h1, r1⟩ := trodAll_cons r0
  obtain ⟨rfl, rfl, rfl⟩ := trodAll_nil r1
  obtain rfl : args = #[v0, v1] := by cases args; simp_all
  obtain ⟨rfl, rfl⟩ := trodVars_none hV
  obtain ⟨a0, rfl, rfl, rfl, w0⟩ := open_int Try.underlying22 (hval 0 22 v0 rfl rfl) h0
  obtain ⟨a1, len1, cap1, rfl⟩ := okWide_slice Try.underlying46 (hval 1 46 v1 rfl rfl)
  have k1 := h1
  have lt1 : ∀ x ∈ p1, x.block < W.heap.size := by obtain ⟨m, hm⟩ := k1; exact DataW.trod_lt m _ _ _ hm
  obtain ⟨z1, w1⟩ : ∃ zs, IsRow .u16 W a1 len1 cap1 zs := by
    obtain ⟨fuel, hf⟩ := h1
    rcases open_ints Try.underlying46 Try.underlying42 (by kernel_rfl) hf with ⟨hcs, _⟩ | ⟨x, l, c, zs, hcs, _, hl, hm, hz, _, hcell, hwz⟩
    · simp [Value.cells] at hcs
      obtain ⟨rfl, rfl, rfl⟩ := hcs
      exact ⟨[], .inl ⟨rfl, rfl, rfl, rfl⟩⟩
    · simp [Value.cells] at hcs
      obtain ⟨rfl, rfl, rfl⟩ := hcs
      exact ⟨zs, .inr ⟨_, rfl, hl, hm, by simpa using hz, hcell, hwz⟩⟩
  clear hA0 hval0
  refine (walk a0 a1 len1 cap1 z1 W w0 w1).mono fun e W' ⟨he, bel⟩ => ?_
  subst he
  exact ⟨_, rfl, _, _, _, [], _, [], hW', trodAll_mk1 (shut_bool Try.underlying4 _), (trodAll_cons_mk (shut_int Try.underlying22 w0) (trodAll_cons_mk (Below.trod laidOut (by kernel_rfl) (of_decide_eq_true (by kernel_rfl)) k1 bel lt1) trodAll_mk0)), rfl, bel.frame _, fun h => by cases h⟩

theorem over : Rows.spanFillRow.holds Try.pinned (OpenSpec.ofChange Rows.spanFillSpec) :=
  OpenClaim.holds_of_wide 6 Try.f6 rfl rfl rfl rfl rfl rfl rfl ⟨rfl, rfl, rfl, rfl, rfl⟩ rfl rfl rfl rfl rfl (by kernel_rfl) Try.func6 (by kernel_rfl)
    (of_decide_eq_true (by kernel_rfl)) (by unfold Func.isWrapper; first | (rw [if_pos (by decide +kernel)]; kernel_rfl) | (rw [if_neg (by decide +kernel)]; exact ⟨rfl, rfl⟩))
    (fun os started H enc _ => lifted os started H enc)

/-- ████ THE STATEMENT ████ -/
theorem proved : Rows.SpanFillSaid := over
#print axioms proved
end Go.Proofs.Ytmkbadkibjmpaaa.spanFill
