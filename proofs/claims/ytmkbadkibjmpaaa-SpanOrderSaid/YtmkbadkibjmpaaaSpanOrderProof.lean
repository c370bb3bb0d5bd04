/-
  PROVED: SpanOrder of flumelaw02 answers true for every input, and its arguments read afterwards as before. CONDITIONS: none beside the form's own.
  (The frame was written by the kit's proof-skeleton; the walk is mine.)
-/
import Derived.Test.YtmkbadkibjmpaaaRows
import Derived.Test.YtmkbadkibjmpaaaSpanOrd
import Derived.WalkKit
import Derived.ProofKit
import Derived.OpenShut
import Derived.ShutString
import Derived.ChangeOld
import Derived.Below
namespace Go.Proofs.Ytmkbadkibjmpaaa.spanOrder
open Go.ChangeShapes Go.WideShapes Go.ChangeAt Go.RowKit
open Go.ChangeMaps (open_string shut_string)
set_option linter.unusedVariables false

theorem own : ownKnob Try.prog.godebug = none := by kernel_rfl
theorem laidOut : laidOutB Try.prog = true := by kernel_rfl

/-- WHAT THE WALK IS TOLD OF A SLICE OF INTEGERS THAT CAME IN: it is nil; or it leads to a row of 'cap' cells, the numbers 'zs' (the first 'len' are its elements, the rest its spare room), each fitting its kind. -/
def IsRow (k : IntKind) (w : World) (a : Option Addr) (len cap : Nat) (zs : List Int) : Prop :=
  (a = none ∧ len = 0 ∧ cap = 0 ∧ zs = []) ∨
  ∃ x, a = some x ∧ len ≤ cap ∧ cap ≤ maxLen ∧ zs.length = cap ∧ (∀ i, i < zs.length → w.cell? (x.add i) = some (.int k (zs.getD i 0))) ∧ ∀ n ∈ zs, (Lit.int k n).wf = true

/-! ### STEP 1: THE WALK: the Go text returns true, AND WRITES NOTHING THAT WAS THERE: 'Below w.heap.size w w'' (Derived/Below.lean: '.refl', '.alloc', '.drew', '.setCell' at a new block, '.trans'). Open each 'IsRow' by 'rcases' AHEAD of 'go_enter'; part every test ahead of the walk. -/
open Ser Span
/-- How far ahead of the first mark the i-th number is. -/
def far (z : List Int) (i : Nat) : Nat := (z.getD i 0 % 100).toNat
theorem far_le (z : List Int) (i : Nat) : far z i ≤ 100 := by unfold far; omega
theorem far_num (a0 : Int) (z : List Int) (i : Nat) (h : 0 ≤ z.getD i 0) : (a0 + z.getD i 0 % 100) % 4294967296 = adr a0 (far z i) := by unfold adr far; omega
def SA (z : List Int) (k : Nat) (y : Nat) : Prop := ∃ j, j < k ∧ far z j = y
def SB (z : List Int) (n c k : Nat) (y : Nat) : Prop := ∃ j, j < k ∧ (far z ((j + c) % n) = y ∨ far z (n - 1 - j) = y)
theorem SA_le {z : List Int} {k y : Nat} (h : SA z k y) : y ≤ 100 := by obtain ⟨j, _, rfl⟩ := h; exact far_le _ _
theorem SB_le {z : List Int} {n c k y : Nat} (h : SB z n c k y) : y ≤ 100 := by
  obtain ⟨j, _, rfl | rfl⟩ := h <;> exact far_le _ _
theorem SA_succ (z : List Int) (k y : Nat) : (SA z k y ∨ y = far z k) ↔ SA z (k + 1) y := by
  unfold SA
  constructor
  · rintro (⟨j, hj, h⟩ | rfl)
    · exact ⟨j, by omega, h⟩
    · exact ⟨k, by omega, rfl⟩
  · rintro ⟨j, hj, h⟩
    rcases Nat.lt_or_ge j k with hl | hl
    · exact .inl ⟨j, hl, h⟩
    · obtain rfl : j = k := by omega
      exact .inr h.symm
theorem SB_succ (z : List Int) (n c k y : Nat) : ((SB z n c k y ∨ y = far z ((k + c) % n)) ∨ y = far z (n - 1 - k)) ↔ SB z n c (k + 1) y := by
  unfold SB
  constructor
  · rintro ((⟨j, hj, h⟩ | rfl) | rfl)
    · exact ⟨j, by omega, h⟩
    · exact ⟨k, by omega, .inl rfl⟩
    · exact ⟨k, by omega, .inr rfl⟩
  · rintro ⟨j, hj, h⟩
    rcases Nat.lt_or_ge j k with hl | hl
    · exact .inl (.inl ⟨j, hl, h⟩)
    · obtain rfl : j = k := by omega
      rcases h with h | h
      · exact .inl (.inr h.symm)
      · exact .inr h.symm
theorem S_end (z : List Int) (n c y : Nat) : SA z n y ↔ SB z n c n y := by
  unfold SA SB
  constructor
  · rintro ⟨j, hj, h⟩
    exact ⟨n - 1 - j, by omega, .inr (by rw [show n - 1 - (n - 1 - j) = j by omega]; exact h)⟩
  · rintro ⟨j, hj, h | h⟩
    · exact ⟨_, Nat.mod_lt _ (by omega), h⟩
    · exact ⟨_, by omega, h⟩
theorem elem {w w' : World} {a : Option Addr} {len : Nat} {z : List Int} (hr : ∀ i, i < len → ∃ x, a = some x ∧ x.block < w.heap.size ∧ w.cell? (x.add i) = some (.int .u16 (z.getD i 0)) ∧ (Lit.int .u16 (z.getD i 0)).wf = true) (hb : Below w.heap.size w w') {i : Nat} (hi : i < len) (a0 : Int) :
    ∃ x q, a = some x ∧ w'.cell? (x.add i) = some (.int .u16 q) ∧ (0 ≤ q ∧ q ≤ 65535) ∧ (a0 + q % 100) % 4294967296 = adr a0 (far z i) := by
  obtain ⟨x, ha, hx, hc, hw⟩ := hr i hi
  have hz := bounds_u16 hw
  exact ⟨x, z.getD i 0, ha, row_later hb hx hc, hz, far_num a0 z i hz.1⟩
theorem turned_ix {a2 : Int} {k c n : Nat} (hc : (c : Int) = IntKind.u64.wrap a2 % 40) (hk : k < 40) : (wrap64 ((k : Int) + wrap64 ((IntKind.u64.wrap a2).tmod 40))).tmod (n : Int) = (((k + c) % n : Nat) : Int) := by
  have h0 : 0 ≤ IntKind.u64.wrap a2 := by rw [IntKind.wrap_u64]; omega
  rw [Int.tmod_eq_emod_of_nonneg h0, ← hc]
  have e1 : wrap64 (c : Int) = c := by unfold wrap64; omega
  have e2 : wrap64 ((k : Int) + (c : Int)) = (k : Int) + (c : Int) := by unfold wrap64; omega
  rw [e1, e2, Int.tmod_eq_emod_of_nonneg (by omega), Int.natCast_emod, Int.natCast_add]
set_option maxHeartbeats 4000000 in
theorem walk (a0 : Int) (a1 : Option Addr) (len1 cap1 : Nat) (z1 : List Int) (a2 : Int) (w : World) (w0 : (Lit.int .u32 a0).wf = true) (w1 : IsRow .u16 w a1 len1 cap1 z1) (w2 : (Lit.int .i64 a2).wf = true) :
    Calls Try.prog 4 #[.int .u32 a0, .slice a1 len1 cap1, .int .i64 a2] w fun e w' => e = .returned (.bool true) ∧ Below w.heap.size w w' := by
  have hM : 0 ≤ a0 ∧ a0 ≤ 4294967295 := bounds_u32 w0
  obtain ⟨hcap, hlen, hrow⟩ := row_of w1
  have HR := Lib.hid hrow
  have ha2 := bounds_i64 w2
  clear hrow w1 w0 w2
  obtain ⟨c, hc⟩ : ∃ c : Nat, (c : Int) = IntKind.u64.wrap a2 % 40 := ⟨(IntKind.u64.wrap a2 % 40).toNat, by omega⟩
  have hc40 : c < 40 := by omega
  have HC := Lib.hid hc
  clear hc
  by_cases h40 : (len1 : Int) ≤ 40
  all_goals
    go_enter Try.func4, Try.ntmps4
    go_wp2_with fail
    refine (first_span w).mono ?_
    rintro e W1 ⟨rfl, hb1⟩
    go_wp2_with fail
    refine (new_any a0 hM w.heap.size W1 hb1.size).mono ?_
    rintro e W2 ⟨rfl, hs2, hb2⟩
    have hb12 := hb1.trans (hb2.mono hb1.size)
    go_wp2_with fail
    refine (new_any a0 hM w.heap.size W2 hb12.size).mono ?_
    rintro e W3 ⟨rfl, hs3, hb3⟩
    have HO := Lib.hid (OSt.new hM (hb12.trans (hb3.mono hb12.size)) (hs2.below hb3) hs3 (by have := hs2.blk.lt; omega))
    clear hs2 hs3 hb1 hb2 hb3 hb12
    go_wp2_with fail
    obtain ⟨n, hn1, hn2, hn3⟩ : ∃ n : Nat, n = min len1 40 ∧ n ≤ len1 ∧ n ≤ 40 := ⟨min len1 40, rfl, by omega, by omega⟩
    first
      | rw [show Value.int .i64 40 = Value.int .i64 (n : Int) by rw [show (n : Int) = 40 by omega]]
      | rw [show Value.int .i64 (len1 : Int) = Value.int .i64 (n : Int) by rw [show (n : Int) = len1 by omega]]
    clear hn1 h40
    go_loopw [21] (fun i wr => ∃ k : Nat, k ≤ n ∧ i = .int .i64 k ∧ Hid (OSt w wr W1.heap.size W2.heap.size a0 (SA z1 k) (SB z1 n c k))) (fun i _ => n - (intOf i).toNat)
    case atStart => exact ⟨0, Nat.zero_le _, rfl, HO.out.congr (fun y => ⟨False.elim, fun ⟨j, hj, _⟩ => absurd hj (Nat.not_lt_zero j)⟩) (fun y => ⟨False.elim, fun ⟨j, hj, _⟩ => absurd hj (Nat.not_lt_zero j)⟩)⟩
    case round =>
      obtain ⟨k, hk, rfl, ho⟩ := hrel
      by_cases hlt : k < n
      · obtain ⟨x, q, rfl, hc1, hz1, hq1⟩ := elem HR.out ho.out.below (show k < len1 by omega) a0
        have HQ := Lib.hid hq1
        clear hq1
        go_wp2_with fail
        rw [HQ.out]
        refine (ho.out.addA hM (fun y => SA_le) (far_le z1 k)).mono ?_
        rintro e w1 ⟨⟨n1, rfl⟩, ho1⟩
        have HO1 := Lib.hid ho1
        obtain ⟨j2, hj2⟩ : ∃ j2, j2 = (k + c) % n := ⟨_, rfl⟩
        have hj2n : j2 < n := by rw [hj2]; exact Nat.mod_lt _ (by omega)
        have hj2l : j2 < len1 := by omega
        have hE : (wrap64 ((k : Int) + wrap64 ((IntKind.u64.wrap a2).tmod 40))).tmod (n : Int) = (j2 : Int) := by rw [hj2]; exact turned_ix HC.out (by omega)
        obtain ⟨x2, q2, hx2, hc2, hz2, hq2⟩ := elem HR.out HO1.out.below hj2l a0
        injection hx2 with hx2
        subst hx2
        have HQ2 := Lib.hid hq2
        have HJ2 := Lib.hid hj2
        clear ho1 hc1 hq2 hj2
        go_wp2_with fail
        rw [HQ2.out]
        refine (HO1.out.addB hM (fun y => SB_le) (far_le z1 j2)).mono ?_
        rintro e w2 ⟨⟨n2, rfl⟩, ho2⟩
        have HO2 := Lib.hid ho2
        clear ho2 hc2 hE
        obtain ⟨j3, hj3⟩ : ∃ j3, j3 = n - 1 - k := ⟨_, rfl⟩
        have hE : (n : Int) - 1 - (k : Int) = (j3 : Int) := by omega
        obtain ⟨x3, q3, hx3, hc3, hz3, hq3⟩ := elem HR.out HO2.out.below (show j3 < len1 by omega) a0
        injection hx3 with hx3
        subst hx3
        have hj3l : j3 < len1 := by omega
        have HQ3 := Lib.hid hq3
        have HJ3 := Lib.hid hj3
        clear hq3 hj3
        go_wp2_with fail
        rw [HQ3.out]
        refine (HO2.out.addB hM (fun y hy => hy.elim SB_le (fun h => by rw [h]; exact far_le _ _)) (far_le z1 j3)).mono ?_
        rintro e w3 ⟨⟨n3, rfl⟩, ho3⟩
        have HO3 : Hid (OSt w w3 W1.heap.size W2.heap.size a0 (SA z1 (k + 1)) (SB z1 n c (k + 1))) := ho3.congr (fun y => SA_succ z1 k y) (fun y => by rw [HJ2.out, HJ3.out]; exact SB_succ z1 n c k y)
        clear ho3 hc3 hE
        go_wp2
        go_roundw
        case rel => exact ⟨k + 1, by omega, by go_num, HO3⟩
        case measure => simp [intOf]; omega
      · obtain rfl : k = n := by omega
        obtain ⟨va, vb, M, rs, h2, hg⟩ := ho.out.same (S_end z1 k c)
        have H2 := Lib.hid h2
        have HB := Lib.hid ho.out.below
        have HG := Lib.hid hg
        clear h2 hg
        go_wp2_with fail
        refine (mark_any H2.out.sa).mono ?_
        rintro e w1 ⟨rfl, rfl⟩
        go_wp2_with fail
        refine (mark_any H2.out.sb).mono ?_
        rintro e w1 ⟨rfl, rfl⟩
        have hl := gp_len HG.out
        go_wp2_with fail
        refine (len_any H2.out.sa HG.out).mono ?_
        rintro e w1 ⟨rfl, hb1⟩
        have H3 := Lib.hid (H2.out.below hb1)
        have HB3 := Lib.hid (HB.out.trans (hb1.mono HB.out.size))
        clear hb1
        go_wp2_with fail
        refine (len_any H3.out.sb HG.out).mono ?_
        rintro e w2 ⟨rfl, hb2⟩
        have H4 := Lib.hid (H3.out.below hb2)
        have HB4 := Lib.hid (HB3.out.trans (hb2.mono HB3.out.size))
        clear hb2
        go_wp2_with fail
        refine (gaps_read H4.out.sa HG.out 999 (by omega)).mono ?_
        rintro e w3 ⟨u3, rfl, hu3, hb3⟩
        have H5 := Lib.hid (H4.out.below hb3)
        have HB5 := Lib.hid (HB4.out.trans (hb3.mono HB4.out.size))
        clear hb3
        go_wp2_with fail
        refine (gaps_read H5.out.sb HG.out 999 (by omega)).mono ?_
        rintro e w4 ⟨u4, rfl, hu4, hb4⟩
        have HU := Lib.hid (hu3.out.1.below hb4)
        have HB6 := Lib.hid (HB5.out.trans (hb4.mono HB5.out.size))
        clear hb4
        go_wp2_with fail
        refine (same_yes HU.out hu4.out.1 (by rw [List.length_take]; omega)).mono ?_
        rintro e w5 ⟨rfl, hb5⟩
        have HB7 := Lib.hid (HB6.out.trans (hb5.mono HB6.out.size))
        clear hb5
        go_wp2
        go_ret
        exact ⟨rfl, HB7.out⟩

/-! ### THE ROW's STEP: WRITTEN OUT: LEAVE IT -/
set_option maxRecDepth 100000 in
theorem lifted (os : Os) (started : os.Started) (H : Type) (enc : TypeId × Value → H) :
    ReturnsInHanded {} Try.checked os 4 .any (Rows.spanOrderSpec.pre6 enc Try.prog Try.f4 Rows.spanOrderRow.domain false) (Rows.spanOrderSpec.post enc Try.prog Try.f4 false true false false) := by
  refine returnsInHanded_of_change (C := Try.checked) own started (by kernel_rfl) Try.func4
    (ChangeSpec.witness6 (enc := enc) (C := Try.checked) false ⟨#[], #[.int .u32 0, .slice none 0 0, .int .i64 0], []⟩ 8 (by kernel_rfl) (by kernel_rfl) (by kernel_rfl) (by kernel_rfl)) ?_
  intro W base args ds gs before hval0 hW hcnd _
  have hval : ∀ (j : Nat) t v, Try.f4.params[j]? = some t → args[j]? = some v → Value.okWide Try.prog W .any base t v := hval0
  have hW' := hW
  obtain ⟨p, q, hA0, hV, rfl, hfz, hnd⟩ := hW
  have hA : DataW.TrodAll enc Try.prog W 0 (fun _ => true) true Try.f4.params.toList args.toList ds p := hA0
  rw [Try.params4] at hA hval
  obtain ⟨v0, vs0, d0, ds0, p0, q0, hargs, rfl, rfl, h0, r0⟩ := trodAll_cons hA
  obtain ⟨v1, vs1, d1, ds1, p1, q1, rfl, rfl, rfl, h1, r1⟩ := trodAll_cons r0
  obtain ⟨v2, vs2, d2, ds2, p2, q2, rfl, rfl, rfl, h2, r2⟩ := trodAll_cons r1
  obtain ⟨rfl, rfl, rfl⟩ := trodAll_nil r2
  obtain rfl : args = #[v0, v1, v2] := by cases args; simp_all
  obtain ⟨rfl, rfl⟩ := trodVars_none hV
  obtain ⟨a0, rfl, rfl, rfl, w0⟩ := open_int Try.underlying22 (hval 0 22 v0 rfl rfl) h0
  obtain ⟨a1, len1, cap1, rfl⟩ := okWide_slice Try.underlying46 (hval 1 46 v1 rfl rfl)
  have k1 := h1
  have lt1 : ∀ x ∈ p1, x.block < W.heap.size := by obtain ⟨m, hm⟩ := k1; exact DataW.trod_lt m _ _ _ hm
  obtain ⟨z1, w1⟩ : ∃ zs, IsRow .u16 W a1 len1 cap1 zs := by
    obtain ⟨fuel, hf⟩ := h1
    rcases open_ints Try.underlying46 Try.underlying42 (by kernel_rfl) hf with ⟨hcs, _⟩ | ⟨x, l, c, zs, hcs, _, hl, hm, hz, _, hcell, hwz⟩
    · simp [Value.cells] at hcs
      obtain ⟨rfl, rfl, rfl⟩ := hcs
      exact ⟨[], .inl ⟨rfl, rfl, rfl, rfl⟩⟩
    · simp [Value.cells] at hcs
      obtain ⟨rfl, rfl, rfl⟩ := hcs
      exact ⟨zs, .inr ⟨_, rfl, hl, hm, by simpa using hz, hcell, hwz⟩⟩
  obtain ⟨a2, rfl, rfl, rfl, w2⟩ := open_int Try.underlying3 (hval 2 3 v2 rfl rfl) h2
  clear hA0 hval0
  refine (walk a0 a1 len1 cap1 z1 a2 W w0 w1 w2).mono fun e W' ⟨he, bel⟩ => ?_
  subst he
  exact ⟨_, rfl, _, _, _, [], _, [], hW', trodAll_mk1 (shut_bool Try.underlying4 _), (trodAll_cons_mk (shut_int Try.underlying22 w0) (trodAll_cons_mk (Below.trod laidOut (by kernel_rfl) (of_decide_eq_true (by kernel_rfl)) k1 bel lt1) (trodAll_cons_mk (shut_int Try.underlying3 w2) trodAll_mk0))), rfl, bel.frame _, fun h => by cases h⟩

theorem over : Rows.spanOrderRow.holds Try.pinned (OpenSpec.ofChange Rows.spanOrderSpec) :=
  OpenClaim.holds_of_wide 4 Try.f4 rfl rfl rfl rfl rfl rfl rfl ⟨rfl, rfl, rfl, rfl, rfl⟩ rfl rfl rfl rfl rfl (by kernel_rfl) Try.func4 (by kernel_rfl)
    (of_decide_eq_true (by kernel_rfl)) (by unfold Func.isWrapper; first | (rw [if_pos (by decide +kernel)]; kernel_rfl) | (rw [if_neg (by decide +kernel)]; exact ⟨rfl, rfl⟩))
    (fun os started H enc _ => lifted os started H enc)

/-- ████ THE STATEMENT ████ -/
theorem proved : Rows.SpanOrderSaid := over
#print axioms proved
end Go.Proofs.Ytmkbadkibjmpaaa.spanOrder
