/-
  PROVED: WindRooms of flumelaw11 answers true for every input, and its arguments read afterwards as before. CONDITIONS: none beside the form's own.
-/
import Derived.Test.YtabjlmedcbnnpaaRows
import Derived.Test.YtabjlmedcbnnpaaWndLaw
import Derived.WalkKit
import Derived.ProofKit
import Derived.OpenShut
import Derived.ShutString
import Derived.ChangeOld
import Derived.Below
namespace Go.Proofs.Ytabjlmedcbnnpaa.windRooms
open Go.ChangeShapes Go.WideShapes Go.ChangeAt Go.RowKit
open Go.ChangeMaps (open_string shut_string)
set_option linter.unusedVariables false
set_option linter.unusedSimpArgs false

theorem own : ownKnob Try.prog.godebug = none := by kernel_rfl
theorem laidOut : laidOutB Try.prog = true := by kernel_rfl

/-- What the walk is told of a slice of integers that came in. -/
def IsRow (k : IntKind) (w : World) (a : Option Addr) (len cap : Nat) (zs : List Int) : Prop :=
  (a = none ∧ len = 0 ∧ cap = 0 ∧ zs = []) ∨
  ∃ x, a = some x ∧ len ≤ cap ∧ cap ≤ maxLen ∧ zs.length = cap ∧ (∀ i, i < zs.length → w.cell? (x.add i) = some (.int k (zs.getD i 0))) ∧ ∀ n ∈ zs, (Lit.int k n).wf = true

/-! ### The walk -/
open Words Wnd
set_option maxHeartbeats 4000000 in
set_option maxRecDepth 100000 in
theorem walk {H : Type} {enc : TypeId × Value → H} {base : Nat} (v0 : Value) (d0 : DataW H) (p0 : List MemPlace) (a1 : Int) (w : World) (o0 : Value.okWide Try.prog w .any base 22 v0) (k0 : DataW.Trod enc Try.prog w 0 (fun _ => true) true 22 v0 d0 p0) (w1 : (Lit.int .i64 a1).wf = true) :
    Calls Try.prog 6 #[v0, .int .i64 a1] w fun e w' => e = .returned (.bool true) ∧ Below w.heap.size w w' := by
  have hA := bounds_i64 w1
  clear w1
  obtain ⟨A1, ns, cs1, rfl⟩ := okWide_slice Try.underlying22 o0
  have hsee : Sees w (.slice ActSh) [.slice A1 ns cs1] := sees_of (sh := .slice ActSh) rfl (by kernel_rfl) k0
  obtain ⟨A1', ns', cs1', he, hcs1, hcs63, hel⟩ := Sees.elems hsee
  injection he with e1 e2 e3
  subst e1 e2 e3
  have HA : Hid (∀ i, i < ns → ∃ ad K N F b, A1 = some ad ∧ ActAt w ad i K N F b) := actAt_of hel
  clear o0 k0 hsee hel
  go_enter Try.func6, Try.ntmps6
  go_wp2_with fail
  refine (first_any w).mono ?_
  rintro e W1 ⟨rfl, hb1⟩
  have H0 := Lib.hid (new_any hb1)
  clear hb1
  go_wp2_with fail
  refine H0.out.mono ?_
  rintro e W2 ⟨rfl, h2⟩
  have H2 := Lib.hid h2
  clear h2 H0
  obtain ⟨p, hp⟩ : ∃ p, p = W1.heap.size := ⟨_, rfl⟩
  rw [← hp] at H2 ⊢
  clear hp
  go_wp2_with fail
  go_loopw [17] (fun i wr => ∃ k : Nat, k ≤ ns ∧ i = .int .i64 k ∧ ∃ x, Hid (S1 w wr p x) ∧ Hid (x.Ok (min k 100))) (fun i _ => ns - (intOf i).toNat)
  case atStart => exact ⟨0, Nat.zero_le _, rfl, _, H2, wi0_ok⟩
  case round =>
    obtain ⟨k, hk, rfl, x, HX, OK⟩ := hrel
    by_cases hlt : k < ns
    · obtain ⟨ad, K, N, F, b, rfl, hat⟩ := HA.out k hlt
      obtain ⟨c1, c2, c3, c4, hK, hN, hF⟩ := hat.keep HX.out.b
      have HN := Lib.hid hN
      go_upto_region 7 with (fail)
      have HO := Lib.hid (S1o.new HX.out K N F b)
      obtain ⟨Wo, hWo⟩ : ∃ Wo, Wo = wr.alloc (.cells #[.int .i64 K, .int .i64 N, .int .i64 F, .bool b] 29) := ⟨_, rfl⟩
      obtain ⟨g, hg⟩ : ∃ g, g = wr.heap.size := ⟨_, rfl⟩
      rw [← hWo, ← hg] at HO
      rw [← hWo, ← hg]
      clear hWo hg c1 c2 c3 c4
      have o1 : Wo.cell? ⟨g, 1, none⟩ = some (.int .i64 N) := HO.out.o.cell 1
      have o2 : Wo.cell? ⟨g, 2, none⟩ = some (.int .i64 F) := HO.out.o.cell 2
      have o3 : Wo.cell? ⟨g, 3, none⟩ = some (.bool b) := HO.out.o.cell 3
      by_cases h100 : k < 100
      · go_wp2_with fail
        refine (HO.out.acked OK.out N F HN.out b).mono ?_
        rintro e w3 ⟨rfl, H3⟩
        go_wp2_with fail
        go_roundw
        case rel => exact ⟨k + 1, by omega, by go_num, _, H3.out.s, by rw [show min (k + 1) 100 = min k 100 + 1 by omega]; exact ack_ok OK.out _ _ _ (by omega)⟩
        case measure => simp [intOf]; omega
      · go_wp2_with fail
        go_roundw
        case rel => exact ⟨k + 1, by omega, by go_num, _, HO.out.s, by rw [show min (k + 1) 100 = min k 100 by omega]; exact OK.out⟩
        case measure => simp [intOf]; omega
    · obtain rfl : k = ns := by omega
      go_wp2_with fail
      refine HX.out.size.mono ?_
      rintro e w3 ⟨rfl, H3⟩
      have hs1 := OK.out.s1
      have hs2 := OK.out.s2
      obtain ⟨n, hn, hnb⟩ := u64rem a1 (x.s + 1) (by omega) (by omega)
      have R1 := Lib.hid (fun f hf => H3.out.room OK.out f hf)
      clear OK HX
      obtain ⟨s, hse⟩ : ∃ s, s = x.s := ⟨_, rfl⟩
      rw [← hse] at hs1 hs2 hn hnb R1 ⊢
      clear hse
      have R2 := Lib.hid (fun f hf v (hv : max (s - max f 0) 0 = v) => by have := R1.out f hf; rw [hv] at this; exact this)
      go_wp2_with fail
      refine (R2.out n (by omega) (s - n) (by omega)).mono ?_
      rintro e w4 ⟨rfl, rfl⟩
      go_wp2_with fail
      refine (R2.out s (by omega) 0 (by omega)).mono ?_
      rintro e w4 ⟨rfl, rfl⟩
      go_wp2_with fail
      refine (R2.out (s + 1 + n) (by omega) 0 (by omega)).mono ?_
      rintro e w4 ⟨rfl, rfl⟩
      go_wp2_with fail
      refine (R2.out (-1 - n) (by omega) s (by omega)).mono ?_
      rintro e w4 ⟨rfl, rfl⟩
      go_wp2_with fail
      go_ret
      exact ⟨rfl, H3.out.b⟩

/-! ### The row's step -/
set_option maxRecDepth 100000 in
theorem lifted (os : Os) (started : os.Started) (H : Type) (enc : TypeId × Value → H) :
    ReturnsInHanded {} Try.checked os 6 .any (Rows.windRoomsSpec.pre6 enc Try.prog Try.f6 Rows.windRoomsRow.domain false) (Rows.windRoomsSpec.post enc Try.prog Try.f6 false true false false) := by
  refine returnsInHanded_of_change (C := Try.checked) own started (by kernel_rfl) Try.func6
    (ChangeSpec.witness6 (enc := enc) (C := Try.checked) false ⟨#[], #[.slice none 0 0, .int .i64 0], []⟩ 8 (by kernel_rfl) (by kernel_rfl) (by kernel_rfl) (by kernel_rfl)) ?_
  intro W base args ds gs before hval0 hW hcnd _
  have hval : ∀ (j : Nat) t v, Try.f6.params[j]? = some t → args[j]? = some v → Value.okWide Try.prog W .any base t v := hval0
  have hW' := hW
  obtain ⟨p, q, hA0, hV, rfl, hfz, hnd⟩ := hW
  have hA : DataW.TrodAll enc Try.prog W 0 (fun _ => true) true Try.f6.params.toList args.toList ds p := hA0
  rw [Try.params6] at hA hval
  obtain ⟨v0, vs0, d0, ds0, p0, q0, hargs, rfl, rfl, h0, r0⟩ := trodAll_cons hA
  obtain ⟨v1, vs1, d1, ds1, p1, q1, rfl, rfl, rfl, h1, r1⟩ := trodAll_cons r0
  obtain ⟨rfl, rfl, rfl⟩ := trodAll_nil r1
  obtain rfl : args = #[v0, v1] := by cases args; simp_all
  obtain ⟨rfl, rfl⟩ := trodVars_none hV
  have lt0 : ∀ x ∈ p0, x.block < W.heap.size := by obtain ⟨m, hm⟩ := h0; exact DataW.trod_lt m _ _ _ hm
  obtain ⟨a1, rfl, rfl, rfl, w1⟩ := open_int Try.underlying3 (hval 1 3 v1 rfl rfl) h1
  clear hA0 hval0
  refine (walk v0 d0 p0 a1 W (hval 0 22 v0 rfl rfl) h0 w1).mono fun e W' ⟨he, bel⟩ => ?_
  subst he
  exact ⟨_, rfl, _, _, _, [], _, [], hW', trodAll_mk1 (shut_bool Try.underlying4 _), (trodAll_cons_mk (Below.trod laidOut (by kernel_rfl) (of_decide_eq_true (by kernel_rfl)) h0 bel lt0) (trodAll_cons_mk (shut_int Try.underlying3 w1) trodAll_mk0)), rfl, bel.frame _, fun h => by cases h⟩

theorem over : Rows.windRoomsRow.holds Try.pinned (OpenSpec.ofChange Rows.windRoomsSpec) :=
  OpenClaim.holds_of_wide 6 Try.f6 rfl rfl rfl rfl rfl rfl rfl ⟨rfl, rfl, rfl, rfl, rfl⟩ rfl rfl rfl rfl rfl (by kernel_rfl) Try.func6 (by kernel_rfl)
    (of_decide_eq_true (by kernel_rfl)) (by unfold Func.isWrapper; first | (rw [if_pos (by decide +kernel)]; kernel_rfl) | (rw [if_neg (by decide +kernel)]; exact ⟨rfl, rfl⟩))
    (fun os started H enc _ => lifted os started H enc)

theorem proved : Rows.WindRoomsSaid := over
#print axioms proved
end Go.Proofs.Ytabjlmedcbnnpaa.windRooms
