/-
  PROVED: ParamFinds of flumelaw05 answers true for every input, and its arguments read afterwards as before. CONDITIONS: none beside the form's own.
-/
import Derived.Test.YtanjlagaipkfmaaRows
import Derived.Test.YtanjlagaipkfmaaParG
import Derived.Test.YtanjlagaipkfmaaParLaw
import Derived.Test.YtanjlagaipkfmaaSees
import Derived.Test.YtanjlagaipkfmaaStage
import Derived.Test.YtanjlagaipkfmaaRegion
import Derived.WalkKit
import Derived.ProofKit
import Derived.OpenShut
import Derived.ShutString
import Derived.ChangeOld
import Derived.Below
namespace Go.Proofs.Ytanjlagaipkfmaa.paramFinds
open Go.ChangeShapes Go.WideShapes Go.ChangeAt Go.RowKit
open Go.ChangeMaps (open_string shut_string)
set_option linter.unusedVariables false
set_option linter.unusedSimpArgs false

theorem own : ownKnob Try.prog.godebug = none := by kernel_rfl
theorem laidOut : laidOutB Try.prog = true := by kernel_rfl

/-- What the walk is told of a slice of integers that came in. -/
def IsRow (k : IntKind) (w : World) (a : Option Addr) (len cap : Nat) (zs : List Int) : Prop :=
  (a = none ∧ len = 0 ∧ cap = 0 ∧ zs = []) ∨
  ∃ x, a = some x ∧ len ≤ cap ∧ cap ≤ maxLen ∧ zs.length = cap ∧ (∀ i, i < zs.length → w.cell? (x.add i) = some (.int k (zs.getD i 0))) ∧ ∀ n ∈ zs, (Lit.int k n).wf = true

/-! ### The walk -/
open Words Oct Par
/-- What is found of a kind, from the k-th on. -/
def fnd (ls : List Prm) (kind k : Nat) : Option Prm := (ls.drop k).find? (fun p => p.1 == kind)
theorem fnd_end (ls : List Prm) (kind : Nat) : fnd ls kind ls.length = none := by simp [fnd]
theorem fnd_step {ls : List Prm} {kind k : Nat} (hk : k < ls.length) : fnd ls kind k = if ls[k].1 = kind then some ls[k] else fnd ls kind (k + 1) := by
  unfold fnd
  rw [List.drop_eq_getElem_cons hk, List.find?_cons]
  by_cases h : ls[k].1 = kind
  · rw [if_pos h, show (ls[k].1 == kind) = true by simpa using h]
  · rw [if_neg h, show (ls[k].1 == kind) = false by simpa using h]
/-- The bytes of what was found; none, if nothing was. -/
def fndV (o : Option Prm) : List UInt8 := match o with | some p => p.2 | none => []
set_option maxHeartbeats 4000000 in
set_option maxRecDepth 100000 in
theorem walk {H : Type} {enc : TypeId × Value → H} {base : Nat} (v0 : Value) (d0 : DataW H) (p0 : List MemPlace) (a1 : Int) (w : World) (o0 : Value.okWide Try.prog w .any base 22 v0) (k0 : DataW.Trod enc Try.prog w 0 (fun _ => true) true 22 v0 d0 p0) (w1 : (Lit.int .u16 a1).wf = true) :
    Calls Try.prog 5 #[v0, .int .u16 a1] w fun e w' => e = .returned (.bool true) ∧ Below w.heap.size w w' := by
  obtain ⟨A0, n0, c0, rfl⟩ := okWide_slice Try.underlying22 o0
  have hsee : Sees w (.slice PrmSh) [.slice A0 n0 c0] := sees_of (sh := .slice PrmSh) rfl prmSh_fits k0
  obtain ⟨A0', c0', ls, he, hc, hm, hps⟩ := ps_of hsee
  injection he with e1 e2 e3
  subst e1 e3
  obtain ⟨n, hn⟩ : ∃ n, n = n0 := ⟨_, rfl⟩
  have HN : Hid (n = ls.length) := by rw [hn]; exact e2
  rw [← e2, ← hn] at hc
  rw [← hn]
  have bk := bounds_u16 w1
  obtain ⟨kind, hkind⟩ : ∃ k : Nat, a1 = (k : Int) := ⟨a1.toNat, by omega⟩
  subst hkind
  have hk16 : kind < 65536 := by omega
  have HP := Lib.hid hps
  clear e2 hn o0 k0 hsee hps bk w1
  go_enter Try.func5, Try.ntmps5
  go_wp2_with fail
  refine (first_any put_c get_c w).mono ?_
  rintro e W1 ⟨rfl, hb1⟩
  have HB1 := Lib.hid hb1
  clear hb1
  go_wp2_with fail
  refine (size_any rfl A0 ls n c0 W1 HN.out hc hm ((HP.out.below HB1.out).more HB1.out.size)).mono ?_
  rintro e W2 ⟨rfl, hb2⟩
  have HB2 := Lib.hid (HB1.out.trans (hb2.mono HB1.out.size))
  clear hb2
  obtain ⟨sz, hsz⟩ : ∃ sz, sz = sizeF ls 0 := ⟨_, rfl⟩
  rw [← hsz]
  have HSZ := Lib.hid hsz
  clear hsz
  by_cases hbig : (100000 : Int) < (sz : Int)
  · go_wp2_with fail
    go_ret
    exact ⟨rfl, HB2.out⟩
  · have hsl : sizeL ls ≤ 100000 := by
      have h1 := HSZ.out
      have := sizeF_eq ls 0 (by omega)
      omega
    have HSL := Lib.hid hsl
    have hn25 : n ≤ 25000 := by have := len_le_size ls; have := HN.out; omega
    clear hsl
    go_wp2_with fail
    refine (copy_any A0 ls n c0 W2 HN.out (by have := HSL.out; omega) ((HP.out.below HB2.out).more HB2.out.size)).mono ?_
    rintro e W3 ⟨⟨v3, rfl, ho3⟩, hb3⟩
    obtain ⟨A3, c3, rfl, h3a, h3b⟩ := ho3.slice
    rw [← HN.out] at ho3 h3a ⊢
    have HB3 := Lib.hid (HB2.out.trans (hb3.mono HB2.out.size))
    have HO3 := Lib.hid ho3
    clear ho3 hb3
    go_wp2_with fail
    refine (find_c A3 ls n c3 kind W3 HN.out h3a h3b hk16 (by have := HSL.out; omega) HO3.out.ps).mono ?_
    rintro e W4 ⟨hd, hb4⟩
    have HB4 := Lib.hid (HB3.out.trans (hb4.mono HB3.out.size))
    have HO4 := Lib.hid (HO3.out.grows hb4)
    have hd2 : ∃ A5 c5 nv, e = .returned (.tuple #[.slice A5 nv c5, .bool (fnd ls kind 0).isSome]) ∧ Hid (nv = (fndV (fnd ls kind 0)).length) ∧ c5 ≤ 9223372036854775807 ∧ nv ≤ 100000 ∧ (nv = 0 ∨ Hid (Own W4 W3.heap.size (.slice A5 nv c5) (fndV (fnd ls kind 0)))) := by
      rcases hd with ⟨v, p, hp, rfl, ho⟩ | ⟨A, c, hp, rfl, hcm⟩
      · have h0 : fnd ls kind 0 = some p := hp
        obtain ⟨A5, c5, rfl, h5a, h5b⟩ := own_slice ho
        rw [h0]
        refine ⟨A5, c5, p.2.length, rfl, rfl, h5b, ?_, .inr ho⟩
        have := val_le_size ls p (List.mem_of_find?_eq_some hp)
        have := HSL.out
        omega
      · have h0 : fnd ls kind 0 = none := hp
        rw [h0]
        exact ⟨A, c, 0, rfl, rfl, hcm, by omega, .inl rfl⟩
    have hb34 := Lib.hid hb4
    obtain ⟨A5, c5, nv, rfl, HNV, h5b, hnv, HOV⟩ := hd2
    clear hd hb4
    obtain ⟨fv, hfv⟩ : ∃ fv, fv = fndV (fnd ls kind 0) := ⟨_, rfl⟩
    rw [← hfv] at HNV HOV
    have HFV := Lib.hid hfv
    have HYV : Hid (Byt W4 W4.heap.size A5 fv) := by
      rcases HOV with h0 | h0
      · have : fv = [] := List.eq_nil_of_length_eq_zero (by have := HNV.out; omega)
        rw [this]
        exact ⟨by simp [u8s], fun h => absurd h (by simp)⟩
      · exact Own.byt h0.out
    have HOV2 := Lib.hid HOV
    have hst1 := run_str (P := Try.prog) HYV.out 26 9 5 Try.underlying26 Try.underlying5 Try.underlying9 nv c5 HNV.out
    obtain ⟨sm, hsm⟩ : ∃ sm, sm = (fnd ls kind 0).isSome := ⟨_, rfl⟩
    rw [← hsm]
    have HSM := Lib.hid hsm
    have e0 : IntKind.i64.wrap ((n : Int) - 1) = (n : Int) - 1 := IntWalk.i64_in _ (by omega)
    clear hsm HOV hfv
    go_wp2_with fail
    go_loopw [8, 9, 10] (fun s8 s9 i wr => ∃ k : Nat, k ≤ n ∧ i = .int .i64 ((k : Int) - 1) ∧ s8 = .string ⟨(fndV (fnd ls kind k)).toArray⟩ ∧ s9 = .bool (fnd ls kind k).isSome ∧ W4 = wr) (fun _ _ i _ => (intOf i + 1).toNat)
    case atStart => exact ⟨n, by omega, rfl, by rw [HN.out, fnd_end]; rfl, by rw [HN.out, fnd_end]; rfl, rfl⟩
    case round =>
      obtain ⟨k, hk, rfl, rfl, rfl, rfl⟩ := hrel
      rcases k with _ | m
      · rw [← HFV.out, ← HSM.out]
        have hd1 : (sm != sm) = false := by cases sm <;> rfl
        have hd2 : (fv == fv) = true := by simp
        go_wp2_with fail
        go_loopw [11, 56] (fun _ i wr => ∃ (k : Nat) (l' : List UInt8), k ≤ nv ∧ i = .int .i64 k ∧ Hid (nv = l'.length) ∧ Hid (nv = 0 ∨ wr.ownsRow W3.heap.size 5 1 (.slice A5 nv c5) nv (u8s l')) ∧ Hid (Below W3.heap.size W3 wr)) (fun _ i _ => nv - (intOf i).toNat)
        case atStart =>
          refine ⟨0, fv, by omega, rfl, HNV, ?_, hb34.out⟩
          rcases HOV2.out with h0 | h0
          · exact .inl h0
          · refine .inr ?_
            have := h0.out
            unfold Own at this
            rw [← HNV.out] at this
            exact this
        case round =>
          obtain ⟨k, l', hk, rfl, HN', HOr, HBr⟩ := hrel
          by_cases hlt : k < nv
          · have hown : wr.ownsRow W3.heap.size 5 1 (.slice A5 nv c5) nv (u8s l') := by
              rcases HOr.out with h | h
              · omega
              · exact h
            obtain ⟨g, y, l2, rfl, hcell, hfr, hn2', hst⟩ := flip_at hown HN'.out hlt
            have HN2' := Lib.hid hn2'
            have HST := Lib.hid hst
            have HGB : Hid (W3.heap.size ≤ g) := (hown.lt g rfl).1
            have hyb := u8_bd y
            clear hn2' hst hown
            go_wp2_with fail
            go_roundw
            case rel => exact ⟨k + 1, l2, by omega, by go_num, HN2', .inr (HST.out _ rfl).1.out, HBr.out.setCell (p := ⟨g, k, none⟩) HGB.out _⟩
            case measure => simp [intOf]; omega
          · obtain rfl : k = nv := by omega
            go_wp2_with fail
            refine (same_any A3 A0 ls ls n n c3 c0 W3.heap.size w.heap.size wr HN.out HN.out h3a hc h3b hm (HO3.out.ps.below HBr.out) (HP.out.below (HB3.out.trans (HBr.out.mono HB3.out.size)))).mono ?_
            rintro e W6 ⟨he, m, rfl⟩
            obtain rfl : e = .returned (.bool true) := by rw [he]; simp
            go_wp2_with fail
            go_ret
            exact ⟨rfl, below_drewN (HB3.out.trans (HBr.out.mono HB3.out.size)) _⟩
      · have hm2 : m < ls.length := by rw [← HN.out]; omega
        have HFS := Lib.hid (fnd_step (kind := kind) hm2)
        obtain ⟨ad, a, cv, rfl, _, hp16, q0, q1, hvc, hvm, hvb⟩ := (HP.out.below HB4.out) m _ (List.getElem?_eq_getElem hm2)
        obtain ⟨p, hp⟩ : ∃ p, p = ls[m] := ⟨_, rfl⟩
        rw [← hp] at hp16 q0 q1 hvc hvb HFS
        obtain ⟨v2, hv2⟩ : ∃ v2, v2 = p.2 := ⟨_, rfl⟩
        obtain ⟨kd, hkd⟩ : ∃ kd, kd = p.1 := ⟨_, rfl⟩
        rw [← hkd] at hp16 q0 HFS
        rw [← hv2] at q1 hvc hvb
        obtain ⟨lv, hlv⟩ : ∃ lv, lv = v2.length := ⟨_, rfl⟩
        rw [← hlv] at q1 hvc
        have hst2 := run_str (P := Try.prog) hvb 26 9 5 Try.underlying26 Try.underlying5 Try.underlying9 lv cv hlv
        have HV2 := Lib.hid hv2
        rw [show ((m + 1 : Nat) : Int) - 1 = (m : Int) by omega]
        have f1 : (m : Int) < (n : Int) := by omega
        have f2 : (0 : Int) ≤ (m : Int) := by omega
        clear hp hkd hv2 hvb hlv
        by_cases hkk : kd = kind
        · subst hkk
          have HF1 : Hid (fnd ls kd m = some p) := by rw [HFS.out, if_pos rfl]; rfl
          clear HFS
          go_wp2_with fail
          go_roundw
          case rel => exact ⟨m, by omega, by go_num, by rw [HF1.out, HV2.out]; rfl, by rw [HF1.out]; rfl, by first | rfl | trivial⟩
          case measure => simp [intOf]
        · have HF1 : Hid (fnd ls kind m = fnd ls kind (m + 1)) := by rw [HFS.out, if_neg hkk]; rfl
          have hkk2 : ¬ (kd : Int) = (kind : Int) := by omega
          clear HFS
          go_wp2_with fail
          go_roundw
          case rel => exact ⟨m, by omega, by go_num, by rw [HF1.out], by rw [HF1.out], by first | rfl | trivial⟩
          case measure => simp [intOf]

/-! ### The row's step -/
set_option maxRecDepth 100000 in
theorem lifted (os : Os) (started : os.Started) (H : Type) (enc : TypeId × Value → H) :
    ReturnsInHanded {} Try.checked os 5 .any (Rows.paramFindsSpec.pre6 enc Try.prog Try.f5 Rows.paramFindsRow.domain false) (Rows.paramFindsSpec.post enc Try.prog Try.f5 false true false false) := by
  refine returnsInHanded_of_change (C := Try.checked) own started (by kernel_rfl) Try.func5
    (ChangeSpec.witness6 (enc := enc) (C := Try.checked) false ⟨#[], #[.slice none 0 0, .int .u16 0], []⟩ 8 (by kernel_rfl) (by kernel_rfl) (by kernel_rfl) (by kernel_rfl)) ?_
  intro W base args ds gs before hval0 hW hcnd _
  have hval : ∀ (j : Nat) t v, Try.f5.params[j]? = some t → args[j]? = some v → Value.okWide Try.prog W .any base t v := hval0
  have hW' := hW
  obtain ⟨p, q, hA0, hV, rfl, hfz, hnd⟩ := hW
  have hA : DataW.TrodAll enc Try.prog W 0 (fun _ => true) true Try.f5.params.toList args.toList ds p := hA0
  rw [Try.params5] at hA hval
  obtain ⟨v0, vs0, d0, ds0, p0, q0, hargs, rfl, rfl, h0, r0⟩ := trodAll_cons hA
  obtain ⟨v1, vs1, d1, ds1, p1, q1, rfl, rfl, rfl, h1, r1⟩ := trodAll_cons r0
  obtain ⟨rfl, rfl, rfl⟩ := trodAll_nil r1
  obtain rfl : args = #[v0, v1] := by cases args; simp_all
  obtain ⟨rfl, rfl⟩ := trodVars_none hV
  have lt0 : ∀ x ∈ p0, x.block < W.heap.size := by obtain ⟨m, hm⟩ := h0; exact DataW.trod_lt m _ _ _ hm
  obtain ⟨a1, rfl, rfl, rfl, w1⟩ := open_int Try.underlying39 (hval 1 39 v1 rfl rfl) h1
  clear hA0 hval0
  refine (walk v0 d0 p0 a1 W (hval 0 22 v0 rfl rfl) h0 w1).mono fun e W' ⟨he, bel⟩ => ?_
  subst he
  exact ⟨_, rfl, _, _, _, [], _, [], hW', trodAll_mk1 (shut_bool Try.underlying4 _), (trodAll_cons_mk (Below.trod laidOut (by kernel_rfl) (of_decide_eq_true (by kernel_rfl)) h0 bel lt0) (trodAll_cons_mk (shut_int Try.underlying39 w1) trodAll_mk0)), rfl, bel.frame _, fun h => by cases h⟩

theorem over : Rows.paramFindsRow.holds Try.pinned (OpenSpec.ofChange Rows.paramFindsSpec) :=
  OpenClaim.holds_of_wide 5 Try.f5 rfl rfl rfl rfl rfl rfl rfl ⟨rfl, rfl, rfl, rfl, rfl⟩ rfl rfl rfl rfl rfl (by kernel_rfl) Try.func5 (by kernel_rfl)
    (of_decide_eq_true (by kernel_rfl)) (by unfold Func.isWrapper; first | (rw [if_pos (by decide +kernel)]; kernel_rfl) | (rw [if_neg (by decide +kernel)]; exact ⟨rfl, rfl⟩))
    (fun os started H enc _ => lifted os started H enc)

theorem proved : Rows.ParamFindsSaid := over
#print axioms proved
end Go.Proofs.Ytanjlagaipkfmaa.paramFinds
