/-
  PROVED: ParamCuts of flumelaw05 answers true for every input, and its arguments read afterwards as before. CONDITIONS: none beside the form's own.
-/
import Derived.Test.YtanjlagaipkfmaaRows
import Derived.Test.YtanjlagaipkfmaaParG
import Derived.Test.YtanjlagaipkfmaaParLaw
import Derived.Test.YtanjlagaipkfmaaSees
import Derived.Test.YtanjlagaipkfmaaStage
import Derived.Test.YtanjlagaipkfmaaRegion
import Derived.WalkKit
import Derived.ProofKit
import Derived.OpenShut
import Derived.ShutString
import Derived.ChangeOld
import Derived.Below
namespace Go.Proofs.Ytanjlagaipkfmaa.paramCuts
open Go.ChangeShapes Go.WideShapes Go.ChangeAt Go.RowKit
open Go.ChangeMaps (open_string shut_string)
set_option linter.unusedVariables false
set_option linter.unusedSimpArgs false

theorem own : ownKnob Try.prog.godebug = none := by kernel_rfl
theorem laidOut : laidOutB Try.prog = true := by kernel_rfl

/-- What the walk is told of a slice of integers that came in. -/
def IsRow (k : IntKind) (w : World) (a : Option Addr) (len cap : Nat) (zs : List Int) : Prop :=
  (a = none ∧ len = 0 ∧ cap = 0 ∧ zs = []) ∨
  ∃ x, a = some x ∧ len ≤ cap ∧ cap ≤ maxLen ∧ zs.length = cap ∧ (∀ i, i < zs.length → w.cell? (x.add i) = some (.int k (zs.getD i 0))) ∧ ∀ n ∈ zs, (Lit.int k n).wf = true

/-! ### The walk -/
open Words Oct Par
theorem kinds_of {w : World} {B : Nat} {A : Option Addr} {ls : List Prm} (h : Ps w B A ls) : ∀ p ∈ ls, p.1 < 65536 := fun p hp => by
  obtain ⟨k, hk, rfl⟩ := List.mem_iff_getElem.1 hp
  obtain ⟨_, _, _, _, _, h3, _⟩ := h k _ (List.getElem?_eq_getElem hk)
  exact h3
set_option maxHeartbeats 4000000 in
set_option maxRecDepth 100000 in
theorem walk {H : Type} {enc : TypeId × Value → H} {base : Nat} (v0 : Value) (d0 : DataW H) (p0 : List MemPlace) (a1 : Int) (w : World) (o0 : Value.okWide Try.prog w .any base 22 v0) (k0 : DataW.Trod enc Try.prog w 0 (fun _ => true) true 22 v0 d0 p0) (w1 : (Lit.int .i64 a1).wf = true) :
    Calls Try.prog 7 #[v0, .int .i64 a1] w fun e w' => e = .returned (.bool true) ∧ Below w.heap.size w w' := by
  obtain ⟨A0, n0, c0, rfl⟩ := okWide_slice Try.underlying22 o0
  have hsee : Sees w (.slice PrmSh) [.slice A0 n0 c0] := sees_of (sh := .slice PrmSh) rfl prmSh_fits k0
  obtain ⟨A0', c0', ls, he, hc, hm, hps⟩ := ps_of hsee
  injection he with e1 e2 e3
  subst e1 e3
  obtain ⟨n, hn⟩ : ∃ n, n = n0 := ⟨_, rfl⟩
  have HN : Hid (n = ls.length) := by rw [hn]; exact e2
  rw [← e2, ← hn] at hc
  rw [← hn]
  have HP := Lib.hid hps
  have ha1 := bounds_i64 w1
  clear e2 hn o0 k0 hsee hps w1
  go_enter Try.func7, Try.ntmps7
  go_wp2_with fail
  refine (first_any put_c get_c w).mono ?_
  rintro e W1 ⟨rfl, hb1⟩
  have HB1 := Lib.hid hb1
  clear hb1
  go_wp2_with fail
  refine (size_any rfl A0 ls n c0 W1 HN.out hc hm ((HP.out.below HB1.out).more HB1.out.size)).mono ?_
  rintro e W2 ⟨rfl, hb2⟩
  have HB2 := Lib.hid (HB1.out.trans (hb2.mono HB1.out.size))
  clear hb2
  obtain ⟨sz, hsz⟩ : ∃ sz, sz = sizeF ls 0 := ⟨_, rfl⟩
  rw [← hsz]
  have HSZ := Lib.hid hsz
  clear hsz
  by_cases hbig : (20000 : Int) < (sz : Int)
  · go_wp2_with fail
    go_ret
    exact ⟨rfl, HB2.out⟩
  · by_cases hn200 : (200 : Int) < (n : Int)
    · go_wp2_with fail
      go_ret
      exact ⟨rfl, HB2.out⟩
    · have HSL : Hid (sizeL ls ≤ 20000) := by
        have h1 := HSZ.out
        have := sizeF_eq ls 0 (by omega)
        show _ ≤ _
        omega
      go_wp2_with fail
      refine (put_c A0 ls n c0 W2 HN.out hc hm (by have := HSL.out; omega) ((HP.out.below HB2.out).more HB2.out.size)).mono ?_
      rintro e W3 ⟨hd, hb3⟩
      have HB3 := Lib.hid (HB2.out.trans (hb3.mono HB2.out.size))
      rcases hd with ⟨v3, rfl, ho3, hsm3⟩ | ⟨A3, c3, rfl, _⟩
      · obtain ⟨A3, c3, rfl, h3a, h3b⟩ := own_slice ho3
        have henl : (encL ls).length ≤ 40000 := by have h1 := encL_le ls; have := HSL.out; omega
        obtain ⟨nb, hnb⟩ : ∃ nb, nb = (encL ls).length := ⟨_, rfl⟩
        have HY3 : Hid (Byt W3 W3.heap.size A3 (encL ls)) := Own.byt ho3
        rw [← hnb] at henl h3a ⊢
        have HNB := Lib.hid hnb
        have HOK : Hid (∀ p ∈ ls, okP p) := fun p hp => ⟨kinds_of HP.out p hp, hsm3 p hp⟩
        clear ho3 hb3 hsm3 hnb
        obtain ⟨k, hk, hkn⟩ := u64rem a1 ((nb : Int) + 1) (by omega) (by omega)
        have hwn : IntKind.u64.wrap ((nb : Int) + 1) = (nb : Int) + 1 := by simp [IntKind.wrap, IntKind.bits, IntKind.signed]; omega
        have hkb : k ≤ nb := by omega
        go_upto_region 9 with (fail)
        rw [hk]
        clear hk hwn
        go_wp2_with fail
        obtain ⟨b0, hb0⟩ : ∃ b0, b0 = decide (offs ls 0 = k) := ⟨_, rfl⟩
        have hb0' : ((k : Int) == 0) = b0 := by rw [hb0, offs_zero, Bool.eq_iff_iff]; simp; omega
        have HB0 := Lib.hid hb0
        have HB0' := Lib.hid hb0'
        clear hb0 hb0'
        go_loopw [8, 9, 10, 11, 12, 46] (fun s8 s9 s10 _ _ i wr => ∃ (j m oj : Nat) (bm : Bool), j ≤ n ∧ i = .int .i64 j ∧ m ≤ j ∧ s8 = .bool bm ∧ s9 = .int .i64 (oj : Int) ∧ s10 = .int .i64 (m : Int) ∧ oj ≤ nb ∧ Hid (bm = decide (offs ls m = k)) ∧ Hid (oj = offs ls j) ∧ Hid (offs ls m ≤ k) ∧ Hid (m < j → k < offs ls (m + 1)) ∧ Hid (Below w.heap.size w wr) ∧ Hid (Below W3.heap.size W3 wr)) (fun _ _ _ _ _ i _ => n - (intOf i).toNat)
        case atStart => exact ⟨0, 0, 0, b0, by omega, rfl, by omega, by rw [← HB0'.out], rfl, rfl, by omega, HB0, rfl, Nat.zero_le _, fun h => absurd h (by omega), HB3.out, Below.refl _ _⟩
        case round =>
          obtain ⟨j, m, oj, bm, hj, rfl, hmj, rfl, rfl, rfl, hoj, HBM, HOJ, HM1, HM2, HBr, HBs⟩ := hrel
          by_cases hlt : j < n
          · have hj2 : j < ls.length := by rw [← HN.out]; exact hlt
            obtain ⟨ad, a, cv, rfl, _, hp16, q0, q1, hvc, hvm, hvb⟩ := (HP.out.below HBr.out) j _ (List.getElem?_eq_getElem hj2)
            have hst := offs_step hj2
            rw [← HOJ.out] at hst
            have hpl := val_le_size ls ls[j] (List.getElem_mem _)
            have hend : offs ls (j + 1) ≤ nb := by rw [HNB.out, ← offs_end]; exact offs_mono ls (by omega)
            have hmo : offs ls m ≤ oj := by rw [HOJ.out]; exact offs_mono ls hmj
            obtain ⟨p, hp⟩ : ∃ p, p = ls[j] := ⟨_, rfl⟩
            rw [← hp] at hp16 q0 q1 hvc hvb hst hpl
            obtain ⟨nv, hnv⟩ : ∃ nv, nv = p.2.length := ⟨_, rfl⟩
            rw [← hnv] at q1 hvc hst hpl
            obtain ⟨kd, hkd⟩ : ∃ kd, kd = p.1 := ⟨_, rfl⟩
            rw [← hkd] at q0
            have hnv2 : nv ≤ 20000 := by have := HSL.out; omega
            have HST := Lib.hid hst
            have HEN := Lib.hid hend
            have HMO := Lib.hid hmo
            have HBr2 : Hid (Below w.heap.size w (wr.alloc (.cells #[.int .u16 (kd : Int), .slice a nv cv] 42))) := HBr.out.alloc HBr.out.size _
            have HBs2 : Hid (Below W3.heap.size W3 (wr.alloc (.cells #[.int .u16 (kd : Int), .slice a nv cv] 42))) := HBs.out.alloc HBs.out.size _
            clear hp hnv hkd hst hend hpl hvb hmo HBr HBs
            go_upto_region 15 with (fail)
            obtain ⟨e1, he1⟩ : ∃ e1 : Nat, e1 = oj + (4 + (nv + 3) / 4 * 4) := ⟨_, rfl⟩
            have hei : (oj : Int) + (4 + ((nv : Int) + 3) / 4 * 4) = (e1 : Int) := by omega
            have HE1 : Hid (e1 = offs ls (j + 1)) := by rw [he1]; exact HST.out.symm
            have he40 : e1 ≤ nb := by rw [HE1.out]; exact HEN.out
            rw [hei]
            clear hei
            by_cases hc1 : e1 = k
            · have g1 : ((e1 : Int) == (k : Int)) = true := by simp; omega
              have g2 : (e1 : Int) ≤ (k : Int) := by omega
              clear he1
              go_wp2_with fail
              go_roundw
              case rel => exact ⟨j + 1, j + 1, e1, true, by omega, by go_num, by omega, rfl, rfl, by go_num, he40, (decide_eq_true (by rw [← HE1.out]; exact hc1)).symm, HE1, by rw [← HE1.out]; exact Nat.le_of_eq hc1, fun h => absurd h (by omega), HBr2, HBs2⟩
              case measure => simp [intOf]; omega
            · have g1 : ((e1 : Int) == (k : Int)) = false := by simp; omega
              by_cases hc2 : e1 < k
              · have g2 : (e1 : Int) ≤ (k : Int) := by omega
                have HF : Hid (bm = decide (offs ls (j + 1) = k)) := by
                  have h1 := HMO.out
                  rw [HBM.out, decide_eq_false (show ¬ offs ls m = k by omega)]
                  exact (decide_eq_false (by rw [← HE1.out]; exact hc1)).symm
                clear he1
                go_wp2_with fail
                go_roundw
                case rel => exact ⟨j + 1, j + 1, e1, bm, by omega, by go_num, by omega, rfl, rfl, by go_num, he40, HF, HE1, by rw [← HE1.out]; exact Nat.le_of_lt hc2, fun h => absurd h (by omega), HBr2, HBs2⟩
                case measure => simp [intOf]; omega
              · have g2 : ¬ (e1 : Int) ≤ (k : Int) := by omega
                clear he1
                go_wp2_with fail
                go_roundw
                case rel =>
                  refine ⟨j + 1, m, e1, bm, by omega, by go_num, by omega, rfl, rfl, rfl, he40, HBM, HE1, HM1, fun h => ?_, HBr2, HBs2⟩
                  rcases Nat.lt_or_ge m j with h1 | h1
                  · exact HM2.out h1
                  · have : m = j := by omega
                    rw [this, ← HE1.out]
                    omega
                case measure => simp [intOf]; omega
          · obtain rfl : j = n := by omega
            have HGC : Hid (getL ((encL ls).take k) = if offs ls m = k then .ok (ls.take m) else .error 40) := get_cut HOK.out (by rw [← HN.out]; exact hmj) HM1.out (by rw [← HNB.out]; exact hkb) (fun h => HM2.out (by rw [HN.out]; exact h))
            have f1 : (0 : Int) ≤ (k : Int) := by omega
            have f2 : (k : Int) ≤ (c3 : Int) := by omega
            have f3 : (m : Int) ≤ (c0 : Int) := by omega
            have f4 : (0 : Int) ≤ (m : Int) := by omega
            go_wp2_with fail
            refine (get_c A3 ((encL ls).take k) k c3 wr (by rw [List.length_take, ← HNB.out]; omega) (by omega) h3b (by omega) (((HY3.out.take_ k).below HBs.out).more HBs.out.size)).mono ?_
            rintro e W5 ⟨hd, hb5⟩
            have HB5 := Lib.hid (HBr.out.trans (hb5.mono HBr.out.size))
            unfold GetDone at hd
            rw [HGC.out] at hd
            rcases bm with _ | _
            · have hmk : ¬ offs ls m = k := of_decide_eq_false HBM.out.symm
              rw [if_neg hmk] at hd
              rcases hd with ⟨_, _, h, _⟩ | ⟨kk, A5, c5, h, rfl, _⟩
              · cases h
              · injection h with h
                subst h
                clear hb5
                go_wp2_with fail
                go_ret
                exact ⟨rfl, HB5.out⟩
            · have hmk : offs ls m = k := of_decide_eq_true HBM.out.symm
              rw [if_pos hmk] at hd
              rcases hd with ⟨v5, ls5, h, rfl, ho5⟩ | ⟨_, _, _, h, _⟩
              · injection h with h
                subst h
                obtain ⟨A5, c5, rfl, h5a, h5b⟩ := ho5.slice
                have hlm : (ls.take m).length = m := by rw [List.length_take, ← HN.out]; omega
                rw [hlm] at ho5 h5a ⊢
                have HP5 := Lib.hid ho5.ps
                have HLM := Lib.hid hlm
                have HPT : Hid (Ps W5 w.heap.size A0 (ls.take m)) := fun i q hq => by
                  have hi : i < m := by have := (List.getElem?_eq_some_iff.1 hq).1; omega
                  exact (HP.out.below HB5.out) i q (by rw [List.getElem?_take, if_pos hi] at hq; exact hq)
                clear hb5 ho5 hlm hmk
                go_wp2_with fail
                refine (same_any A5 A0 (ls.take m) (ls.take m) m m c5 c0 W5.heap.size w.heap.size W5 HLM.out.symm HLM.out.symm h5a (by omega) h5b hm HP5.out HPT.out).mono ?_
                rintro e W6 ⟨he, mm, rfl⟩
                obtain rfl : e = .returned (.bool true) := by rw [he]; simp
                go_wp2_with fail
                go_ret
                exact ⟨rfl, below_drewN HB5.out _⟩
              · cases h
      · go_wp2_with fail
        go_ret
        exact ⟨rfl, HB3.out⟩

/-! ### The row's step -/
set_option maxRecDepth 100000 in
theorem lifted (os : Os) (started : os.Started) (H : Type) (enc : TypeId × Value → H) :
    ReturnsInHanded {} Try.checked os 7 .any (Rows.paramCutsSpec.pre6 enc Try.prog Try.f7 Rows.paramCutsRow.domain false) (Rows.paramCutsSpec.post enc Try.prog Try.f7 false true false false) := by
  refine returnsInHanded_of_change (C := Try.checked) own started (by kernel_rfl) Try.func7
    (ChangeSpec.witness6 (enc := enc) (C := Try.checked) false ⟨#[], #[.slice none 0 0, .int .i64 0], []⟩ 8 (by kernel_rfl) (by kernel_rfl) (by kernel_rfl) (by kernel_rfl)) ?_
  intro W base args ds gs before hval0 hW hcnd _
  have hval : ∀ (j : Nat) t v, Try.f7.params[j]? = some t → args[j]? = some v → Value.okWide Try.prog W .any base t v := hval0
  have hW' := hW
  obtain ⟨p, q, hA0, hV, rfl, hfz, hnd⟩ := hW
  have hA : DataW.TrodAll enc Try.prog W 0 (fun _ => true) true Try.f7.params.toList args.toList ds p := hA0
  rw [Try.params7] at hA hval
  obtain ⟨v0, vs0, d0, ds0, p0, q0, hargs, rfl, rfl, h0, r0⟩ := trodAll_cons hA
  obtain ⟨v1, vs1, d1, ds1, p1, q1, rfl, rfl, rfl, h1, r1⟩ := trodAll_cons r0
  obtain ⟨rfl, rfl, rfl⟩ := trodAll_nil r1
  obtain rfl : args = #[v0, v1] := by cases args; simp_all
  obtain ⟨rfl, rfl⟩ := trodVars_none hV
  have lt0 : ∀ x ∈ p0, x.block < W.heap.size := by obtain ⟨m, hm⟩ := h0; exact DataW.trod_lt m _ _ _ hm
  obtain ⟨a1, rfl, rfl, rfl, w1⟩ := open_int Try.underlying3 (hval 1 3 v1 rfl rfl) h1
  clear hA0 hval0
  refine (walk v0 d0 p0 a1 W (hval 0 22 v0 rfl rfl) h0 w1).mono fun e W' ⟨he, bel⟩ => ?_
  subst he
  exact ⟨_, rfl, _, _, _, [], _, [], hW', trodAll_mk1 (shut_bool Try.underlying4 _), (trodAll_cons_mk (Below.trod laidOut (by kernel_rfl) (of_decide_eq_true (by kernel_rfl)) h0 bel lt0) (trodAll_cons_mk (shut_int Try.underlying3 w1) trodAll_mk0)), rfl, bel.frame _, fun h => by cases h⟩

theorem over : Rows.paramCutsRow.holds Try.pinned (OpenSpec.ofChange Rows.paramCutsSpec) :=
  OpenClaim.holds_of_wide 7 Try.f7 rfl rfl rfl rfl rfl rfl rfl ⟨rfl, rfl, rfl, rfl, rfl⟩ rfl rfl rfl rfl rfl (by kernel_rfl) Try.func7 (by kernel_rfl)
    (of_decide_eq_true (by kernel_rfl)) (by unfold Func.isWrapper; first | (rw [if_pos (by decide +kernel)]; kernel_rfl) | (rw [if_neg (by decide +kernel)]; exact ⟨rfl, rfl⟩))
    (fun os started H enc _ => lifted os started H enc)

theorem proved : Rows.ParamCutsSaid := over
#print axioms proved
end Go.Proofs.Ytanjlagaipkfmaa.paramCuts
