/-
  Of the texts SchedNumbersWalk: what the laws reach.
-/
import Derived.Test.YtkjlmibjpfmfnaaRows
import Derived.Test.YtkjlmibjpfmfnaaSA5
import Derived.WalkKit
import Derived.ProofKit
import Derived.OpenShut
import Derived.ShutString
import Derived.ChangeOld
import Derived.Below

namespace Go.Proofs.Ytkjlmibjpfmfnaa.schedNumbers
open Go.ChangeShapes Go.WideShapes Go.ChangeAt Go.RowKit
open Go.ChangeMaps (open_string shut_string)
set_option linter.unusedVariables false
set_option linter.unusedSimpArgs false
theorem own : ownKnob Try.prog.godebug = none := by kernel_rfl
theorem laidOut : laidOutB Try.prog = true := by kernel_rfl
open Words Sc Oct Par Chk
theorem bools_of {w : World} {A : Option Addr} {n : Nat} (h : ∀ i, i < n → ∃ a cs', A = some a ∧ cs'.length = Sh.bool.size ∧ (∀ j u, cs'[j]? = some u → w.cell? (a.add (i * Sh.bool.size + j)) = some u) ∧ Sees w .bool cs') :
    ∃ th : Nat → Bool, ∀ i, i < n → ∃ a, A = some a ∧ w.cell? (a.add i) = some (.bool (th i)) := by
  have h' : ∀ i, i < n → ∃ b, ∃ a, A = some a ∧ w.cell? (a.add i) = some (.bool b) := fun i hi => by
    obtain ⟨a, cs', hA, _, hc, b, rfl⟩ := h i hi
    have := hc 0 _ rfl
    rw [show i * Sh.bool.size + 0 = i from Nat.mul_one i] at this
    exact ⟨b, a, hA, this⟩
  refine ⟨fun i => if hi : i < n then Classical.choose (h' i hi) else false, fun i hi => ?_⟩
  have e : (if hi : i < n then Classical.choose (h' i hi) else false) = Classical.choose (h' i hi) := dif_pos hi
  show ∃ a, A = some a ∧ w.cell? (a.add i) = some (.bool (if hi : i < n then Classical.choose (h' i hi) else false))
  rw [e]
  exact Classical.choose_spec (h' i hi)
set_option maxHeartbeats 8000000 in
set_option maxRecDepth 100000 in
theorem walk {R : Sc.Mem} (I : Sc.ScI R) {H : Type} {enc : TypeId × Value → H} {base : Nat} (v0 : Value) (d0 : DataW H) (p0 : List MemPlace) (a1 : Int) (w : World) (o0 : Value.okWide Try.prog w .any base 80 v0) (k0 : DataW.Trod enc Try.prog w 0 (fun _ => true) true 80 v0 d0 p0) (w1 : (Lit.int .i64 a1).wf = true) :
    Calls Try.prog 7 #[v0, .int .i64 a1] w fun e w' => e = .returned (.bool true) ∧ Below w.heap.size w w' := by
  obtain ⟨A1, nt, ct, rfl⟩ := okWide_slice Try.underlying80 o0
  have hsee : Sees w (.slice .bool) [.slice A1 nt ct] := sees_of (sh := .slice .bool) rfl (by kernel_rfl) k0
  obtain ⟨A1', nt', ct', he, hct, hct63, hel⟩ := Sees.elems hsee
  injection he with e1 e2 e3
  subst e1 e2 e3
  obtain ⟨th, hth⟩ := bools_of hel
  have HTH : Hid (∀ {V : World}, Below w.heap.size w V → ∀ i, i < nt → ∃ a, A1 = some a ∧ V.cell? (a.add i) = some (.bool (th i))) := fun {V} hb i hi => by
    obtain ⟨a, h1, h2⟩ := hth i hi
    exact ⟨a, h1, (hb.cell (World.block_lt_of_cell? w _ h2)).trans h2⟩
  have hnt : nt ≤ 9223372036854775807 := by omega
  clear hth hel hsee o0 k0 hct hct63
  obtain ⟨k, hk, hk60⟩ := u64rem a1 60 (by omega) (by omega)
  have kc := fun (w : World) (C : Array Value) (n c : Nat) => Lib.run_convert_bytes_const (P := Try.prog) w 36 5 C n c Try.underlying36 Try.underlying5
  go_enter Try.func7, Try.ntmps7
  go_wp2_with fail
  refine (first_s I w).mono ?_
  rintro e W2 ⟨rfl, hb2⟩
  have HB2 := Lib.hid hb2
  clear hb2
  go_wp2_with fail
  refine (SV.new I (S := fun _ => False) W2 W2 (Below.refl _ _) (fun i h => h.elim) true).mono ?_
  rintro e W3 ⟨p, rfl, H3, -⟩
  go_upto_region 7 with (fail)
  obtain ⟨n, hn⟩ : ∃ n, n = min nt 60 := ⟨_, rfl⟩
  have hni : (if (60 : Int) < (nt : Int) then (60 : Int) else (nt : Int)) = (n : Int) := by split <;> omega
  have hn60 : n ≤ 60 := by omega
  have hnnt : n ≤ nt := by omega
  rw [hni, hk]
  clear hni hn hk
  obtain ⟨W4, hW⟩ : ∃ W4, W4 = W3.alloc (.cells #[.int .u32 0, .int .u32 0] 81) := ⟨_, rfl⟩
  obtain ⟨gn, hg⟩ : ∃ gn, gn = W3.heap.size := ⟨_, rfl⟩
  have HN : Hid (NuS R W2 p gn 0 0 0 W4) := by
    have hb := Go.Proofs.Ytkjlmibjpfmfnaa.Fl.below_one W3 (.cells #[.int .u32 0, .int .u32 0] 81)
    rw [← hW] at hb
    have hB : Blk W4 gn 81 (nuA 0 0) := by rw [hW, hg]; exact Blk.new _ _ _
    exact ⟨by omega, by omega, ⟨_, H3.out.more I hb (fun i e => .inr ⟨by omega, by rw [e]; exact hB.lt⟩), nu_new⟩, hB⟩
  have HGN : Hid (W2.heap.size ≤ gn) := by rw [hg]; exact H3.out.bel.size
  rw [← hW, ← hg]
  clear hW hg H3
  go_upto_region 8 with (fail)
  obtain ⟨wo, rfl⟩ : ∃ wo : World, wo = W4 := ⟨_, rfl⟩
  go_loopw [26] (fun v26 wr => ∃ (i a b : Nat), v26 = .int .i64 (i : Int) ∧ i ≤ n ∧ Hid (NuS R W2 p gn (2 * i) a b wr)) (fun v26 _ => n - (intOf v26).toNat)
  case atStart => exact ⟨0, 0, 0, rfl, Nat.zero_le _, HN⟩
  case round =>
    clear HN
    obtain ⟨i, a, b, rfl, hi, H⟩ := hrel
    by_cases hil : i < n
    · obtain ⟨ad, rfl, cb⟩ := HTH.out (HB2.out.trans (H.out.bel.mono HB2.out.size)) i (by omega)
      go_upto_if 31 with (fail)
      go_cut [9, 31] from 32 to 35 (fun v9 _ wx => v9 = .int .i64 (i : Int) ∧ ∃ a b : Nat, Hid (NuS R W2 p gn (2 * i) a b wx))
      case first =>
        by_cases hik : (i : Int) = (k : Int)
        · have hik' : i = k := by omega
          subst hik'
          clear hik
          go_wp2_with fail
          refine (H.out.reset I _ _ _ rfl).mono ?_
          rintro e W5 ⟨rfl, H5, H6⟩
          go_wp2_with (refine wpList_store_row rfl 81 _ _ rfl _ (nuA 0 0) rfl rfl 81 (nuA a b) H6.out arr_info rfl (arr_one 0 0) ?_)
          go_meet
          exact ⟨rfl, 0, 0, NuS.zero I H5.out H6.out HGN.out⟩
        · go_wp2_with fail
          go_meet
          exact ⟨rfl, a, b, H⟩
      case rest =>
        obtain ⟨rfl, a', b', H⟩ := hcut
        clear cb
        obtain ⟨ad', e, cb⟩ := HTH.out (HB2.out.trans (H.out.bel.mono HB2.out.size)) i (by omega)
        injection e with e
        subst e
        go_wp2_with fail
        refine (H.out.push I (id := (i : Int)) (lo := th i) (by omega) (by omega) _ 5 _ rfl).mono ?_
        rintro e W6 ⟨rfl, H6⟩
        clear H cb
        go_wp2_with fail
        refine (H6.out.next I (by omega)).mono ?_
        rintro e W7 ⟨cs, lk, ln, rfl, HS, HKO, H7⟩
        clear H6
        go_upto_region 16 with (first
          | (with_reducible refine Go.Proofs.Ytkjlmibjpfmfnaa.Fl.wpList_alloc_run _ rfl 51 rfl (Go.Proofs.Ytkjlmibjpfmfnaa.Fl.alloc_zk _) ?_)
          | (refine wpList_store_row rfl 51 _ _ rfl _ cs rfl rfl 51 Go.Proofs.Ytkjlmibjpfmfnaa.Fl.zkA (blk_ck _) HS.out.1 HS.out.2 HKO.out ?_)
          | (refine wpList_store_row rfl 34 _ _ rfl _ (limA _ _) rfl rfl 34 limZ (blk_lim _ _) (lim_info _ _) rfl (lim_one _ _) ?_))
        obtain ⟨W8, hW⟩ : ∃ W8, W8 = VarsW W7 cs (limA lk ln) := ⟨_, rfl⟩
        obtain ⟨gk, hg⟩ : ∃ gk, gk = W7.heap.size := ⟨_, rfl⟩
        have H8 : Hid (NuC R W2 p gn (2 * i) a' b' gk (th i) W8) := by rw [hW, hg]; exact H7.out _
        unfold VarsW at hW
        rw [← hW, ← hg]
        clear hW hg H7 HS HKO
        obtain ⟨_, e, cb⟩ := HTH.out (HB2.out.trans (H8.out.bel.mono HB2.out.size)) i (by omega)
        injection e with e
        subst e
        obtain ⟨ha, hb, -, hB, x1, x2, x3, x7, -⟩ := H8.out
        have y0 : W8.cell? ⟨gn, 0, none⟩ = some (.int .u32 (a' : Int)) := hB.cell 0
        have y1 : W8.cell? ⟨gn, 1, none⟩ = some (.int .u32 (b' : Int)) := hB.cell 1
        clear hB
        cases hti : th i
        · rw [hti] at cb x3 x7 H8
          have x7' : W8.cell? ⟨gk, 7, none⟩ = some (.int .u32 (a' : Int)) := x7
          clear x7
          go_upto_region 19 with (fail)
          go_quiet (fail)
          have H9 := Lib.hid (H8.out.drewN I HGN.out nq)
          obtain ⟨W9, hW9⟩ : ∃ W9, W9 = W8.drewN nq := ⟨_, rfl⟩
          rw [← hW9] at H9 ⊢
          have z0 : W9.cell? ⟨gn, 0, none⟩ = some (.int .u32 (a' : Int)) := by rw [hW9]; exact y0
          have zf : W9.frozen? ⟨gn, 0, none⟩ = false := Blk.frozen H9.out.2.2.2.1 0
          clear hW9 H8 y0 y1 x1 x2 x3 x7' cb
          go_wp2_with fail
          go_roundw
          case rel => exact ⟨i + 1, _, _, by go_num, by omega, H9.out.done I HGN.out _ (by simp) 0 rfl⟩
          case measure => simp [intOf]; omega
        · rw [hti] at cb x3 x7 H8
          have x7' : W8.cell? ⟨gk, 7, none⟩ = some (.int .u32 (b' : Int)) := x7
          clear x7
          go_upto_region 19 with (fail)
          go_quiet (fail)
          have H9 := Lib.hid (H8.out.drewN I HGN.out nq)
          obtain ⟨W9, hW9⟩ : ∃ W9, W9 = W8.drewN nq := ⟨_, rfl⟩
          rw [← hW9] at H9 ⊢
          have z1 : W9.cell? ⟨gn, 1, none⟩ = some (.int .u32 (b' : Int)) := by rw [hW9]; exact y1
          have zf : W9.frozen? ⟨gn, 1, none⟩ = false := Blk.frozen H9.out.2.2.2.1 1
          clear hW9 H8 y0 y1 x1 x2 x3 x7' cb
          go_wp2_with fail
          go_roundw
          case rel => exact ⟨i + 1, _, _, by go_num, by omega, H9.out.done I HGN.out _ (by simp) 1 rfl⟩
          case measure => simp [intOf]; omega
    · have hie : i = n := by omega
      subst hie
      go_wp2_with fail
      refine (H.out.all I).mono ?_
      rintro e W9 ⟨rfl, rfl⟩
      go_wp2_with fail
      refine (H.out.bytes I).mono ?_
      rintro e W9 ⟨rfl, rfl⟩
      go_wp2_with fail
      go_ret
      exact ⟨rfl, HB2.out.trans (H.out.bel.mono HB2.out.size)⟩
end Go.Proofs.Ytkjlmibjpfmfnaa.schedNumbers
