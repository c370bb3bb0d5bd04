/-
  Of the texts IntakeTwiceWalk: what the laws reach.
-/
import Derived.Test.YtioddokjogbmnaaRows
import Derived.Test.YtioddokjogbmnaaP16
import Derived.WalkKit
import Derived.ProofKit
import Derived.OpenShut
import Derived.ShutString
import Derived.ChangeOld
import Derived.Below

namespace Go.Proofs.Ytioddokjogbmnaa.intakeTwice
open Go.ChangeShapes Go.WideShapes Go.ChangeAt Go.RowKit
open Go.ChangeMaps (open_string shut_string)
set_option linter.unusedVariables false
set_option linter.unusedSimpArgs false
theorem own : ownKnob Try.prog.godebug = none := by kernel_rfl
theorem laidOut : laidOutB Try.prog = true := by kernel_rfl
/-- What the walk is told of a slice of integers that came in. -/
def IsRow (k : IntKind) (w : World) (a : Option Addr) (len cap : Nat) (zs : List Int) : Prop :=
  (a = none ∧ len = 0 ∧ cap = 0 ∧ zs = []) ∨
  ∃ x, a = some x ∧ len ≤ cap ∧ cap ≤ maxLen ∧ zs.length = cap ∧ (∀ i, i < zs.length → w.cell? (x.add i) = some (.int k (zs.getD i 0))) ∧ ∀ n ∈ zs, (Lit.int k n).wf = true
open Words Oct Par Chk In
theorem nat_u8 {x : Int} (h : (Lit.int .u8 x).wf = true) : ∃ n : Nat, x = n ∧ n ≤ 255 := by
  have := bounds_u8 h
  exact ⟨x.toNat, by omega, by omega⟩
set_option maxHeartbeats 1600000 in
set_option maxRecDepth 100000 in
theorem walk {R : World → (Nat → Prop) → Nat → Bool → In.IS → Prop} (I : In.InI R) (a0 : Int) (a1 : Option Addr) (len1 cap1 : Nat) (z1 : List Int) (w : World) (w0 : (Lit.int .u32 a0).wf = true) (w1 : IsRow .u8 w a1 len1 cap1 z1) :
    Calls Try.prog 11 #[.int .u32 a0, .slice a1 len1 cap1] w fun e w' => e = .returned (.bool true) ∧ Below w.heap.size w w' := by
  have hw0 := bounds_u32 w0
  have keep : ∀ {V : World}, Below w.heap.size w V → ∀ {p : Addr} {u : Value}, w.cell? p = some u → V.cell? p = some u := fun {V} hb {p u} h => (hb.cell (World.block_lt_of_cell? w _ h)).trans h
  have HZ : Hid (∀ {V : World}, Below w.heap.size w V → ∀ i, i < len1 → ∃ (a : Addr) (d : Nat), a1 = some a ∧ V.cell? (a.add i) = some (.int .u8 (d : Int)) ∧ d ≤ 255) := fun {V} hb i hi => by
    rcases w1 with ⟨_, h2, _⟩ | ⟨y, h1, h2, h3, h4, h5, h6⟩
    · omega
    · have hl : i < z1.length := by omega
      obtain ⟨d, hd, hd2⟩ := nat_u8 (h6 (z1.getD i 0) (by
        rw [List.getD_eq_getElem?_getD, List.getElem?_eq_getElem hl]
        exact List.getElem_mem hl))
      exact ⟨y, d, h1, by rw [← hd]; exact keep hb (h5 i hl), hd2⟩
  have hlen : len1 ≤ 9223372036854775807 := by
    rcases w1 with ⟨_, h2, _⟩ | ⟨y, h1, h2, h3, _⟩
    · omega
    · unfold maxLen at h3; omega
  have HM := Lib.hid hw0
  have kc := fun (w : World) (C : Array Value) (n c : Nat) => Lib.run_convert_bytes_const (P := Try.prog) w 39 5 C n c Try.underlying39 Try.underlying5
  clear w1 keep w0
  go_enter Try.func11, Try.ntmps11
  go_wp2_with fail
  refine (first_i I w).mono ?_
  rintro e W2 ⟨rfl, hb2⟩
  have HB2 := Lib.hid hb2
  clear hb2
  go_wp2_with fail
  refine (I.new W2 a0 false HM.out).mono ?_
  rintro e W3 ⟨G0, p, rfl, hr, hg, hb3⟩
  have HT3 := Lib.hid (Tw.new I HM.out ⟨hr, hg, hb3⟩)
  clear hr hg hb3
  go_upto_region 5 with (with_reducible refine wpList_alloc_run _ rfl 70 rfl (alloc_had _) ?_)
  obtain ⟨W4, hW4⟩ : ∃ W4, W4 = W3.alloc (.cells (hadA fun _ => false) 70) := ⟨_, rfl⟩
  obtain ⟨gh, hgh⟩ : ∃ gh, gh = W3.heap.size := ⟨_, rfl⟩
  simp only [Act.put, List.setIfInBounds_toArray, List.set_cons_zero, List.set_cons_succ]
  rw [← hW4, ← hgh] at HT3 ⊢
  clear hW4 hgh
  have c0 := HT3.out.cell (d := 0) (by omega)
  have z0 := HT3.out.had.frozen 0
  have HT4 := Lib.hid (HT3.out.mark I (d := 0) (by omega))
  go_upto_region 6 with (fail)
  obtain ⟨W5, hW5⟩ : ∃ W5, W5 = W4.setCell ⟨gh, 0, none⟩ (.bool true) := ⟨_, rfl⟩
  rw [← hW5] at HT4 ⊢
  rw [one_K0] at HT4
  clear hW5 c0 z0 HT3
  go_cut [7] from 7 to 7 (fun v7 wx => v7 = .slice none 0 0 ∧ W5 = wx)
  case first =>
    go_wp2_with fail
    go_meet
    exact ⟨rfl, rfl⟩
  case rest =>
    obtain ⟨rfl, rfl⟩ := hcut
    go_step
    go_step
    go_cut [7] from 8 to 63 (fun v7 wx => ∃ (i n c : Nat) (A : Option Addr) (K : Nat → Bool) (l : List Int), v7 = .slice A n c ∧ Hid (n = l.length) ∧ n ≤ 16 ∧ Hid (Tw R W2 a0 p gh (.slice A n c) K K l l i wx))
    case first =>
      go_wp2_with fail
      obtain ⟨wo, rfl⟩ : ∃ wo : World, wo = W5 := ⟨_, rfl⟩
      go_loopw [7, 20] (fun v7 v20 wr => ∃ (i n c : Nat) (A : Option Addr) (K : Nat → Bool) (l : List Int), v7 = .slice A n c ∧ v20 = .int .i64 (i : Int) ∧ i ≤ len1 ∧ i ≤ 80 ∧ n ≤ 16 ∧ n ≤ c ∧ c ≤ 9223372036854775807 ∧ Hid (n = l.length) ∧ Hid (Tw R W2 a0 p gh (.slice A n c) K K l l i wr)) (fun _ v20 _ => len1 - (intOf v20).toNat)
      case atStart => exact ⟨0, 0, 0, none, K0, [], rfl, rfl, by omega, by omega, by omega, by omega, by omega, rfl, HT4⟩
      case round =>
        clear HT4
        obtain ⟨i, n, c, A, K, l, rfl, rfl, hi, hi8, hn, hnc, hc, HNL, HT⟩ := hrel
        by_cases hlt : i < len1
        · obtain ⟨a, d, rfl, cz, hd⟩ := HZ.out (HB2.out.trans (HT.out.bel.mono HB2.out.size)) i hlt
          by_cases h80 : i < 80
          · obtain ⟨e1, e2⟩ := adr_nat a0 d
            have hadr : (a0 + (d : Int)) % 4294967296 = (((Span.adr a0 d).toNat : Nat) : Int) := by rw [e1]; rfl
            obtain ⟨tn, htn⟩ : ∃ tn, tn = (Span.adr a0 d).toNat := ⟨_, rfl⟩
            have htn2 : (tn : Int) = Span.adr a0 d := by rw [htn]; exact e1
            rw [← htn] at hadr e2
            have HPUT := Lib.hid (HT.out.put I HM.out (d := d) (b := 120) (cs := #[.int .u8 120]) (tt := 5) (fr := (1, 2)) (by omega) hd (by simp [u8s]))
            rw [← htn] at HPUT
            have HTN := Lib.hid htn2
            have HADR := Lib.hid hadr
            clear e1 htn htn2
            go_wp2_with (refine wpList_build_6 rfl 41 rfl (.int .u8 0) (.int .u32 ((a0 + (d : Int)) % 4294967296)) (.bool true) (.bool true) (.bool true) (.slice (some ⟨wr.heap.size, 0, none⟩) 1 1) rfl rfl rfl rfl rfl rfl _ (built_6 0 tn 120 _ HADR.out) ?_)
            refine HPUT.out.mono ?_
            rintro e W4 (⟨rfl, HK1, H4⟩ | ⟨rfl, HK0, H4⟩)
            · have c6 := H4.out.cell hd
              rw [HK1.out] at c6
              have hz6 := H4.out.had.frozen d
              clear HPUT
              by_cases h16 : n < 16
              · go_upto_region 15 with (fail)
                have H5 : Hid (Tw R W2 a0 p gh (.slice A n c) K K (more l (Span.adr a0 d)) l (i + 1) (W4.alloc (.cells #[.int .u32 (tn : Int)] 33))) := H4.out.grows I (below_one _ _)
                have HNN : Hid (n = l.length) := HNL
                have hBs : W2.heap.size ≤ (W4.alloc (.cells #[.int .u32 (tn : Int)] 33)).heap.size := H5.out.bel.size
                obtain ⟨t0, ht0, htz0, htz1, htz2⟩ := info_parts3 u32_infoT
                have HRW : Hid ((W4.alloc (.cells #[.int .u32 (tn : Int)] 33)).ownsRow W2.heap.size 33 1 (.slice A n c) n (dupV l)) := by
                  have := H5.out.row
                  rw [← HNN.out] at this
                  exact this
                go_wp2_with (at_builtin; refine wpList_append_any _ rfl (.tmp 54) (.tmp 59) _ rfl W2.heap.size 33 t0 _ 1 4 Try.underlying36 ht0 htz0 htz1 htz2 rfl (by omega) (.slice A n c) n _ rfl HRW.out (W4.heap.size + 1) (some ⟨W4.heap.size, 0, none⟩) 1 1 [.int .u32 (tn : Int)] rfl (blk_reads (Blk.new W4 33 #[.int .u32 (tn : Int)]) rfl) (by simp [Value.oneCell']) (by simp only [maxLen]; omega) (by omega) hBs ?_; intro v7 w7 hown7 hg7 hat7; have H7 := Lib.hid (H5.out.app I (by rw [← HNN.out]; exact hown7) hg7 hat7); obtain ⟨A7, c7, rfl, h7a, h7b⟩ := own_slice hown7; have c7h := H7.out.cell hd; rw [HK1.out] at c7h; have z7 := H7.out.had.frozen d; clear hown7 hg7 hat7 c6 hz6)
                have hml : more l (Span.adr a0 d) = l ++ [(tn : Int)] := by
                  unfold more
                  rw [if_pos (by have : n = l.length := HNL; omega), HTN.out]
                rw [hml] at H7
                have H8 := Lib.hid (H7.out.mark I hd)
                have h1s : In.one K d = K := one_self HK1.out
                rw [h1s] at H8
                have HN8 : Hid (n + 1 = (l ++ [(tn : Int)]).length) := by
                  have : n = l.length := HNL
                  show _ = _
                  simp; omega
                clear hml h1s
                go_upto_region 17 with (fail)
                obtain ⟨W8, hW8⟩ : ∃ W8, W8 = w7.setCell ⟨gh, d, none⟩ (.bool true) := ⟨_, rfl⟩
                rw [← hW8] at H8 ⊢
                clear hW8 c7h z7 H4 H5 H7
                go_wp2_with fail
                go_roundw
                case rel => exact ⟨i + 1, n + 1, c7, A7, _, _, rfl, by go_num, by omega, by omega, by omega, by omega, h7b, HN8, H8⟩
                case measure => simp [intOf]; omega
              · have hml : more l (Span.adr a0 d) = l := by
                  unfold more
                  rw [if_neg (by have : n = l.length := HNL; omega)]
                rw [hml] at H4
                have H5 := Lib.hid (H4.out.mark I hd)
                have h1s : In.one K d = K := one_self HK1.out
                rw [h1s] at H5
                clear hml h1s
                go_upto_region 17 with (fail)
                obtain ⟨W5, hW5⟩ : ∃ W5, W5 = W4.setCell ⟨gh, d, none⟩ (.bool true) := ⟨_, rfl⟩
                rw [← hW5] at H5 ⊢
                clear hW5 c6 hz6 H4
                go_wp2_with fail
                go_roundw
                case rel => exact ⟨i + 1, n, c, A, _, l, rfl, by go_num, by omega, by omega, hn, hnc, hc, HNL, H5⟩
                case measure => simp [intOf]; omega
            · have c6 := H4.out.cell hd
              rw [HK0.out] at c6
              have hz6 := H4.out.had.frozen d
              have H5 := Lib.hid (H4.out.mark I hd)
              clear HPUT
              go_upto_region 17 with (fail)
              obtain ⟨W5, hW5⟩ : ∃ W5, W5 = W4.setCell ⟨gh, d, none⟩ (.bool true) := ⟨_, rfl⟩
              rw [← hW5] at H5 ⊢
              clear hW5 c6 hz6 H4
              go_wp2_with fail
              go_roundw
              case rel => exact ⟨i + 1, n, c, A, _, l, rfl, by go_num, by omega, by omega, hn, hnc, hc, HNL, H5⟩
              case measure => simp [intOf]; omega
          · go_wp2_with fail
            go_meet
            exact ⟨i, n, c, A, K, l, rfl, HNL, hn, HT⟩
        · go_wp2_with fail
          go_meet
          exact ⟨i, n, c, A, K, l, rfl, HNL, hn, HT⟩
    case rest =>
      obtain ⟨i, n, c, A, K, l, rfl, HNL, hn, HT⟩ := hcut
      obtain ⟨W6, hW6⟩ : ∃ W6, W6 = wc := ⟨_, rfl⟩
      rw [← hW6] at HT ⊢
      clear hW6 HT4
      go_wp2_with fail
      refine (HT.out.sack I).mono ?_
      rintro e W7 ⟨cs, ck, rfl, HAT, HDP, HT7⟩
      have hcs : cs.size = 19 := HAT.out.size
      have HS1 : Hid ((Try.prog.info? 41).map (·.size) = some cs.size) := by rw [hcs]; exact chunk_info
      have HS2 : Hid ((ckArr (zeroC 0) nilV nilV nilV nilV nilV).size = cs.size) := by rw [hcs]; rfl
      go_upto_region 19 with (first
        | (with_reducible refine wpList_alloc_run _ rfl 41 rfl (alloc_zk _) ?_)
        | (refine wpList_store_row rfl 41 _ _ rfl _ cs rfl rfl 41 (ckArr (zeroC 0) nilV nilV nilV nilV nilV) (Blk.new _ _ _) HS1.out HS2.out HAT.out.one ?_))
      simp only [Act.put, List.setIfInBounds_toArray, List.set_cons_zero, List.set_cons_succ]
      obtain ⟨W8, hW8⟩ : ∃ W8, W8 = (W7.alloc (.cells (ckArr (zeroC 0) nilV nilV nilV nilV nilV) 41)).setRow W7.heap.size cs := ⟨_, rfl⟩
      obtain ⟨gs, hgs⟩ : ∃ gs, gs = W7.heap.size := ⟨_, rfl⟩
      have hb8 : Below W7.heap.size W7 W8 := by rw [hW8]; exact below_setRow (below_one W7 _) (Nat.le_refl _) _
      have HK8 : Hid (CkBlk W8 gs cs) := by rw [hW8, hgs]; exact setRow_heap _ _ _ _ _ _ (Blk.new W7 _ _)
      have HT8 := Lib.hid (HT7.out.grows I hb8)
      have HAT8 : Hid (CkAt W8 W8.heap.size cs ck) := (HAT.out.below hb8).more hb8.size
      rw [← hW8, ← hgs]
      clear hW8 hgs hb8 hcs HS1 HS2 HT7 HT HAT
      obtain ⟨g, dh, s0, p0, b0, C, Ls⟩ := HAT8.out.parts
      have hdl : ck.dups.length = n := by
        have e : (ck.dups.map fun d : Nat => (d : Int)).length = l.length := by rw [HDP.out]
        rw [List.length_map] at e
        rw [e]; exact HNL.symm
      have k15 : W8.cell? ⟨gs, 15, none⟩ = some (.slice dh.A n dh.cap) := by rw [HK8.out.cell 15, C.c15, hdl]
      have HRD := Lib.hid Ls.dups
      have hok : n ≤ dh.cap ∧ dh.cap ≤ 9223372036854775807 := by have := Ls.okd; rw [hdl] at this; exact this
      have HDL := Lib.hid hdl
      have HCE : Hid (∀ j, j < n → ∃ (ad : Addr) (gr : Nat) (z : Int), dh.A = some ad ∧ A = some ⟨gr, 0, none⟩ ∧ W8.cell? (ad.add j) = some (.int .u32 z) ∧ W8.cell? ⟨gr, j, none⟩ = some (.int .u32 z)) := fun j hj => by
        obtain ⟨ad, hA, _, hc⟩ := HRD.out.2 (by rw [hdl]; omega)
        have hrow := HT8.out.row
        have hNL : n = l.length := HNL
        rw [← hNL] at hrow
        obtain ⟨gr, cap, hv, _, _⟩ := hrow.form (by omega)
        injection hv with hv1 _ hv2
        subst hv1 hv2
        have hj2 : j < ck.dups.length := by omega
        have hj3 : j < l.length := by omega
        have h1 := hc j (.int .u32 ((ck.dups[j] : Nat) : Int)) (by unfold dupC; rw [List.getElem?_map, List.getElem?_eq_getElem hj2]; rfl)
        have h2 := hrow.cellAt j (by omega)
        have h3 : (dupV l)[j]? = some (.int .u32 l[j]) := by unfold dupV; rw [List.getElem?_map, List.getElem?_eq_getElem hj3]; rfl
        have h4 : ((ck.dups[j] : Nat) : Int) = l[j] := by
          have e : (ck.dups.map fun d : Nat => (d : Int))[j]? = l[j]? := by rw [HDP.out]
          rw [List.getElem?_map, List.getElem?_eq_getElem hj2, List.getElem?_eq_getElem hj3] at e
          injection e
        exact ⟨ad, gr, l[j], hA, rfl, by rw [h1, h4], by rw [h2, h3]⟩
      clear C Ls hdl
      go_wp2_with fail
      obtain ⟨wo, rfl⟩ : ∃ wo : World, wo = W8 := ⟨_, rfl⟩
      go_loopw [74] (fun v74 wr => ∃ (j : Nat), v74 = .int .i64 (j : Int) ∧ j ≤ n ∧ Hid (∃ m, wr = wo.drewN m)) (fun v74 _ => n - (intOf v74).toNat)
      case atStart => exact ⟨0, rfl, by omega, 0, rfl⟩
      case round =>
        obtain ⟨j, rfl, hj, HW⟩ := hrel
        by_cases hlt : j < n
        · obtain ⟨ad, gr, z, hA, rfl, h1, h2⟩ := HCE.out j hlt
          have k15' : wr.cell? ⟨gs, 15, none⟩ = some (.slice (some ad) n dh.cap) := by obtain ⟨m, rfl⟩ := HW.out; rw [← hA]; exact k15
          have h1' : wr.cell? (ad.add j) = some (.int .u32 z) := by obtain ⟨m, rfl⟩ := HW.out; exact h1
          have h2' : wr.cell? ⟨gr, j, none⟩ = some (.int .u32 z) := by obtain ⟨m, rfl⟩ := HW.out; exact h2
          clear h1 h2 k15 hA
          go_upto_region 24 with (fail)
          go_quiet (fail)
          have HW2 : Hid (∃ m, wr.drewN nq = wo.drewN m) := by
            obtain ⟨m, e⟩ := HW.out
            rw [e]
            exact ⟨m + nq, by simp [World.drewN, Nat.add_assoc]⟩
          go_wp2_with fail
          go_roundw
          case rel => exact ⟨j + 1, by go_num, by omega, HW2⟩
          case measure => simp [intOf]; omega
        · have HT9 : Hid (Tw R W2 a0 p gh (.slice A n c) K K [] l i wr) := by
            obtain ⟨m, e⟩ := HW.out
            rw [e]
            exact HT8.out.grows I (below_drewN (Below.refl _ _) m)
          clear k15 HCE HRD HT8
          go_wp2_with fail
          refine (HT9.out.sack I).mono ?_
          rintro e W9 ⟨cs2, c2, rfl, HAT2, HDP2, HT10⟩
          obtain ⟨_, g2, d2, s2, p2, b2, rfl, _⟩ := HAT2.out
          have hd2 : c2.dups.length = 0 := by
            have e : (c2.dups.map fun d : Nat => (d : Int)).length = 0 := by rw [HDP2.out]; rfl
            rwa [List.length_map] at e
          have f15 : ∀ W, (Instr.field 41 (.agg (ckArr c2 (g2.v c2.gaps.length) (d2.v 0) (s2.v c2.skips.length) (p2.v c2.ps.length) (b2.v c2.body.length))) 15).run Try.prog W = .ok (.slice d2.A 0 d2.cap) W := fun _ => by kernel_rfl
          rw [hd2]
          simp only [ckArr, Hd.v] at f15 ⊢
          go_wp2_with fail
          go_ret
          exact ⟨rfl, HB2.out.trans (HT10.out.bel.mono HB2.out.size)⟩
end Go.Proofs.Ytioddokjogbmnaa.intakeTwice
