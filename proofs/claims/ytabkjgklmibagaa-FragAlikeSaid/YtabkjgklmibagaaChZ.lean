/-
  Contracts of package chunk's writer: acknowledgements, and all of it.
-/
import Derived.Test.YtabkjgklmibagaaChY
set_option linter.unusedVariables false
set_option linter.unusedSimpArgs false
namespace Go.Proofs.Ytabkjgklmibagaa.Chk
open Go.ChangeShapes Go.WideShapes Go.ChangeAt Go.RowKit Go.Deep Go.Proofs.Ytabkjgklmibagaa.Words Go.Proofs.Ytabkjgklmibagaa.Oct Go.Proofs.Ytabkjgklmibagaa.Par

/-- What the writer of acknowledgements leaves. -/
def SackDone (w : World) (p B : Nat) (v : Value) (l : List UInt8) (lg : Bool) (c : Ck) (e : Ending) (w' : World) : Prop :=
  ∃ l' lg', WroteE w p B v l' lg' e w' ∧ l'.length ≤ 900000 ∧
    ((lg' = lg ∧ l' = l ++ sackE c ∧ c.gaps.length ≤ 65535 ∧ c.dups.length ≤ 65535) ∨ (lg' = true ∧ (65535 < c.gaps.length ∨ 65535 < c.dups.length)))

set_option maxHeartbeats 4000000 in
set_option maxRecDepth 100000 in
theorem sack_w {w : World} {p B C : Nat} {v : Value} {l : List UInt8} {lg : Bool} {cs : Array Value} {c : Ck} (h : WrE w p B v l lg) (hB : B ≤ w.heap.size) (hl : l.length ≤ 100000) (hc : CkAt w C cs c) (hp : C ≤ p) (hC : C ≤ B) :
    Calls Try.prog 44 #[rptr p, .agg cs] w (SackDone w p B v l lg c) := by
  obtain ⟨g, d, s, pp, b, hcc, hll⟩ := hc.parts
  have ok := hc.ok
  have H0 := Lib.hid h
  have HW1 := Lib.hid (WC.init (cs := cs) h hB)
  have HO := Lib.hid ok
  have e5 := hcc.c5
  have e11 := hcc.c11
  have e14 := hcc.c14
  have e15 := hcc.c15
  have HR := Lib.hid hll.gaps
  have HRD := Lib.hid hll.dups
  have hg1 := hll.okg.1
  have hg2 := hll.okg.2
  have hd1 := hll.okd.1
  have hd2 := hll.okd.2
  obtain ⟨ng, hng⟩ : ∃ n, n = c.gaps.length := ⟨_, rfl⟩
  obtain ⟨nd, hnd⟩ : ∃ n, n = c.dups.length := ⟨_, rfl⟩
  have HNG := Lib.hid hng
  have HND := Lib.hid hnd
  rw [← hng] at e14 HR hg1
  rw [← hnd] at e15 HRD hd1
  have HL := Lib.hid hl
  have HSD : Hid (∀ e w', SackDone w p B v l lg c e w' = ∃ l' lg', WroteE w p B v l' lg' e w' ∧ l'.length ≤ 900000 ∧
    ((lg' = lg ∧ l' = l ++ sackE c ∧ ng ≤ 65535 ∧ nd ≤ 65535) ∨ (lg' = true ∧ (65535 < ng ∨ 65535 < nd)))) := by
    intro e w'
    unfold SackDone
    rw [← hng, ← hnd]
  clear hcc hc h ok hl hll hng hnd
  go_enter Try.func44, Try.ntmps44
  go_upto_region 1 with (fail)
  obtain ⟨W1, hW1⟩ : ∃ W1, W1 = w.alloc (.cells cs 42) := ⟨_, rfl⟩
  rw [← hW1] at HW1 ⊢
  obtain ⟨gc, hgc⟩ : ∃ gc, gc = w.heap.size := ⟨_, rfl⟩
  rw [← hgc] at HW1 ⊢
  clear hW1 hgc
  have fe14 := HW1.out.blk.at e14
  have fe15 := HW1.out.blk.at e15
  have c1 : W1.cell? ⟨p, 1, none⟩ = some (.bool lg) := HW1.out.ws.wr.blk.cell 1
  have f1 := HW1.out.ws.wr.blk.frozen 1
  by_cases hbg : (65535 : Int) < (ng : Int)
  · go_wp2_with fail
    go_end0
    rw [HSD.out]
    exact ⟨_, true, HW1.out.ws.long.done, by have := HL.out; omega, .inr ⟨rfl, .inl (by omega)⟩⟩
  by_cases hbd : (65535 : Int) < (nd : Int)
  · go_wp2_with fail
    go_end0
    rw [HSD.out]
    exact ⟨_, true, HW1.out.ws.long.done, by have := HL.out; omega, .inr ⟨rfl, .inr (by omega)⟩⟩
  have hng6 : ng < 65536 := by omega
  have hnd6 : nd < 65536 := by omega
  go_wp2_with fail
  clear fe14 fe15 c1 f1
  have fe5 := HW1.out.blk.at e5
  go_still_tail 5, (by kernel_rfl)
  change wpList _ _ _ _ _ W1.drew
  obtain ⟨V1, hV⟩ : ∃ V, V = W1.drew := ⟨_, rfl⟩
  have HD1 := Lib.hid HW1.out.drew
  rw [← hV] at HD1 ⊢
  clear hV fe5 HW1
  go_wp2_with fail
  refine (wre_u32 c.tsn HO.out.tsn HD1.out.ws.wr HD1.out.ws.size (by (try simp only [List.length_append, be_length, gapsE_length, dupsE_length, sksE_length, sksW_length, List.length_take]); have := HL.out; omega)).mono ?_
  intro e W2 hd
  obtain ⟨v2, rfl, HW2⟩ := HD1.out.step hd
  clear hd
  go_wp2_with fail
  have fe11 := HW2.out.blk.at e11
  go_still_tail 5, (by kernel_rfl)
  change wpList _ _ _ _ _ W2.drew
  obtain ⟨V2, hV⟩ : ∃ V, V = W2.drew := ⟨_, rfl⟩
  have HD2 := Lib.hid HW2.out.drew
  rw [← hV] at HD2 ⊢
  clear hV fe11 HW2
  go_wp2_with fail
  refine (wre_u32 c.win HO.out.win HD2.out.ws.wr HD2.out.ws.size (by (try simp only [List.length_append, be_length, gapsE_length, dupsE_length, sksE_length, sksW_length, List.length_take]); have := HL.out; omega)).mono ?_
  intro e W3 hd
  obtain ⟨v3, rfl, HW3⟩ := HD2.out.step hd
  clear hd
  go_wp2_with fail
  have hw1 : IntKind.u16.wrap (ng : Int) = (ng : Int) := by simp [IntKind.wrap, IntKind.bits, IntKind.signed]; omega
  have hw2 : IntKind.u16.wrap (nd : Int) = (nd : Int) := by simp [IntKind.wrap, IntKind.bits, IntKind.signed]; omega
  have fe14 := HW3.out.blk.at e14
  go_still_tail 7, (by kernel_rfl)
  change wpList _ _ _ _ _ W3.drew
  obtain ⟨V3, hV⟩ : ∃ V, V = W3.drew := ⟨_, rfl⟩
  have HD3 := Lib.hid HW3.out.drew
  rw [← hV] at HD3 ⊢
  clear hV fe14 HW3
  go_wp2_with fail
  refine (wre_u16 ng hng6 HD3.out.ws.wr HD3.out.ws.size (by (try simp only [List.length_append, be_length, gapsE_length, dupsE_length, sksE_length, sksW_length, List.length_take]); have := HL.out; omega)).mono ?_
  intro e W4 hd
  obtain ⟨v4, rfl, HW4⟩ := HD3.out.step hd
  clear hd
  go_wp2_with fail
  have fe15 := HW4.out.blk.at e15
  go_still_tail 7, (by kernel_rfl)
  change wpList _ _ _ _ _ W4.drew
  obtain ⟨V4, hV⟩ : ∃ V, V = W4.drew := ⟨_, rfl⟩
  have HD4 := Lib.hid HW4.out.drew
  rw [← hV] at HD4 ⊢
  clear hV fe15 HW4
  go_wp2_with fail
  refine (wre_u16 nd hnd6 HD4.out.ws.wr HD4.out.ws.size (by (try simp only [List.length_append, be_length, gapsE_length, dupsE_length, sksE_length, sksW_length, List.length_take]); have := HL.out; omega)).mono ?_
  intro e W5 hd
  obtain ⟨v5, rfl, HW5⟩ := HD4.out.step hd
  clear hd
  have fe14 := HW5.out.blk.at e14
  go_wp2_with fail
  clear fe14 hw1 hw2
  have HH : Hid (c.gaps.length ≤ 65535 ∧ c.dups.length ≤ 65535) := ⟨by rw [← HNG.out]; omega, by rw [← HND.out]; omega⟩
  go_loopw [5, 52] (fun _ i wr => ∃ (k : Nat) (vk : Value), k ≤ ng ∧ i = .int .i64 k ∧ Hid (WC w wr p B v vk (l ++ be c.tsn 4 ++ be c.win 4 ++ be ng 2 ++ be nd 2 ++ gapsE (c.gaps.take k)) lg gc cs)) (fun _ i _ => ng - (intOf i).toNat)
  case atStart => exact ⟨0, v5, by omega, rfl, by rw [List.take_zero]; simpa [gapsE] using HW5⟩
  case round =>
    obtain ⟨k, vk, hk, rfl, HWk⟩ := hrel
    by_cases hlt : k < ng
    · obtain ⟨ad, q, hA, hblk, hq, hc0, hc1⟩ := gap_cells (HWk.out.ws.reads H0.out HR.out hp hC) HNG.out hlt
      have hT := take_snoc hq
      have hqm : q ∈ c.gaps := List.mem_of_getElem? hq
      obtain ⟨hq1, hq2⟩ := HO.out.gaps q hqm
      have HT := Lib.hid hT
      obtain ⟨q1, hq1'⟩ : ∃ q1, q1 = q.1 := ⟨_, rfl⟩
      obtain ⟨q2, hq2'⟩ : ∃ q2, q2 = q.2 := ⟨_, rfl⟩
      have HQ1 := Lib.hid hq1'
      have HQ2 := Lib.hid hq2'
      rw [← hq1'] at hc0 hq1
      rw [← hq2'] at hc1 hq2
      have HW6 : Hid (WL w (wr.alloc (.cells #[.int .u16 (q1 : Int), .int .u16 (q2 : Int)] 56)) p B v vk (l ++ be c.tsn 4 ++ be c.win 4 ++ be ng 2 ++ be nd 2 ++ gapsE (c.gaps.take k)) lg gc cs wr.heap.size 56 #[.int .u16 (q1 : Int), .int .u16 (q2 : Int)]) := WL.init HWk.out (by decide) (by decide)
      obtain ⟨gv, hgv⟩ : ∃ gv, gv = wr.heap.size := ⟨_, rfl⟩
      clear hT hqm hq hq1' hq2'
      rcases hA' : g.A with _ | ad'
      · rw [hA'] at hA; cases hA
      rw [hA'] at hA
      injection hA with hA
      subst hA
      rw [hA'] at HR
      have ev0 : (#[.int .u16 (q1 : Int), .int .u16 (q2 : Int)] : Array Value)[0]? = some (.int .u16 (q1 : Int)) := rfl
      have ev1 : (#[.int .u16 (q1 : Int), .int .u16 (q2 : Int)] : Array Value)[1]? = some (.int .u16 (q2 : Int)) := rfl
      go_upto_region 10 with (fail)
      obtain ⟨W6, hW6⟩ : ∃ W6, W6 = wr.alloc (.cells #[.int .u16 (q1 : Int), .int .u16 (q2 : Int)] 56) := ⟨_, rfl⟩
      rw [← hW6, ← hgv] at HW6
      rw [← hW6]
      rw [← hgv]
      clear hW6 hgv
      have fev0 := HW6.out.at ev0
      go_still_tail 5, (by kernel_rfl)
      change wpList _ _ _ _ _ W6.drew
      obtain ⟨V6, hV⟩ : ∃ V, V = W6.drew := ⟨_, rfl⟩
      have HD6 := Lib.hid HW6.out.drew
      rw [← hV] at HD6 ⊢
      clear hV fev0 HW6
      go_wp2_with fail
      refine (wre_u16 q1 hq1 HD6.out.wc.ws.wr HD6.out.wc.ws.size (by (try simp only [List.length_append, be_length, gapsE_length, dupsE_length, sksE_length, sksW_length, List.length_take]); have := HL.out; omega)).mono ?_
      intro e W7 hd
      obtain ⟨v7, rfl, HW7⟩ := HD6.out.step hd
      clear hd
      go_wp2_with fail
      have fev1 := HW7.out.at ev1
      go_still_tail 5, (by kernel_rfl)
      change wpList _ _ _ _ _ W7.drew
      obtain ⟨V7, hV⟩ : ∃ V, V = W7.drew := ⟨_, rfl⟩
      have HD7 := Lib.hid HW7.out.drew
      rw [← hV] at HD7 ⊢
      clear hV fev1 HW7
      go_wp2_with fail
      refine (wre_u16 q2 hq2 HD7.out.wc.ws.wr HD7.out.wc.ws.size (by (try simp only [List.length_append, be_length, gapsE_length, dupsE_length, sksE_length, sksW_length, List.length_take]); have := HL.out; omega)).mono ?_
      intro e W8 hd
      obtain ⟨v8, rfl, HW8⟩ := HD7.out.step hd
      clear hd
      go_wp2_with fail
      go_roundw
      case rel =>
        refine ⟨k + 1, v8, by omega, by go_num, ?_⟩
        have hw := HW8.out.wc
        rw [HT.out, gapsE_snoc, ← HQ1.out, ← HQ2.out]
        simp only [List.append_assoc] at hw ⊢
        exact hw
      case measure => simp [intOf]; omega
    · obtain rfl : k = ng := by omega
      have HFull : Hid (c.gaps.take k = c.gaps) := List.take_of_length_le (by rw [HNG.out]; exact Nat.le_refl _)
      rw [HFull.out] at HWk
      have fe15 := HWk.out.blk.at e15
      go_wp2_with fail
      clear fe15
      go_loopw [7, 72] (fun _ i wr => ∃ (m : Nat) (vk : Value), m ≤ nd ∧ i = .int .i64 m ∧ Hid (WC w wr p B v vk (l ++ be c.tsn 4 ++ be c.win 4 ++ be k 2 ++ be nd 2 ++ gapsE c.gaps ++ dupsE (c.dups.take m)) lg gc cs)) (fun _ i _ => nd - (intOf i).toNat)
      case atStart => exact ⟨0, vk, by omega, rfl, by rw [List.take_zero]; simpa [dupsE] using HWk⟩
      case round =>
        obtain ⟨m, vm, hm, rfl, HW9⟩ := hrel
        by_cases hlt2 : m < nd
        · obtain ⟨ad, q, hA, hblk, hq, hc0⟩ := dup_cells (HW9.out.ws.reads H0.out HRD.out hp hC) HND.out hlt2
          have hT := take_snoc hq
          have hq1 := HO.out.dups q (List.mem_of_getElem? hq)
          have HT := Lib.hid hT
          clear hT hq
          rcases hA' : d.A with _ | ad'
          · rw [hA'] at hA; cases hA
          rw [hA'] at hA
          injection hA with hA
          subst hA
          rw [hA'] at HRD
          go_wp2_with fail
          refine (wre_u32 q hq1 HW9.out.ws.wr HW9.out.ws.size (by (try simp only [List.length_append, be_length, gapsE_length, dupsE_length, List.length_take]); have := HL.out; have := HNG.out; have := HH.out; omega)).mono ?_
          intro e W10 hd
          obtain ⟨v10, rfl, HW10⟩ := HW9.out.step hd
          clear hd
          go_wp2_with fail
          go_roundw
          case rel =>
            refine ⟨m + 1, v10, by omega, by go_num, ?_⟩
            have hw := HW10.out
            rw [HT.out, dupsE_snoc]
            simp only [List.append_assoc] at hw ⊢
            exact hw
          case measure => simp [intOf]; omega
        · obtain rfl : m = nd := by omega
          have HFull2 : Hid (c.dups.take m = c.dups) := List.take_of_length_le (by rw [HND.out]; exact Nat.le_refl _)
          rw [HFull2.out] at HW9
          go_wp2_with fail
          go_end0
          rw [HSD.out]
          have hw := HW9.out.ws.done
          refine ⟨_, lg, hw, ?_, .inl ⟨rfl, ?_, by omega, by omega⟩⟩
          · simp only [List.length_append, be_length, gapsE_length, dupsE_length]; have := HL.out; have := HNG.out; have := HH.out; omega
          · unfold sackE
            rw [← HNG.out, ← HND.out]
            simp only [List.append_assoc]

end Go.Proofs.Ytabkjgklmibagaa.Chk
