/-
  Contracts of package chunk's writer: acknowledgements, what is skipped, and all of it.
-/
import Derived.Test.YtabkjgklmibagaaChX
set_option linter.unusedVariables false
set_option linter.unusedSimpArgs false
namespace Go.Proofs.Ytabkjgklmibagaa.Chk
open Go.ChangeShapes Go.WideShapes Go.ChangeAt Go.RowKit Go.Deep Go.Proofs.Ytabkjgklmibagaa.Words Go.Proofs.Ytabkjgklmibagaa.Oct Go.Proofs.Ytabkjgklmibagaa.Par

theorem WL.at {w V : World} {p B g gv i : Nat} {v0 v u : Value} {l : List UInt8} {lg : Bool} {cs xs : Array Value} {t : TypeId} (h : WL w V p B v0 v l lg g cs gv t xs) (hv : xs[i]? = some u) : V.cell? ⟨gv, i, none⟩ = some u := (h.var.cell i).trans hv

set_option maxHeartbeats 4000000 in
set_option maxRecDepth 100000 in
theorem fwd_w {w : World} {p B C : Nat} {v : Value} {l : List UInt8} {lg : Bool} {cs : Array Value} {c : Ck} (h : WrE w p B v l lg) (hB : B ≤ w.heap.size) (hl : l.length + 8 * c.skips.length ≤ 900000) (hc : CkAt w C cs c) (hp : C ≤ p) (hC : C ≤ B) :
    Calls Try.prog 45 #[rptr p, .agg cs] w (WroteE w p B v (l ++ (be c.tsn 4 ++ sksE c.skips)) lg) := by
  obtain ⟨g, d, s, pp, b, hcc, hll⟩ := hc.parts
  have ok := hc.ok
  have H0 := Lib.hid h
  have HW1 := Lib.hid (WC.init (cs := cs) h hB)
  have HO := Lib.hid ok
  have e5 := hcc.c5
  have e16 := hcc.c16
  have HR := Lib.hid hll.skips
  have ho1 := hll.oks.1
  have ho2 := hll.oks.2
  obtain ⟨n, hn⟩ : ∃ n, n = c.skips.length := ⟨_, rfl⟩
  have HN := Lib.hid hn
  rw [← hn] at e16 HR hl ho1
  have HL := Lib.hid hl
  have hn9 : n ≤ 112500 := by omega
  clear hcc hc h ok hl hll hn
  go_enter Try.func45, Try.ntmps45
  go_upto_region 1 with (fail)
  obtain ⟨W1, hW1⟩ : ∃ W1, W1 = w.alloc (.cells cs 42) := ⟨_, rfl⟩
  rw [← hW1] at HW1 ⊢
  obtain ⟨gc, hgc⟩ : ∃ gc, gc = w.heap.size := ⟨_, rfl⟩
  rw [← hgc] at HW1 ⊢
  clear hW1 hgc
  have fe5 := HW1.out.blk.at e5
  go_still_tail 5, (by kernel_rfl)
  change wpList _ _ _ _ _ W1.drew
  obtain ⟨V1, hV⟩ : ∃ V, V = W1.drew := ⟨_, rfl⟩
  have HD1 := Lib.hid HW1.out.drew
  rw [← hV] at HD1 ⊢
  clear hV fe5 HW1
  go_wp2_with fail
  refine (wre_u32 c.tsn HO.out.tsn HD1.out.ws.wr HD1.out.ws.size (by (try simp only [List.length_append, be_length, gapsE_length, dupsE_length, sksE_length, sksW_length, List.length_take]); have := HL.out; omega)).mono ?_
  intro e W2 hd
  obtain ⟨v2, rfl, HW2⟩ := HD1.out.step hd
  clear hd
  have fe16 := HW2.out.blk.at e16
  go_wp2_with fail
  clear fe16
  go_loopw [5, 15] (fun _ i wr => ∃ (k : Nat) (vk : Value), k ≤ n ∧ i = .int .i64 k ∧ Hid (WC w wr p B v vk (l ++ be c.tsn 4 ++ sksE (c.skips.take k)) lg gc cs)) (fun _ i _ => n - (intOf i).toNat)
  case atStart => exact ⟨0, v2, by omega, rfl, by rw [List.take_zero]; simpa [sksE] using HW2⟩
  case round =>
    obtain ⟨k, vk, hk, rfl, HWk⟩ := hrel
    by_cases hlt : k < n
    · obtain ⟨ad, q, hA, hblk, hq, hc0, hc1, hc2⟩ := sk_cells (HWk.out.ws.reads H0.out HR.out hp hC) HN.out hlt
      have hT := take_snoc hq
      have hqm : q ∈ c.skips := List.mem_of_getElem? hq
      obtain ⟨hq1, hq2⟩ := HO.out.skips q hqm
      have HT := Lib.hid hT
      have HS1 := Lib.hid hq1
      have HS2 := Lib.hid hq2
      obtain ⟨q1, hq1'⟩ : ∃ q1, q1 = q.1 := ⟨_, rfl⟩
      obtain ⟨q2, hq2'⟩ : ∃ q2, q2 = q.2.1 := ⟨_, rfl⟩
      obtain ⟨q3, hq3'⟩ : ∃ q3, q3 = q.2.2 := ⟨_, rfl⟩
      have HQ1 := Lib.hid hq1'
      have HQ3 := Lib.hid hq3'
      rw [← hq1'] at hc0 hq1
      rw [← hq2'] at hc1
      rw [← hq3'] at hc2 hq2
      have hmw : IntKind.u16.wrap (q3 : Int) = ((q3 % 65536 : Nat) : Int) := by simp [IntKind.wrap, IntKind.bits, IntKind.signed]
      obtain ⟨m3, hm3⟩ : ∃ m3, m3 = q3 % 65536 := ⟨_, rfl⟩
      rw [← hm3] at hmw
      have hm65 : m3 < 65536 := by omega
      have HM3 := Lib.hid hm3
      have HW3 : Hid (WL w (wr.alloc (.cells #[.int .u16 (q1 : Int), .bool q2, .int .u32 (q3 : Int)] 58)) p B v vk (l ++ be c.tsn 4 ++ sksE (c.skips.take k)) lg gc cs wr.heap.size 58 #[.int .u16 (q1 : Int), .bool q2, .int .u32 (q3 : Int)]) := WL.init HWk.out (by decide) (by decide)
      obtain ⟨gv, hgv⟩ : ∃ gv, gv = wr.heap.size := ⟨_, rfl⟩
      clear hT hqm hq hq1' hq2' hq3' hm3
      rcases hA' : s.A with _ | ad'
      · rw [hA'] at hA; cases hA
      rw [hA'] at hA
      injection hA with hA
      subst hA
      rw [hA'] at HR
      have ev0 : (#[.int .u16 (q1 : Int), .bool q2, .int .u32 (q3 : Int)] : Array Value)[0]? = some (.int .u16 (q1 : Int)) := rfl
      have ev2 : (#[.int .u16 (q1 : Int), .bool q2, .int .u32 (q3 : Int)] : Array Value)[2]? = some (.int .u32 (q3 : Int)) := rfl
      go_upto_region 5 with (fail)
      obtain ⟨W3, hW3⟩ : ∃ W3, W3 = wr.alloc (.cells #[.int .u16 (q1 : Int), .bool q2, .int .u32 (q3 : Int)] 58) := ⟨_, rfl⟩
      rw [← hW3, ← hgv] at HW3
      rw [← hW3]
      rw [← hgv]
      clear hW3 hgv
      have fev0 := HW3.out.at ev0
      go_still_tail 5, (by kernel_rfl)
      change wpList _ _ _ _ _ W3.drew
      obtain ⟨V3, hV⟩ : ∃ V, V = W3.drew := ⟨_, rfl⟩
      have HD3 := Lib.hid HW3.out.drew
      rw [← hV] at HD3 ⊢
      clear hV fev0 HW3
      go_wp2_with fail
      refine (wre_u16 q1 hq1 HD3.out.wc.ws.wr HD3.out.wc.ws.size (by (try simp only [List.length_append, be_length, gapsE_length, dupsE_length, sksE_length, sksW_length, List.length_take]); have := HL.out; omega)).mono ?_
      intro e W4 hd
      obtain ⟨v4, rfl, HW4⟩ := HD3.out.step hd
      clear hd
      go_wp2_with fail
      have fev2 := HW4.out.at ev2
      go_still_tail 6, (by kernel_rfl)
      change wpList _ _ _ _ _ W4.drew
      obtain ⟨V4, hV⟩ : ∃ V, V = W4.drew := ⟨_, rfl⟩
      have HD4 := Lib.hid HW4.out.drew
      rw [← hV] at HD4 ⊢
      clear hV fev2 HW4
      go_wp2_with fail
      refine (wre_u16 m3 hm65 HD4.out.wc.ws.wr HD4.out.wc.ws.size (by (try simp only [List.length_append, be_length, gapsE_length, dupsE_length, sksE_length, sksW_length, List.length_take]); have := HL.out; omega)).mono ?_
      intro e W5 hd
      obtain ⟨v5, rfl, HW5⟩ := HD4.out.step hd
      clear hd
      go_wp2_with fail
      go_roundw
      case rel =>
        refine ⟨k + 1, v5, by omega, by go_num, ?_⟩
        have hw := HW5.out.wc
        rw [HT.out, sksE_snoc, ← HQ1.out, ← HQ3.out, ← HM3.out]
        simp only [List.append_assoc] at hw ⊢
        exact hw
      case measure => simp [intOf]; omega
    · obtain rfl : k = n := by omega
      have HFull : Hid (c.skips.take k = c.skips) := List.take_of_length_le (by rw [HN.out]; exact Nat.le_refl _)
      rw [HFull.out] at HWk
      go_wp2_with fail
      go_end0
      have hw := HWk.out.ws.done
      simp only [List.append_assoc] at hw ⊢
      exact hw

set_option maxHeartbeats 4000000 in
set_option maxRecDepth 100000 in
theorem wide_w {w : World} {p B C : Nat} {v : Value} {l : List UInt8} {lg : Bool} {cs : Array Value} {c : Ck} (h : WrE w p B v l lg) (hB : B ≤ w.heap.size) (hl : l.length + 8 * c.skips.length ≤ 900000) (hc : CkAt w C cs c) (hp : C ≤ p) (hC : C ≤ B) :
    Calls Try.prog 46 #[rptr p, .agg cs] w (WroteE w p B v (l ++ (be c.tsn 4 ++ sksW c.skips)) lg) := by
  obtain ⟨g, d, s, pp, b, hcc, hll⟩ := hc.parts
  have ok := hc.ok
  have H0 := Lib.hid h
  have HW1 := Lib.hid (WC.init (cs := cs) h hB)
  have HO := Lib.hid ok
  have e5 := hcc.c5
  have e16 := hcc.c16
  have HR := Lib.hid hll.skips
  have ho1 := hll.oks.1
  have ho2 := hll.oks.2
  obtain ⟨n, hn⟩ : ∃ n, n = c.skips.length := ⟨_, rfl⟩
  have HN := Lib.hid hn
  rw [← hn] at e16 HR hl ho1
  have HL := Lib.hid hl
  have hn9 : n ≤ 112500 := by omega
  clear hcc hc h ok hl hll hn
  go_enter Try.func46, Try.ntmps46
  go_upto_region 1 with (fail)
  obtain ⟨W1, hW1⟩ : ∃ W1, W1 = w.alloc (.cells cs 42) := ⟨_, rfl⟩
  rw [← hW1] at HW1 ⊢
  obtain ⟨gc, hgc⟩ : ∃ gc, gc = w.heap.size := ⟨_, rfl⟩
  rw [← hgc] at HW1 ⊢
  clear hW1 hgc
  have fe5 := HW1.out.blk.at e5
  go_still_tail 5, (by kernel_rfl)
  change wpList _ _ _ _ _ W1.drew
  obtain ⟨V1, hV⟩ : ∃ V, V = W1.drew := ⟨_, rfl⟩
  have HD1 := Lib.hid HW1.out.drew
  rw [← hV] at HD1 ⊢
  clear hV fe5 HW1
  go_wp2_with fail
  refine (wre_u32 c.tsn HO.out.tsn HD1.out.ws.wr HD1.out.ws.size (by (try simp only [List.length_append, be_length, gapsE_length, dupsE_length, sksE_length, sksW_length, List.length_take]); have := HL.out; omega)).mono ?_
  intro e W2 hd
  obtain ⟨v2, rfl, HW2⟩ := HD1.out.step hd
  clear hd
  have fe16 := HW2.out.blk.at e16
  go_wp2_with fail
  clear fe16
  go_loopw [5, 15] (fun _ i wr => ∃ (k : Nat) (vk : Value), k ≤ n ∧ i = .int .i64 k ∧ Hid (WC w wr p B v vk (l ++ be c.tsn 4 ++ sksW (c.skips.take k)) lg gc cs)) (fun _ i _ => n - (intOf i).toNat)
  case atStart => exact ⟨0, v2, by omega, rfl, by rw [List.take_zero]; simpa [sksW] using HW2⟩
  case round =>
    obtain ⟨k, vk, hk, rfl, HWk⟩ := hrel
    by_cases hlt : k < n
    · obtain ⟨ad, q, hA, hblk, hq, hc0, hc1, hc2⟩ := sk_cells (HWk.out.ws.reads H0.out HR.out hp hC) HN.out hlt
      have hT := take_snoc hq
      have hqm : q ∈ c.skips := List.mem_of_getElem? hq
      obtain ⟨hq1, hq2⟩ := HO.out.skips q hqm
      have HT := Lib.hid hT
      have HS1 := Lib.hid hq1
      have HS2 := Lib.hid hq2
      obtain ⟨q1, hq1'⟩ : ∃ q1, q1 = q.1 := ⟨_, rfl⟩
      obtain ⟨q2, hq2'⟩ : ∃ q2, q2 = q.2.1 := ⟨_, rfl⟩
      obtain ⟨q3, hq3'⟩ : ∃ q3, q3 = q.2.2 := ⟨_, rfl⟩
      have HQ1 := Lib.hid hq1'
      have HQ3 := Lib.hid hq3'
      rw [← hq1'] at hc0 hq1
      rw [← hq2'] at hc1
      rw [← hq3'] at hc2 hq2
      have HQ2 := Lib.hid hq2'
      have HW3 : Hid (WL w (wr.alloc (.cells #[.int .u16 (q1 : Int), .bool q2, .int .u32 (q3 : Int)] 58)) p B v vk (l ++ be c.tsn 4 ++ sksW (c.skips.take k)) lg gc cs wr.heap.size 58 #[.int .u16 (q1 : Int), .bool q2, .int .u32 (q3 : Int)]) := WL.init HWk.out (by decide) (by decide)
      obtain ⟨gv, hgv⟩ : ∃ gv, gv = wr.heap.size := ⟨_, rfl⟩
      clear hT hqm hq hq1' hq2' hq3'
      rcases hA' : s.A with _ | ad'
      · rw [hA'] at hA; cases hA
      rw [hA'] at hA
      injection hA with hA
      subst hA
      rw [hA'] at HR
      have ev0 : (#[.int .u16 (q1 : Int), .bool q2, .int .u32 (q3 : Int)] : Array Value)[0]? = some (.int .u16 (q1 : Int)) := rfl
      have ev1 : (#[.int .u16 (q1 : Int), .bool q2, .int .u32 (q3 : Int)] : Array Value)[1]? = some (.bool q2) := rfl
      have ev2 : (#[.int .u16 (q1 : Int), .bool q2, .int .u32 (q3 : Int)] : Array Value)[2]? = some (.int .u32 (q3 : Int)) := rfl
      go_upto_region 5 with (fail)
      obtain ⟨W3, hW3⟩ : ∃ W3, W3 = wr.alloc (.cells #[.int .u16 (q1 : Int), .bool q2, .int .u32 (q3 : Int)] 58) := ⟨_, rfl⟩
      rw [← hW3, ← hgv] at HW3
      rw [← hW3]
      rw [← hgv]
      clear hW3 hgv
      have fev0 := HW3.out.at ev0
      go_still_tail 5, (by kernel_rfl)
      change wpList _ _ _ _ _ W3.drew
      obtain ⟨V3, hV⟩ : ∃ V, V = W3.drew := ⟨_, rfl⟩
      have HD3 := Lib.hid HW3.out.drew
      rw [← hV] at HD3 ⊢
      clear hV fev0 HW3
      go_wp2_with fail
      refine (wre_u16 q1 hq1 HD3.out.wc.ws.wr HD3.out.wc.ws.size (by (try simp only [List.length_append, be_length, gapsE_length, dupsE_length, sksE_length, sksW_length, List.length_take]); have := HL.out; omega)).mono ?_
      intro e W4 hd
      obtain ⟨v4, rfl, HW4⟩ := HD3.out.step hd
      clear hd
      go_wp2_with fail
      refine (wre_u8 0 (by omega) HW4.out.wc.ws.wr HW4.out.wc.ws.size (by (try simp only [List.length_append, be_length, sksW_length, List.length_take]); have := HL.out; omega)).mono ?_
      intro e W5 hd
      obtain ⟨v5, rfl, HW5⟩ := HW4.out.step hd
      have fev1 := HW5.out.at ev1
      clear hd
      go_wp2_with fail
      refine wp_region_still_tail 6 (by kernel_rfl) (by kernel_rfl) ?_
      simp only [List.take_succ_cons, List.take_zero, List.drop_succ_cons, List.drop_zero]
      repeat still_step
      still_call ((flag_c q2 1 _).mono fun _ _ h => ⟨h.1, h.2.symm⟩)
      repeat still_step
      try refine wpStill_nil ?_
      change wpList _ _ _ _ _ W5.drew
      obtain ⟨V5, hV⟩ : ∃ V, V = W5.drew := ⟨_, rfl⟩
      have HD5 := Lib.hid HW5.out.drew
      rw [← hV] at HD5 ⊢
      clear hV fev1 HW5
      have hfl : flagV q2 1 < 256 := by cases q2 <;> decide
      have HFL : Hid (flagV q2 1 = loN q2) := by cases q2 <;> rfl
      obtain ⟨fl, hfl'⟩ : ∃ fl, fl = flagV q2 1 := ⟨_, rfl⟩
      rw [← hfl'] at hfl HFL ⊢
      clear hfl'
      go_wp2_with fail
      refine (wre_u8 fl hfl HD5.out.wc.ws.wr HD5.out.wc.ws.size (by (try simp only [List.length_append, be_length, sksW_length, List.length_take]); have := HL.out; omega)).mono ?_
      intro e W6 hd
      obtain ⟨v6, rfl, HW6⟩ := HD5.out.step hd
      clear hd
      go_wp2_with fail
      have fev2 := HW6.out.at ev2
      go_still_tail 5, (by kernel_rfl)
      change wpList _ _ _ _ _ W6.drew
      obtain ⟨V6, hV⟩ : ∃ V, V = W6.drew := ⟨_, rfl⟩
      have HD6 := Lib.hid HW6.out.drew
      rw [← hV] at HD6 ⊢
      clear hV fev2 HW6
      go_wp2_with fail
      refine (wre_u32 q3 hq2 HD6.out.wc.ws.wr HD6.out.wc.ws.size (by (try simp only [List.length_append, be_length, gapsE_length, dupsE_length, sksE_length, sksW_length, List.length_take]); have := HL.out; omega)).mono ?_
      intro e W7 hd
      obtain ⟨v7, rfl, HW7⟩ := HD6.out.step hd
      clear hd
      go_wp2_with fail
      go_roundw
      case rel =>
        refine ⟨k + 1, v7, by omega, by go_num, ?_⟩
        have hw := HW7.out.wc
        rw [HT.out, sksW_snoc, ← HQ1.out, ← HQ2.out, ← HQ3.out, ← HFL.out]
        simp only [List.append_assoc] at hw ⊢
        exact hw
      case measure => simp [intOf]; omega
    · obtain rfl : k = n := by omega
      have HFull : Hid (c.skips.take k = c.skips) := List.take_of_length_le (by rw [HN.out]; exact Nat.le_refl _)
      rw [HFull.out] at HWk
      go_wp2_with fail
      go_end0
      have hw := HWk.out.ws.done
      simp only [List.append_assoc] at hw ⊢
      exact hw

end Go.Proofs.Ytabkjgklmibagaa.Chk
