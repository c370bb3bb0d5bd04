/-
  What the laws of layer 9 share: cookies that came in, cookies compared, keys, what must be answered ahead of everything else.
-/
import Derived.Test.YtmbgjijajakgeaaDoorCk6
import Derived.Test.YtmbgjijajakgeaaDoorSees
set_option linter.unusedVariables false
set_option linter.unusedSimpArgs false
namespace Go.Proofs.YtmbgjijajakgeaaDoor.Cok
open Go.ChangeShapes Go.WideShapes Go.ChangeAt Go.RowKit Go.Deep Go.Proofs.YtmbgjijajakgeaaDoor.Words Go.Proofs.YtmbgjijajakgeaaDoor.Oct Go.Proofs.YtmbgjijajakgeaaDoor.Sha

abbrev CkSh : Sh := .strct (.pair (.int .u32) (.pair (.int .u32) (.pair (.int .u32) (.pair (.int .u32) (.pair (.int .u32) (.pair (.int .u16) (.pair (.int .u16) (.pair (.int .u8) (.pair (.int .u32) (.pair (.int .u32) (.pair (.int .u32) .nil)))))))))))
theorem ckSh_fits : fitsB Tryd.prog CkSh 26 0 [] = true := by kernel_rfl
theorem b32 {n : Int} (h : (Lit.int .u32 n).wf = true) : 0 ≤ n ∧ n.toNat < 4294967296 := by have := bounds_u32 h; omega
theorem b16 {n : Int} (h : (Lit.int .u16 n).wf = true) : 0 ≤ n ∧ n.toNat < 65536 := by have := bounds_u16 h; omega
theorem b8 {n : Int} (h : (Lit.int .u8 n).wf = true) : 0 ≤ n ∧ n.toNat < 256 := by have := bounds_u8 h; omega
theorem ck_of {w : World} {cs : Array Value} (h : Sees w CkSh cs.toList) : ∃ c : CK, c.ok ∧ cs = ckA c := by
  obtain ⟨s0, t0, e0, l0, ⟨x0, rfl, h0⟩, s1, t1, e1, l1, ⟨x1, rfl, h1⟩, s2, t2, e2, l2, ⟨x2, rfl, h2⟩, s3, t3, e3, l3, ⟨x3, rfl, h3⟩, s4, t4, e4, l4, ⟨x4, rfl, h4⟩, s5, t5, e5, l5, ⟨x5, rfl, h5⟩, s6, t6, e6, l6, ⟨x6, rfl, h6⟩, s7, t7, e7, l7, ⟨x7, rfl, h7⟩,
    s8, t8, e8, l8, ⟨x8, rfl, h8⟩, s9, t9, e9, l9, ⟨x9, rfl, h9⟩, s10, t10, e10, l10, ⟨x10, rfl, h10⟩, rfl⟩ := h
  subst e1 e2 e3 e4 e5 e6 e7 e8 e9 e10
  have k0 := b32 h0
  have k1 := b32 h1
  have k2 := b32 h2
  have k3 := b32 h3
  have k4 := b32 h4
  have k5 := b16 h5
  have k6 := b16 h6
  have k7 := b8 h7
  have k8 := b32 h8
  have k9 := b32 h9
  have k10 := b32 h10
  refine ⟨⟨x0.toNat, x1.toNat, x2.toNat, x3.toNat, x4.toNat, x5.toNat, x6.toNat, x7.toNat, x8.toNat, x9.toNat, x10.toNat⟩, ⟨k0.2, k1.2, k2.2, k3.2, k4.2, k5.2, k6.2, k7.2, k8.2, k9.2, k10.2⟩, ?_⟩
  apply Array.ext'
  rw [e0]
  simp only [ckA, Int.toNat_of_nonneg k0.1, Int.toNat_of_nonneg k1.1, Int.toNat_of_nonneg k2.1, Int.toNat_of_nonneg k3.1, Int.toNat_of_nonneg k4.1, Int.toNat_of_nonneg k5.1, Int.toNat_of_nonneg k6.1, Int.toNat_of_nonneg k7.1, Int.toNat_of_nonneg k8.1, Int.toNat_of_nonneg k9.1, Int.toNat_of_nonneg k10.1]
  rfl
theorem eq_ck (c : CK) (w : World) : (binOp .eql 26 (.agg (ckA c)) (.agg (ckA c))).run Tryd.prog w = .ok (.bool true) w := by
  unfold ckA
  go_simp
theorem neq_ck (c : CK) (w : World) : (binOp .neq 26 (.agg (ckA c)) (.agg (ckA c))).run Tryd.prog w = .ok (.bool false) w := by
  unfold ckA
  go_simp
theorem eqg_ck (op : BinOp) (x y : Operand) (a b : CK) (w : World) : (eqGuard op 26 x y (.agg (ckA a)) (.agg (ckA b))).run Tryd.prog w = .ok () w :=
  run_eqGuard_agg (P := Tryd.prog) w op 26 x y _ _ (by kernel_rfl)
/-- A key that was written out. -/
theorem key_ptv (w : World) (l : List UInt8) (hl : l.length ≤ 1000) : PtV (w.alloc (.cells (V l) 5)) (w.alloc (.cells (V l) 5)).heap.size (.slice (some ⟨w.heap.size, 0, none⟩) l.length l.length) l :=
  .mk rfl (Nat.le_refl _) (by omega) ((Blk.new w 5 (V l)).byt (by simp) (by rw [List.take_of_length_le (by simp [V, u8s_length])]; rfl))
/-- What Open answers to what Make made. -/
theorem open_made {kb : List UInt8} {c : CK} {now : Nat} (hc : c.ok) : openP kb (sealed kb (text c)) now = if 600 < Ser.dist (c.made : Int) (now : Int) then (zeroCK, 91) else (c, 0) := by
  have hl : (sealed kb (text c)).length = 70 := sealed_length (text_length c)
  have ht : (sealed kb (text c)).take 38 = text c := by unfold sealed; rw [← text_length c, List.take_left]
  have h2 : sealed kb ((sealed kb (text c)).take 38) = sealed kb (text c) := by rw [ht]
  have hg : getC (sealed kb (text c)) = c := by rw [← getC_take, ht]; exact (getC_text hc).1
  have h3 : (sealed kb (text c)).getD 25 0 = 0 := by rw [← getD_take, ht]; exact (getC_text hc).2
  by_cases h4 : 600 < Ser.dist (c.made : Int) (now : Int)
  · rw [if_pos h4]; exact open_stale hl h2 h3 (by rw [hg]; exact h4)
  · rw [if_neg h4, open_ok hl h2 h3 (by rw [hg]; exact h4), hg]
end Go.Proofs.YtmbgjijajakgeaaDoor.Cok
