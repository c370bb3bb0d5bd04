/-
  Package cookie: written.
-/
import Derived.Test.YtmbgjijajakgeaaDoorCk1
set_option linter.unusedVariables false
set_option linter.unusedSimpArgs false
namespace Go.Proofs.YtmbgjijajakgeaaDoor.Cok
open Go.ChangeShapes Go.WideShapes Go.ChangeAt Go.RowKit Go.Proofs.YtmbgjijajakgeaaDoor.Words Go.Proofs.YtmbgjijajakgeaaDoor.Oct

/-- A cookie's own block, and a block of a writer, beside each other. -/
abbrev nilS : Value := .slice none 0 0
theorem below_new' (w : World) (o : Obj) : Below w.heap.size w (w.alloc o) := (Below.refl _ _).alloc (Nat.le_refl _) _
theorem nil_at {p k : Nat} (h : k ≠ p) : ¬ AtW p nilS k := by
  rintro (e | e)
  · exact h e
  · cases e
set_option maxRecDepth 20000 in
set_option maxHeartbeats 4000000 in
theorem written_any {c : CK} (hc : c.ok) (w : World) :
    Calls Tryd.prog 13 #[.agg (ckA c)] w fun e w' => ∃ v, e = .returned v ∧ Own w' w.heap.size v (text c) ∧ Below w.heap.size w w' := by
  obtain ⟨N, hN⟩ : ∃ N, N = w.heap.size := ⟨_, rfl⟩
  obtain ⟨tag, peer, tsn, ptsn, win, out, inn, feat, made, tt, tp⟩ := c
  obtain ⟨h1, h2, h3, h4, h5, h6, h7, h8, h9, h10, h11⟩ := hc
  simp only at h1 h2 h3 h4 h5 h6 h7 h8 h9 h10 h11
  obtain ⟨W0, hW0⟩ : ∃ W, W = w.alloc (.cells (ckA ⟨tag, peer, tsn, ptsn, win, out, inn, feat, made, tt, tp⟩) 26) := ⟨_, rfl⟩
  obtain ⟨W1, hW1⟩ : ∃ W, W = W0.alloc (.cells #[nilS] 60) := ⟨_, rfl⟩
  have hs0 : W0.heap.size = N + 1 := by rw [hW0, hN]; simp
  have HBK0 : Hid (Blk W0 N 26 (ckA ⟨tag, peer, tsn, ptsn, win, out, inn, feat, made, tt, tp⟩)) := by show Blk _ _ _ _; rw [hW0, hN]; exact Blk.new w _ _
  have HBK1 : Hid (Blk W1 N 26 (ckA ⟨tag, peer, tsn, ptsn, win, out, inn, feat, made, tt, tp⟩)) := by show Blk _ _ _ _; rw [hW1]; exact HBK0.out.alloc _
  have HS1 : Hid (ESt W1 W1 (N + 1) (N + 1) nilS nilS []) := by
    refine ESt.start ?_
    have := wr_zero W0
    rw [hs0, ← hW1] at this
    exact this
  have HB1 : Hid (Below w.heap.size w W1) := by show Below _ _ _; rw [hW1, hW0]; exact ((Below.refl _ _).alloc (Nat.le_refl _) _).alloc (by simp) _
  have HZ1 : Hid (W1.heap.size = N + 2) := by show _ = _; rw [hW1]; simp [hs0]
  have HN := Lib.hid hN
  have HW0 := Lib.hid hW0
  have HW1 := Lib.hid hW1
  have HS0 := Lib.hid hs0
  clear hW0 hW1 hN hs0 HBK0
  have hbx : (some ⟨w.heap.size, 0, none⟩ : Option Addr) = some ⟨N, 0, none⟩ := by rw [HN.out]
  unfold ckA at HW0 HBK1 ⊢
  have c0 : W1.cell? ⟨N, 0, none⟩ = some (.int .u32 (tag : Int)) := HBK1.out.cell 0
  have c1 : W1.cell? ⟨N, 1, none⟩ = some (.int .u32 (peer : Int)) := HBK1.out.cell 1
  have c2 : W1.cell? ⟨N, 2, none⟩ = some (.int .u32 (tsn : Int)) := HBK1.out.cell 2
  have c3 : W1.cell? ⟨N, 3, none⟩ = some (.int .u32 (ptsn : Int)) := HBK1.out.cell 3
  have c4 : W1.cell? ⟨N, 4, none⟩ = some (.int .u32 (win : Int)) := HBK1.out.cell 4
  go_enter Tryd.func13, Tryd.ntmps13
  go_upto_region 2 with (fail)
  rw [← HW0.out, ← HW1.out, ← HN.out]
  clear HW0 HW1 hbx
  obtain ⟨v1, hv1⟩ : ∃ v, v = nilS := ⟨_, rfl⟩
  have HS1 : Hid (ESt W1 W1 (N + 1) (N + 1) nilS v1 []) := by rw [hv1]; exact HS1
  clear hv1
  have HC1 : Hid (Calls Tryd.prog 23 #[.func (.func 24) #[rptr (N + 1)] #[], .slice (some ⟨W1.heap.size, 0, none⟩) 5 5] (W1.alloc (.cells (Sha.U [tag, peer, tsn, ptsn, win]) 23)) (Wrote (W1.alloc (.cells (Sha.U [tag, peer, tsn, ptsn, win]) 23)) (N + 1) (N + 1) v1 ([] ++ bes [tag, peer, tsn, ptsn, win]))) :=
    each_any (n := 5) (c := 5) (HS1.out.1.grows (below_new' W1 _)) (by have h1 := HS1.out.2.1.size; have h2 := HZ1.out; simp; omega) (by simp [bes_length, be_length]) (Blk.new W1 _ _) rfl (by omega) (by intro x hx; simp only [List.mem_cons, List.not_mem_nil, or_false] at hx; rcases hx with rfl | rfl | rfl | rfl | rfl <;> assumption)
  have HA1 : Hid (ESt W1 (W1.alloc (.cells (Sha.U [tag, peer, tsn, ptsn, win]) 23)) (N + 1) (N + 1) nilS v1 ([])) := HS1.out.grows (below_new' W1 _)
  go_wp2_with fail
  refine HC1.out.mono ?_
  rintro e W2 hwr
  obtain ⟨rfl, v2, hst⟩ := HA1.out.step hwr
  have HS2 := Lib.hid hst
  clear hst hwr HC1 HA1
  clear c0 c1 c2 c3 c4
  have hbk : Blk W2 N 26 _ := HS2.out.2.1.blk HBK1.out (nil_at (by omega))
  have c5 : W2.cell? ⟨N, 5, none⟩ = some (.int .u16 (out : Int)) := hbk.cell 5
  clear hbk
  have HC2 := Lib.hid (wr_u16 out h6 HS2.out.1 (by have h1 := HS2.out.2.1.size; have h2 := HZ1.out; omega) (by simp [bes_length, be_length]))
  go_wp2_with fail
  refine HC2.out.mono ?_
  rintro e W3 hwr
  obtain ⟨rfl, v3, hst⟩ := HS2.out.step hwr
  have HS3 := Lib.hid hst
  clear hst hwr HC2
  clear c5
  have hbk : Blk W3 N 26 _ := HS3.out.2.1.blk HBK1.out (nil_at (by omega))
  have c6 : W3.cell? ⟨N, 6, none⟩ = some (.int .u16 (inn : Int)) := hbk.cell 6
  clear hbk
  have HC3 := Lib.hid (wr_u16 inn h7 HS3.out.1 (by have h1 := HS3.out.2.1.size; have h2 := HZ1.out; omega) (by simp [bes_length, be_length]))
  go_wp2_with fail
  refine HC3.out.mono ?_
  rintro e W4 hwr
  obtain ⟨rfl, v4, hst⟩ := HS3.out.step hwr
  have HS4 := Lib.hid hst
  clear hst hwr HC3
  clear c6
  have hbk : Blk W4 N 26 _ := HS4.out.2.1.blk HBK1.out (nil_at (by omega))
  have c7 : W4.cell? ⟨N, 7, none⟩ = some (.int .u8 (feat : Int)) := hbk.cell 7
  clear hbk
  have HC4 := Lib.hid (wr_u8 feat h8 HS4.out.1 (by have h1 := HS4.out.2.1.size; have h2 := HZ1.out; omega) (by simp [bes_length, be_length]))
  go_wp2_with fail
  refine HC4.out.mono ?_
  rintro e W5 hwr
  obtain ⟨rfl, v5, hst⟩ := HS4.out.step hwr
  have HS5 := Lib.hid hst
  clear hst hwr HC4
  clear c7
  have HC5 := Lib.hid (wr_u8 0 (by omega) HS5.out.1 (by have h1 := HS5.out.2.1.size; have h2 := HZ1.out; omega) (by simp [bes_length, be_length]))
  go_wp2_with fail
  refine HC5.out.mono ?_
  rintro e W6 hwr
  obtain ⟨rfl, v6, hst⟩ := HS5.out.step hwr
  have HS6 := Lib.hid hst
  clear hst hwr HC5
  have hbk : Blk W6 N 26 _ := HS6.out.2.1.blk HBK1.out (nil_at (by omega))
  have c8 : W6.cell? ⟨N, 8, none⟩ = some (.int .u32 (made : Int)) := hbk.cell 8
  have c9 : W6.cell? ⟨N, 9, none⟩ = some (.int .u32 (tt : Int)) := hbk.cell 9
  have c10 : W6.cell? ⟨N, 10, none⟩ = some (.int .u32 (tp : Int)) := hbk.cell 10
  clear hbk
  have HC6 : Hid (Calls Tryd.prog 23 #[.func (.func 24) #[rptr (N + 1)] #[], .slice (some ⟨W6.heap.size, 0, none⟩) 3 3] (W6.alloc (.cells (Sha.U [made, tt, tp]) 23)) (Wrote (W6.alloc (.cells (Sha.U [made, tt, tp]) 23)) (N + 1) (N + 1) v6 ([] ++ bes [tag, peer, tsn, ptsn, win] ++ be out 2 ++ be inn 2 ++ be feat 1 ++ be 0 1 ++ bes [made, tt, tp]))) :=
    each_any (n := 3) (c := 3) (HS6.out.1.grows (below_new' W6 _)) (by have h1 := HS6.out.2.1.size; have h2 := HZ1.out; simp; omega) (by simp [bes_length, be_length]) (Blk.new W6 _ _) rfl (by omega) (by intro x hx; simp only [List.mem_cons, List.not_mem_nil, or_false] at hx; rcases hx with rfl | rfl | rfl <;> assumption)
  have HA6 : Hid (ESt W1 (W6.alloc (.cells (Sha.U [made, tt, tp]) 23)) (N + 1) (N + 1) nilS v6 ([] ++ bes [tag, peer, tsn, ptsn, win] ++ be out 2 ++ be inn 2 ++ be feat 1 ++ be 0 1)) := HS6.out.grows (below_new' W6 _)
  go_wp2_with fail
  refine HC6.out.mono ?_
  rintro e W7 hwr
  obtain ⟨rfl, v7, hst⟩ := HA6.out.step hwr
  have HS7 := Lib.hid hst
  clear hst hwr HC6 HA6
  clear c8 c9 c10
  have HL : Hid ([] ++ bes [tag, peer, tsn, ptsn, win] ++ be out 2 ++ be inn 2 ++ be feat 1 ++ be 0 1 ++ bes [made, tt, tp] = text ⟨tag, peer, tsn, ptsn, win, out, inn, feat, made, tt, tp⟩) := by show _ = _; rw [List.nil_append]; rfl
  rw [HL.out] at HS7
  have HC7 := Lib.hid (wr_out HS7.out.1 (by rw [text_length]; omega))
  go_wp2_with fail
  refine HC7.out.mono ?_
  rintro e W8 ⟨⟨u, rfl, hu⟩, hb8⟩
  have HU := Lib.hid hu
  have HB7 : Hid (Below w.heap.size w W7) := HB1.out.trans (HS7.out.2.1.to_below (by rw [HZ1.out, ← HN.out]; omega) (fun x hx => by
    rcases hx with hx | hx
    · have := HN.out; omega
    · cases hx))
  have HB8 : Hid (Below w.heap.size w W8) := HB7.out.trans (hb8.mono HB7.out.size)
  clear hu hb8 HC7
  go_wp2_with fail
  go_ret
  exact ⟨u, rfl, own_mono HU.out HB7.out.size, HB8.out⟩
end Go.Proofs.YtmbgjijajakgeaaDoor.Cok
