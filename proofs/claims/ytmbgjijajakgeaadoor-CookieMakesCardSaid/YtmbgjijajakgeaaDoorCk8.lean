/-
  What the laws of layer 9 share: calls with a key that is written out; what must be answered ahead of everything else.
-/
import Derived.Test.YtmbgjijajakgeaaDoorCk7
set_option linter.unusedVariables false
set_option linter.unusedSimpArgs false
namespace Go.Proofs.YtmbgjijajakgeaaDoor.Cok
open Go.ChangeShapes Go.WideShapes Go.ChangeAt Go.RowKit Go.Deep Go.Proofs.YtmbgjijajakgeaaDoor.Words Go.Proofs.YtmbgjijajakgeaaDoor.Oct Go.Proofs.YtmbgjijajakgeaaDoor.Sha

def putCk (w : World) (c : CK) : World := (w.alloc (.cells (ckA zeroCK) 26)).setRow w.heap.size (ckA c)
theorem putCk_below (w : World) (c : CK) : Below w.heap.size w (putCk w c) := below_setRow (below_new w _) (Nat.le_refl _) _
theorem putCk_blk (w : World) (c : CK) : Blk (putCk w c) w.heap.size 26 (ckA c) := setRow_heap _ _ _ _ _ _ (Blk.new w _ _)
theorem wpList_allocCk {ops : Array Oper} {rest : List Oper} {o : Oper} {a : Act} {w : World} {Q : Exit → Act → World → Prop} (hgd : o.guard = none) (ho : o.op = .alloc 26)
    (h : wpList Tryd.prog ops Q rest (a.put o.dst (.pointer (some ⟨w.heap.size, 0, none⟩))) (w.alloc (.cells (ckA zeroCK) 26))) : wpList Tryd.prog ops Q (o :: rest) a w :=
  wpList_alloc_run _ hgd 26 ho (alloc_ck _) h
theorem wpList_storeCk {ops : Array Oper} {rest : List Oper} {o : Oper} {a : Act} {w : World} {Q : Exit → Act → World → Prop} (hgd : o.guard = none) (x y : Operand) (ho : o.op = .store 26 x y) {c : CK}
    (hx : a.eval x = .pointer (some ⟨w.heap.size, 0, none⟩)) (hy : a.eval y = .agg (ckA c))
    (h : wpList Tryd.prog ops Q rest (a.put o.dst undef) (putCk w c)) : wpList Tryd.prog ops Q (o :: rest) a (w.alloc (.cells (ckA zeroCK) 26)) :=
  wpList_store_row hgd 26 x y ho w.heap.size (ckA c) hx hy 26 (ckA zeroCK) (Blk.new w _ _) (ck_size _) rfl (ck_one _) h
/-- A world with a key written out. -/
abbrev keyW (w : World) (l : List UInt8) : World := w.alloc (.cells (V l) 5 (l.length, l.length + 1))
theorem keyW_ptv (w : World) (l : List UInt8) (hl : l.length ≤ 1000) : PtV (keyW w l) (keyW w l).heap.size (.slice (some ⟨w.heap.size, 0, none⟩) l.length l.length) l :=
  .mk rfl (Nat.le_refl _) (by omega) (byt_of_heap (t := 5) (fr := (l.length, l.length + 1)) (cs := V l) (heap_alloc_new w _) (by simp) (by rw [List.take_of_length_le (by simp [V, u8s_length])]; rfl))
theorem keyW_below (w : World) (l : List UInt8) : Below w.heap.size w (keyW w l) := below_new w _
theorem open_key {W : World} {l b : List UInt8} {A : Option Addr} {n c now : Nat} (hl : l.length ≤ 1000) (hn : n = b.length) (hm : n ≤ 1000) (hby : Byt W W.heap.size A b) (hK : Laid W) :
    Calls Tryd.prog 9 #[.slice (some ⟨W.heap.size, 0, none⟩) l.length l.length, .slice A n c, .int .u32 (now : Int)] (keyW W l) (OpenDone W (openP l b now)) := by
  have hb := keyW_below W l
  exact (open_any (keyW_ptv W l hl) hl hn hm ((hby.below hb).more hb.size) (hK.below hb hK.size)).mono fun e w' ⟨h1, h2⟩ => ⟨h1, hb.trans (h2.mono hb.size)⟩
theorem make_key {W : World} {l : List UInt8} {c : CK} (hc : c.ok) (hl : l.length ≤ 1000) (hK : Laid W) :
    Calls Tryd.prog 8 #[.slice (some ⟨W.heap.size, 0, none⟩) l.length l.length, .agg (ckA c)] (keyW W l) fun e w' => ∃ v, e = .returned v ∧ Words.Own w' W.heap.size v (sealed l (text c)) ∧ Below W.heap.size W w' := by
  have hb := keyW_below W l
  exact (make_any hc (keyW_ptv W l hl) hl (hK.below hb hK.size)).mono fun e w' ⟨v, h1, h2, h3⟩ => ⟨v, h1, own_mono h2 hb.size, hb.trans (h3.mono hb.size)⟩
theorem conv_key : ∀ (w : World) (C : Array Value) (n c g : Nat), w.heap.size = g → (convert 22 22 (.slice (some ⟨g, 0, none⟩) n c)).run Tryd.prog (w.alloc (.cells C 5)) = .ok (.slice (some ⟨g, 0, none⟩) n c) (w.alloc (.cells C 5 (C.size, C.size + 1))) := by
  intro w C n c g hg
  subst hg
  exact Lib.run_convert_bytes_const (P := Tryd.prog) w 22 5 C n c Tryd.underlying22 Tryd.underlying5
def ck0 : CK := ⟨7, 0, 0, 0, 0, 0, 0, 0, 100, 0, 0⟩
theorem ck0_ok : ck0.ok := by constructor <;> decide
theorem built_ck0 : Tryd.prog.built 26 [(0, .int .u32 7), (8, .int .u32 100)] = some (ckA ck0) := by kernel_rfl
theorem wpList_buildCk0 {ops : Array Oper} {rest : List Oper} {o : Oper} {A : Act} {w : World} {Q : Exit → Act → World → Prop} (hg : o.guard = none) (ho : o.op = .build 26 #[(0, .const (.int .u32 7)), (8, .const (.int .u32 100))])
    (k : wpList Tryd.prog ops Q rest (A.put o.dst (.agg (ckA ck0))) w) : wpList Tryd.prog ops Q (o :: rest) A w := by
  refine wpList_build hg _ _ ho ?_ ?_
  · simp only [List.map_toArray, List.map_cons, List.map_nil, Act.eval, built_ck0]; rfl
  · simp only [List.map_toArray, List.map_cons, List.map_nil, Act.eval, built_ck0]; exact k
set_option maxRecDepth 20000 in
set_option maxHeartbeats 8000000 in
theorem first_any (w : World) (hK : Laid w) : Calls Tryd.prog 7 #[] w fun e w' => e = .returned (.bool true) ∧ Below w.heap.size w w' := by
  have kc := conv_key
  have HLD := Lib.hid hK
  have HW0 : Hid (2 ≤ w.heap.size) := hK.size
  have HMK := Lib.hid (make_key (W := w) (l := [107]) ck0_ok (by decide) hK)
  clear hK
  go_enter Tryd.func7, Tryd.ntmps7
  go_wp2_with (refine wpList_buildCk0 rfl rfl ?_)
  refine HMK.out.mono ?_
  rintro e W1 ⟨v1, rfl, ho1, hb1⟩
  obtain ⟨bb, hbb⟩ : ∃ bb, bb = sealed [107] (text ck0) := ⟨_, rfl⟩
  have hbl : bb.length = 70 := by rw [hbb]; exact sealed_length (text_length _)
  rw [← hbb] at ho1
  obtain ⟨g, c1, rfl, hg1, hg2⟩ := ho1.form (by omega)
  obtain ⟨_, c1', hv1, hc1, hc2⟩ := own_slice ho1
  cases hv1
  have hb70 : (Value.slice (some ⟨g, 0, none⟩) bb.length c1) = .slice (some ⟨g, 0, none⟩) 70 c1 := by rw [hbl]
  rw [hb70]
  rw [hbl] at hc1
  have HBY1 : Hid (Byt W1 W1.heap.size (some ⟨g, 0, none⟩) bb) := Words.Own.byt ho1
  have HB1 : Hid (Below w.heap.size w W1) := hb1
  have HBL := Lib.hid hbl
  have HA1 : Hid (openP [107] bb 700 = (ck0, 0)) := by show _ = _; rw [hbb, open_made ck0_ok]; rfl
  have HA2 : Hid (openP [107] bb 701 = (zeroCK, 91)) := by show _ = _; rw [hbb, open_made ck0_ok]; rfl
  have HA3 : Hid (openP [107] (bb.drop 1) 700 = (zeroCK, 40)) := open_short (by rw [List.length_drop]; omega)
  clear ho1 hb1 hbb hbl hb70 hg1 hg2 HMK
  go_wp2_with fail
  have HCW2 : Hid (Calls Tryd.prog 9 #[.slice (some ⟨W1.heap.size, 0, none⟩) 1 1, .slice (some ⟨g, 0, none⟩) 70 c1, .int .u32 (700)] (keyW W1 [107]) fun e w' => e = .returned (.tuple #[.agg (ckA ck0), .int .i64 0]) ∧ Below W1.heap.size W1 w') := by
    have := open_key (W := W1) (l := [107]) (b := bb) (A := (some ⟨g, 0, none⟩)) (n := 70) (c := c1) (now := 700) (by decide) HBL.out.symm (by omega) HBY1.out (HLD.out.below HB1.out HW0.out)
    unfold OpenDone at this
    rw [HA1.out] at this
    exact this
  (try go_wp2_with fail)
  refine HCW2.out.mono ?_
  rintro e W2 ⟨rfl, hbW2⟩
  obtain ⟨G1, hG1⟩ : ∃ G, G = W2.heap.size := ⟨_, rfl⟩
  obtain ⟨W3, hW3⟩ : ∃ W, W = putCk W2 ck0 := ⟨_, rfl⟩
  have hbp : Below W2.heap.size W2 W3 := by rw [hW3]; exact putCk_below _ _
  have HKG1 : Hid (Blk W3 G1 26 (ckA ck0)) := by show Blk _ _ _ _; rw [hW3, hG1]; exact putCk_blk _ _
  have HBW3 : Hid (Below W1.heap.size W1 W3) := hbW2.trans (hbp.mono hbW2.size)
  have HWW3 := Lib.hid hW3
  have HEG1 := Lib.hid hG1
  clear hbW2 hbp hW3 hG1 HCW2
  go_wp2_with (first
    | (with_reducible refine wpList_allocCk rfl rfl ?_)
    | (refine wpList_storeCk rfl _ _ rfl (c := ck0) rfl rfl ?_; rw [← HWW3.out, ← HEG1.out]))
  try rw [← HWW3.out, ← HEG1.out]
  try rw [← HEG1.out]
  clear HWW3 HEG1
  have HB3 : Hid (Below w.heap.size w W3) := HB1.out.trans (HBW3.out.mono HB1.out.size)
  have HBY3 : Hid (Byt W3 W3.heap.size (some ⟨g, 0, none⟩) bb) := (HBY1.out.below HBW3.out).more HBW3.out.size
  have HCW4 : Hid (Calls Tryd.prog 9 #[.slice (some ⟨W3.heap.size, 0, none⟩) 1 1, .slice (some ⟨g, 0, none⟩) 70 c1, .int .u32 (701)] (keyW W3 [107]) fun e w' => e = .returned (.tuple #[.agg (ckA zeroCK), .int .i64 91]) ∧ Below W3.heap.size W3 w') := by
    have := open_key (W := W3) (l := [107]) (b := bb) (A := (some ⟨g, 0, none⟩)) (n := 70) (c := c1) (now := 701) (by decide) HBL.out.symm (by omega) HBY3.out (HLD.out.below HB3.out HW0.out)
    unfold OpenDone at this
    rw [HA2.out] at this
    exact this
  (try go_wp2_with fail)
  refine HCW4.out.mono ?_
  rintro e W4 ⟨rfl, hbW4⟩
  obtain ⟨G2, hG2⟩ : ∃ G, G = W4.heap.size := ⟨_, rfl⟩
  obtain ⟨W5, hW5⟩ : ∃ W, W = putCk W4 zeroCK := ⟨_, rfl⟩
  have hbp : Below W4.heap.size W4 W5 := by rw [hW5]; exact putCk_below _ _
  have HKG2 : Hid (Blk W5 G2 26 (ckA zeroCK)) := by show Blk _ _ _ _; rw [hW5, hG2]; exact putCk_blk _ _
  have HBW5 : Hid (Below W3.heap.size W3 W5) := hbW4.trans (hbp.mono hbW4.size)
  have HWW5 := Lib.hid hW5
  have HEG2 := Lib.hid hG2
  clear hbW4 hbp hW5 hG2 HCW4
  go_wp2_with (first
    | (with_reducible refine wpList_allocCk rfl rfl ?_)
    | (refine wpList_storeCk rfl _ _ rfl (c := zeroCK) rfl rfl ?_; rw [← HWW5.out, ← HEG2.out]))
  try rw [← HWW5.out, ← HEG2.out]
  try rw [← HEG2.out]
  clear HWW5 HEG2
  have HB5 : Hid (Below w.heap.size w W5) := HB3.out.trans (HBW5.out.mono HB3.out.size)
  have HBY5 : Hid (Byt W5 W5.heap.size (some ⟨g, 0, none⟩) bb) := (HBY3.out.below HBW5.out).more HBW5.out.size
  have HBY6 : Hid (Byt W5 W5.heap.size (some ⟨g, 1, none⟩) (bb.drop 1)) := HBY5.out.cut_lit (k := 1) (by rw [HBL.out]; omega) (by omega)
  have HCW6 : Hid (Calls Tryd.prog 9 #[.slice (some ⟨W5.heap.size, 0, none⟩) 1 1, .slice (some ⟨g, 1, none⟩) 69 (c1 - 1), .int .u32 (700)] (keyW W5 [107]) fun e w' => e = .returned (.tuple #[.agg (ckA zeroCK), .int .i64 40]) ∧ Below W5.heap.size W5 w') := by
    have := open_key (W := W5) (l := [107]) (b := (bb.drop 1)) (A := (some ⟨g, 1, none⟩)) (n := 69) (c := (c1 - 1)) (now := 700) (by decide) (by rw [List.length_drop, HBL.out]) (by omega) HBY6.out (HLD.out.below HB5.out HW0.out)
    unfold OpenDone at this
    rw [HA3.out] at this
    exact this
  (try go_wp2_with fail)
  refine HCW6.out.mono ?_
  rintro e W6 ⟨rfl, hbW6⟩
  obtain ⟨G3, hG3⟩ : ∃ G, G = W6.heap.size := ⟨_, rfl⟩
  obtain ⟨W7, hW7⟩ : ∃ W, W = putCk W6 zeroCK := ⟨_, rfl⟩
  have hbp : Below W6.heap.size W6 W7 := by rw [hW7]; exact putCk_below _ _
  have HKG3 : Hid (Blk W7 G3 26 (ckA zeroCK)) := by show Blk _ _ _ _; rw [hW7, hG3]; exact putCk_blk _ _
  have HBW7 : Hid (Below W5.heap.size W5 W7) := hbW6.trans (hbp.mono hbW6.size)
  have HWW7 := Lib.hid hW7
  have HEG3 := Lib.hid hG3
  clear hbW6 hbp hW7 hG3 HCW6
  have c0 : W7.cell? ⟨G1, 0, none⟩ = some (.int .u32 7) := ((HKG1.out.below HBW5.out HKG1.out.lt).below HBW7.out (by have := HKG1.out.lt; have := HBW5.out.size; omega)).cell 0
  go_wp2_with (first
    | (with_reducible refine wpList_allocCk rfl rfl ?_)
    | (refine wpList_storeCk rfl _ _ rfl (c := zeroCK) rfl rfl ?_; rw [← HWW7.out, ← HEG3.out]))
  try rw [← HWW7.out, ← HEG3.out]
  try rw [← HEG3.out]
  clear HWW7 HEG3
  have HB7 : Hid (Below w.heap.size w W7) := HB5.out.trans (HBW7.out.mono HB5.out.size)
  (try go_wp2_with fail)
  go_ret
  exact ⟨rfl, HB7.out⟩
end Go.Proofs.YtmbgjijajakgeaaDoor.Cok
