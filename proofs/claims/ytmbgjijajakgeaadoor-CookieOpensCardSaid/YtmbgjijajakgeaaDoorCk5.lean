/-
  Package cookie: Make, Open.
-/
import Derived.Test.YtmbgjijajakgeaaDoorCk4
import Derived.Test.YtmbgjijajakgeaaDoorSer
import Derived.Test.YtmbgjijajakgeaaDoorMacR4
set_option linter.unusedVariables false
set_option linter.unusedSimpArgs false
namespace Go.Proofs.YtmbgjijajakgeaaDoor.Cok
open Go.ChangeShapes Go.WideShapes Go.ChangeAt Go.RowKit Go.Proofs.YtmbgjijajakgeaaDoor.Words Go.Proofs.YtmbgjijajakgeaaDoor.Oct Go.Proofs.YtmbgjijajakgeaaDoor.Sha

theorem take38 {l : List UInt8} {k n : Nat} (h : k + n ≤ 38) : ((l.take 38).drop k).take n = (l.drop k).take n := by
  rw [List.drop_take, List.take_take, Nat.min_eq_left (by omega)]
theorem getC_take (l : List UInt8) : getC (l.take 38) = getC l := by
  unfold getC
  rw [List.take_take, take38 (by omega), take38 (by omega), take38 (by omega), take38 (by omega), take38 (by omega), take38 (by omega), take38 (by omega), take38 (by omega), take38 (by omega), take38 (by omega)]
  rfl
theorem getD_take (l : List UInt8) : (l.take 38).getD 25 0 = l.getD 25 0 := by
  rw [List.getD_eq_getElem?_getD, List.getD_eq_getElem?_getD, List.getElem?_take, if_pos (by omega)]
theorem res_ck' {fn : Func} {p u : Tmp} (h : fn.results = #[.cell p 26, .tmp u]) (tmps : Array Value) (w : World) (g : Nat) (c : CK) (hp : tmps.getD p undef = .pointer (some ⟨g, 0, none⟩)) (hb : Blk w g 26 (ckA c)) :
    (results fn tmps).run Tryd.prog w = .ok (.tuple #[.agg (ckA c), tmps.getD u undef]) w := res_ck h tmps w g c hp hb
theorem PtV.own {w : World} {B : Nat} {v : Value} {l : List UInt8} (h : Words.Own w B v l) : PtV w w.heap.size v l := ptv_of_own h rfl
theorem own_below {w w' : World} {B : Nat} {v : Value} {l : List UInt8} (h : Words.Own w B v l) (hb : Below w.heap.size w w') : Words.Own w' B v l :=
  (Fr.of_below hb).own h (fun g hg hi => by have := (h.lt g hg).2; omega)
set_option maxRecDepth 20000 in
set_option maxHeartbeats 4000000 in
theorem make_any {vk : Value} {kb : List UInt8} {c : CK} {w : World} (hc : c.ok) (hk : PtV w w.heap.size vk kb) (hkl : kb.length ≤ 1000) (hK : Laid w) :
    Calls Tryd.prog 8 #[vk, .agg (ckA c)] w fun e w' => ∃ v, e = .returned v ∧ Words.Own w' w.heap.size v (sealed kb (text c)) ∧ Below w.heap.size w w' := by
  obtain ⟨i0, hi0, hz0, hz1, hz2⟩ := info_parts3 u8_info
  obtain ⟨N, hN⟩ : ∃ N, N = w.heap.size := ⟨_, rfl⟩
  obtain ⟨W1, hW1⟩ : ∃ W, W = w.alloc (.cells (ckA c) 26) := ⟨_, rfl⟩
  have hb1 : Below w.heap.size w W1 := by rw [hW1]; exact below_new w _
  have HB1 : Hid (Below w.heap.size w W1) := hb1
  have HBK : Hid (Blk W1 N 26 (ckA c)) := by show Blk _ _ _ _; rw [hW1, hN]; exact Blk.new w _ _
  have HKK := Lib.hid hk
  have HKL := Lib.hid hkl
  have HLD := Lib.hid hK
  have HW0 : Hid (2 ≤ w.heap.size) := hK.size
  have HWR := Lib.hid (written_any hc W1)
  have HB1z : Hid (w.heap.size ≤ W1.heap.size) := hb1.size
  have HN := Lib.hid hN
  have HW1 := Lib.hid hW1
  clear hk hkl hK hb1 hN hW1 hc
  obtain ⟨AK, nK, cK, rfl, _, _, _, _⟩ := HKK.out
  rename_i hx1 hx2 hx3 hx4
  clear hx1 hx2 hx3 hx4
  go_enter Tryd.func8, Tryd.ntmps8
  go_upto_region 1 with (fail)
  rw [← HW1.out, ← HN.out]
  clear HW1
  go_wp2_with (refine wpList_load_row rfl 26 _ rfl N rfl 26 (ckA c) (0, 0) _ HBK.out Tryd.underlying26 rfl (ck_size _) ?_)
  refine HWR.out.mono ?_
  rintro e W2 ⟨v5, rfl, ho, hb2⟩
  obtain ⟨t, ht⟩ : ∃ t, t = text c := ⟨_, rfl⟩
  rw [← ht] at ho
  have HTT := Lib.hid ht
  have htl : t.length = 38 := by rw [ht]; exact text_length c
  have HTL := Lib.hid htl
  have HO2 := Lib.hid ho
  have HB2 : Hid (Below w.heap.size w W2) := HB1.out.trans (hb2.mono HB1.out.size)
  obtain ⟨A5, c5, hv5, hc51, hc52⟩ := own_slice ho
  rw [htl] at hv5
  subst hv5
  have HSE : Hid (Calls Tryd.prog 14 #[.slice AK nK cK, .slice (some ⟨W2.heap.size, 0, none⟩) 1 1] (W2.alloc (.cells #[.slice A5 38 c5] 22)) fun e w' => e = .returned (.agg (V (seal_ kb t))) ∧ Below W2.heap.size W2 w') := by
    show Calls _ _ _ _ _
    have := seal_new (t := 22) (n := 1) (c := 1) (xs := [.slice A5 38 c5]) (ls := [t]) (HKK.out.grow HB2.out) ⟨PtV.own HO2.out, trivial⟩ rfl (by have := HKL.out; simp [HTL.out]; omega) (HLD.out.below HB2.out HW0.out)
    rw [show [t].flatten = t by simp] at this
    exact this
  clear ht ho hb2 htl HWR HBK hc51 hc52 HB1
  go_wp2_with fail
  refine HSE.out.mono ?_
  rintro e W3 ⟨rfl, hb3⟩
  obtain ⟨s, hs⟩ : ∃ s, s = seal_ kb t := ⟨_, rfl⟩
  rw [← hs]
  have HSL : Hid (s.length = 32) := by show s.length = 32; rw [hs]; exact seal_length _ _
  obtain ⟨W4, hW4⟩ : ∃ W4, W4 = put32 W3 s := ⟨_, rfl⟩
  obtain ⟨G, hG⟩ : ∃ G, G = W3.heap.size := ⟨_, rfl⟩
  have hb4 : Below W3.heap.size W3 W4 := by rw [hW4]; exact put32_below _ _
  have HG4 : Hid (Blk W4 G 41 (V s)) := by show Blk _ _ _ _; rw [hW4, hG]; exact put32_blk _ _
  have hb24 : Below W2.heap.size W2 W4 := hb3.trans (hb4.mono hb3.size)
  have HO4 : Hid (W4.ownsRow w.heap.size 5 1 (.slice A5 38 c5) 38 (u8s t)) := by
    have h1 := own_mono (own_below HO2.out hb24) (B' := w.heap.size) HB1z.out
    unfold Words.Own at h1
    rw [HTL.out] at h1
    exact h1
  have HB4 : Hid (Below w.heap.size w W4) := HB2.out.trans (hb24.mono HB2.out.size)
  have HR4 : Hid (Reads W4 W4.heap.size 1 (some ⟨G, 0, none⟩) 32 (u8s s)) := by
    have := HG4.out.byt (l := s) HG4.out.lt (by rw [List.take_of_length_le (by simp [V, u8s_length])]; rfl)
    unfold Byt at this
    rw [HSL.out] at this
    exact this
  have HSS := Lib.hid hs
  have HW4 := Lib.hid hW4
  have HGG := Lib.hid hG
  have HWZ : Hid (w.heap.size ≤ W4.heap.size) := HB4.out.size
  clear hb3 hb4 hb24 hs hW4 hG HSE HO2 HB2
  go_upto_region 3 with (first
    | (with_reducible refine wpList_alloc32 rfl rfl ?_)
    | (refine wpList_store32 rfl _ _ rfl HSL.out rfl rfl ?_; rw [← HW4.out, ← HGG.out]))
  try rw [← HW4.out, ← HGG.out]
  clear HW4 HGG
  have hsl := fun W => slice_all32 G W
  go_wp2_with (at_builtin; refine wpList_append_any _ rfl (.tmp 13) (.tmp 14) _ rfl w.heap.size 5 i0 _ 1 1 Tryd.underlying22 hi0 hz0 hz1 hz2 rfl (by omega) (.slice A5 38 c5) 38 (u8s t) rfl HO4.out W4.heap.size (some ⟨G, 0, none⟩) 32 32 (u8s s) rfl HR4.out (u8s_one s) (by simp only [maxLen]; omega) (by omega) HWZ.out ?_)
  intro v' W5 hown hg5 _
  have HO5 := Lib.hid hown
  have HB5 : Hid (Below w.heap.size w W5) := HB4.out.grown hg5 HWZ.out (fun k e => (HO4.out.lt k e).1)
  clear hown hg5
  go_wp2_with fail
  go_ret
  refine ⟨v', rfl, ?_, HB5.out⟩
  unfold Words.Own
  rw [← HTT.out, sealed, List.length_append, u8s_append, ← HSS.out, HTL.out, HSL.out]
  exact HO5.out
end Go.Proofs.YtmbgjijajakgeaaDoor.Cok
