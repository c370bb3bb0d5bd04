/-
  Ck10, Ck11, Ck12, in one text.
-/
import Derived.Test.YtmbgjijajakgeaaDoorCk9
import Derived.Test.YtmbgjijajakgeaaDoorOctRef
set_option linter.unusedVariables false
set_option linter.unusedSimpArgs false

namespace Go.Proofs.YtmbgjijajakgeaaDoor.Cok
open Go.ChangeShapes Go.WideShapes Go.ChangeAt Go.RowKit Go.Deep Go.Proofs.YtmbgjijajakgeaaDoor.Words Go.Proofs.YtmbgjijajakgeaaDoor.Oct Go.Proofs.YtmbgjijajakgeaaDoor.Sha

/-- A row of bytes of the call's own, from block B on. -/
theorem own_add {B : Nat} {l x : List UInt8} {v : Value} {W : World} {Bx m c : Nat} {A : Option Addr} (h : Words.Own W B v l) (hB : B ≤ W.heap.size) (hm : m = x.length) (hr : Byt W Bx A x) (hl : l.length + x.length ≤ 100000) (ty : TypeId) :
    ∃ v' w', (Builtin.append_ #[22, 22] ty #[v, .slice A m c]).run Tryd.prog W = .ok v' w' ∧ Words.Own w' B v' (l ++ x) ∧ Below B W w' ∧ Fr (fun k => some k = v.ownBlock) W w' := by
  obtain ⟨v', w', h1, h2, h3, h4⟩ := TwoR.add (B := B) (l1 := l) (l2 := []) (v1 := v) (v2 := .slice none 0 0) (c := c) ⟨h, World.ownsRow_nil _ _ _ _, fun g e => by simp [Value.ownBlock], hB⟩ hm hr hl ty
  exact ⟨v', w', h1, h2.o1, h3, h4⟩
/-- Where Words stands: the list so far, the words that are gone through. -/
structure WdSt (B : Nat) (W : World) (G : Nat) (ws : List Nat) (wr : World) (v : Value) (l : List UInt8) : Prop where
  own : Words.Own wr B v l
  wds : Blk wr G 23 (Sha.U ws)
  below : Below B W wr
  le : B ≤ wr.heap.size
theorem WdSt.grows {B G : Nat} {W wr w' : World} {ws : List Nat} {v : Value} {l : List UInt8} (h : WdSt B W G ws wr v l) (hb : Below wr.heap.size wr w') : WdSt B W G ws w' v l :=
  ⟨own_below h.own hb, h.wds.below hb h.wds.lt, h.below.trans (hb.mono h.le), Nat.le_trans h.le hb.size⟩
theorem WdSt.words {B G G' : Nat} {W wr : World} {ws ws' : List Nat} {v : Value} {l : List UInt8} (h : WdSt B W G ws wr v l) (hg : Blk wr G' 23 (Sha.U ws')) : WdSt B W G' ws' wr v l := ⟨h.own, hg, h.below, h.le⟩
theorem WdSt.add {B G : Nat} {W wr : World} {ws : List Nat} {v : Value} {l x : List UInt8} {Bx m c : Nat} {A : Option Addr} (h : WdSt B W G ws wr v l) (hm : m = x.length) (hr : Byt wr Bx A x) (hl : l.length + x.length ≤ 100000) (ty : TypeId) :
    ∃ v' w', (Builtin.append_ #[22, 22] ty #[v, .slice A m c]).run Tryd.prog wr = .ok v' w' ∧ WdSt B W G ws w' v' (l ++ x) := by
  obtain ⟨v', w', h1, h2, h3, h4⟩ := own_add (c := c) h.own h.le hm hr hl ty
  exact ⟨v', w', h1, h2, h4.blk h.wds (fun e => own_blk_ne h.own h.wds (by decide) e.symm), h.below.trans h3, Nat.le_trans h.le h3.size⟩
set_option maxRecDepth 20000 in
set_option maxHeartbeats 8000000 in
theorem rwords_any {c : CK} (hc : c.ok) (w : World) :
    Calls Tryd.prog 11 #[.agg (ckA c)] w fun e w' => ∃ v, e = .returned v ∧ Words.Own w' w.heap.size v (text c) ∧ Below w.heap.size w w' := by
  obtain ⟨N, hN⟩ : ∃ N, N = w.heap.size := ⟨_, rfl⟩
  obtain ⟨tag, peer, tsn, ptsn, win, out, inn, feat, made, tt, tp⟩ := c
  obtain ⟨h1, h2, h3, h4, h5, h6, h7, h8, h9, h10, h11⟩ := hc
  simp only at h1 h2 h3 h4 h5 h6 h7 h8 h9 h10 h11
  obtain ⟨W0, hW0⟩ : ∃ W, W = w.alloc (.cells (ckA ⟨tag, peer, tsn, ptsn, win, out, inn, feat, made, tt, tp⟩) 26) := ⟨_, rfl⟩
  have HBK : Hid (∀ V, Below (N + 1) W0 V → Blk V N 26 (ckA ⟨tag, peer, tsn, ptsn, win, out, inn, feat, made, tt, tp⟩)) := fun V hV => by
    have : Blk W0 N 26 (ckA ⟨tag, peer, tsn, ptsn, win, out, inn, feat, made, tt, tp⟩) := by rw [hW0, hN]; exact Blk.new w _ _
    exact this.below hV (by omega)
  have hs0 : W0.heap.size = N + 1 := by rw [hW0, hN]; simp
  have HB0 : Hid (Below w.heap.size w W0) := by show Below _ _ _; rw [hW0]; exact below_new w _
  have HS0 := Lib.hid hs0
  have HN := Lib.hid hN
  have HW0 := Lib.hid hW0
  have HBK0 := HBK.out W0 (Below.refl _ _)
  unfold ckA at HW0 HBK0
  have c0 : W0.cell? ⟨N, 0, none⟩ = some (.int .u32 (tag : Int)) := HBK0.cell 0
  have c1 : W0.cell? ⟨N, 1, none⟩ = some (.int .u32 (peer : Int)) := HBK0.cell 1
  have c2 : W0.cell? ⟨N, 2, none⟩ = some (.int .u32 (tsn : Int)) := HBK0.cell 2
  have c3 : W0.cell? ⟨N, 3, none⟩ = some (.int .u32 (ptsn : Int)) := HBK0.cell 3
  have c4 : W0.cell? ⟨N, 4, none⟩ = some (.int .u32 (win : Int)) := HBK0.cell 4
  clear hW0 hN hs0 HBK0
  obtain ⟨ws, hws⟩ : ∃ ws : List Nat, ws = [tag, peer, tsn, ptsn, win] := ⟨_, rfl⟩
  have HWS : Hid (ws.length = 5 ∧ (∀ x ∈ ws, x < 4294967296)) := by
    refine ⟨by rw [hws]; rfl, fun x hx => ?_⟩
    rw [hws] at hx
    simp only [List.mem_cons, List.not_mem_nil, or_false] at hx
    rcases hx with rfl | rfl | rfl | rfl | rfl <;> assumption
  obtain ⟨W1, hW1⟩ : ∃ W, W = W0.alloc (.cells (Sha.U ws) 23) := ⟨_, rfl⟩
  have HG1 : Hid (Blk W1 (N + 1) 23 (Sha.U ws)) := by show Blk _ _ _ _; rw [hW1, ← HS0.out]; exact Blk.new W0 _ _
  have HB1 : Hid (Below (N + 1) W0 W1) := by show Below _ _ _; rw [hW1, ← HS0.out]; exact below_new W0 _
  have HZ1 : Hid (W1.heap.size = N + 2) := by show _ = _; rw [hW1]; simp [HS0.out]
  have HW1 : Hid (W1 = W0.alloc (.cells #[.int .u32 (tag : Int), .int .u32 (peer : Int), .int .u32 (tsn : Int), .int .u32 (ptsn : Int), .int .u32 (win : Int)] 23)) := by show _ = _; rw [hW1, hws]; rfl
  have HWW := Lib.hid hws
  clear hW1 hws
  unfold ckA
  go_enter Tryd.func11, Tryd.ntmps11
  go_upto_region 2 with (fail)
  rw [← HW0.out, ← HN.out]
  clear HW0
  go_upto_block 0 with (fail)
  rw [← HW1.out, HS0.out]
  clear HW1 c0 c1 c2 c3 c4
  have HST1 : Hid (WdSt (N + 2) W1 (N + 1) ws W1 (.slice none 0 0) []) := ⟨World.ownsRow_nil _ _ _ _, HG1.out, Below.refl _ _, by rw [HZ1.out]; exact Nat.le_refl _⟩
  have HCK : Hid (∀ V v' G' ws' l', WdSt (N + 2) W1 G' ws' V v' l' → Blk V N 26 (ckA ⟨tag, peer, tsn, ptsn, win, out, inn, feat, made, tt, tp⟩)) := fun V v' G' ws' l' h => HBK.out V (HB1.out.trans (h.below.mono (by omega)))
  unfold ckA at HCK
  have HB01 : Hid (Below (N + 1) W0 W1) := HB1
  clear HBK HB1 HG1
  go_cut [3, 5, 20] from 20 to 29 (fun v _ _ wx => Hid (WdSt (N + 2) W1 (N + 1) ws wx v (bes ws)))
  case first => as_aux_lemma =>
    go_wp2
    go_loopw [3, 20] (fun v i wr => ∃ j : Nat, j ≤ 5 ∧ i = .int .i64 (j : Int) ∧ Hid (WdSt (N + 2) W1 (N + 1) ws wr v (bes (ws.take j)))) (fun _ i _ => 5 - (intOf i).toNat)
    case atStart => exact ⟨0, Nat.zero_le _, rfl, HST1⟩
    case round =>
      obtain ⟨j, hj, rfl, hs⟩ := hrel
      by_cases hlt : j < 5
      · have hjl : j < ws.length := by rw [HWS.out.1]; exact hlt
        have c1 := hs.out.wds.cell j
        rw [Sha.U_at hjl] at c1
        have hbt := bes_take (ws := ws) hjl
        have hxl : ws.getD j 0 < 4294967296 := by
          rw [List.getD_eq_getElem?_getD, List.getElem?_eq_getElem hjl]
          exact HWS.out.2 _ (List.getElem_mem _)
        obtain ⟨x, hx⟩ : ∃ x, x = ws.getD j 0 := ⟨_, rfl⟩
        rw [← hx] at c1 hbt hxl
        have HBT := Lib.hid hbt
        have HTX := Lib.hid (text_any x 4 (by omega) (by omega) wr)
        have hbl : (bes (ws.take j)).length ≤ 80 := by rw [bes_length, List.length_take]; omega
        have HLL := Lib.hid hbl
        clear hbt hx hjl hbl
        go_wp2_with fail
        refine HTX.out.mono ?_
        rintro e W2 ⟨⟨u, rfl, hu⟩, hb2⟩
        obtain ⟨A2, c2, rfl, _, _⟩ := own_slice hu
        rw [be_length]
        obtain ⟨v', W3, hrun, hst⟩ := (hs.out.grows hb2).add (m := 4) (c := c2) (x := be x 4) (be_length _ _).symm (Words.Own.byt hu) (by rw [be_length]; have := HLL.out; omega) 22
        have HRUN := Lib.hid hrun
        have HE : Hid (WdSt (N + 2) W1 (N + 1) ws W3 v' (bes (ws.take (j + 1)))) := by show WdSt _ _ _ _ _ _ _; rw [HBT.out]; exact hst
        clear hu hb2 hrun hst hs c1
        go_wp2_with (at_builtin; refine Lib.wpList_append_run _ rfl (.tmp 24) (.tmp 27) _ _ rfl _ _ rfl rfl v' W3 HRUN.out ?_)
        go_roundw
        case rel => exact ⟨j + 1, by omega, by go_num, HE⟩
        case measure => simp [intOf]; omega
      · obtain rfl : j = 5 := by omega
        have hsx := hs.out
        rw [List.take_of_length_le (by rw [HWS.out.1]; exact Nat.le_refl _)] at hsx
        have HE := Lib.hid hsx
        clear hs hsx
        go_wp2
        go_meet
        exact HE
  case rest =>
    obtain ⟨v3, W3, HS3, hv3, hw3⟩ : ∃ v W, Hid (WdSt (N + 2) W1 (N + 1) ws W v (bes ws)) ∧ v = u3 ∧ W = wc := ⟨u3, wc, hcut, rfl, rfl⟩
    rw [← hv3, ← hw3]
    clear hcut hv3 hw3 HST1
    have c5 : W3.cell? ⟨N, 5, none⟩ = some (.int .u16 (out : Int)) := (HCK.out W3 _ _ _ _ HS3.out).cell 5
    have HTX := Lib.hid (text_any out 2 (by omega) (by omega) W3)
    go_wp2_with fail
    refine HTX.out.mono ?_
    rintro e U3 ⟨⟨u, rfl, hu⟩, hb⟩
    obtain ⟨A2, c2, rfl, _, _⟩ := own_slice hu
    rw [be_length]
    obtain ⟨v4, W4, hrun, hst⟩ := (HS3.out.grows hb).add (m := 2) (c := c2) (x := be out 2) (be_length _ _).symm (Words.Own.byt hu) (by rw [be_length]; simp [bes_length, be_length, HWS.out.1]) 22
    have HRUN3 := Lib.hid hrun
    have HS4 := Lib.hid hst
    clear hu hb hrun hst c5 HTX
    go_upto_region 8 with (at_builtin; refine Lib.wpList_append_run _ rfl (.tmp 30) (.tmp 34) _ _ rfl _ _ rfl rfl v4 W4 HRUN3.out ?_)
    clear HRUN3
    have c6 : W4.cell? ⟨N, 6, none⟩ = some (.int .u16 (inn : Int)) := (HCK.out W4 _ _ _ _ HS4.out).cell 6
    have HTX := Lib.hid (text_any inn 2 (by omega) (by omega) W4)
    go_wp2_with fail
    refine HTX.out.mono ?_
    rintro e U4 ⟨⟨u, rfl, hu⟩, hb⟩
    obtain ⟨A2, c2, rfl, _, _⟩ := own_slice hu
    rw [be_length]
    obtain ⟨v5, W5, hrun, hst⟩ := (HS4.out.grows hb).add (m := 2) (c := c2) (x := be inn 2) (be_length _ _).symm (Words.Own.byt hu) (by rw [be_length]; simp [bes_length, be_length, HWS.out.1]) 22
    have HRUN4 := Lib.hid hrun
    have HS5 := Lib.hid hst
    clear hu hb hrun hst c6 HTX
    go_upto_region 9 with (at_builtin; refine Lib.wpList_append_run _ rfl (.tmp 36) (.tmp 40) _ _ rfl _ _ rfl rfl v5 W5 HRUN4.out ?_)
    clear HRUN4
    have c7 : W5.cell? ⟨N, 7, none⟩ = some (.int .u8 (feat : Int)) := (HCK.out W5 _ _ _ _ HS5.out).cell 7
    obtain ⟨x7, hx7⟩ : ∃ x, x = be feat 1 ++ be 0 1 := ⟨_, rfl⟩
    have hbl : Byt (W5.alloc (.cells #[.int .u8 (feat : Int), .int .u8 0] 5)) (W5.heap.size + 1) (some ⟨W5.heap.size, 0, none⟩) x7 := by
      refine (Blk.new W5 5 #[.int .u8 (feat : Int), .int .u8 0]).byt (by omega) ?_
      rw [hx7]
      have e1 : be feat 1 = [byteAt feat 0] := rfl
      have e2 : be 0 1 = [0] := rfl
      have e3 : ((byteAt feat 0).toNat : Int) = (feat : Int) := by rw [byteAt_nat]; simp; omega
      rw [e1, e2]
      show [Value.int .u8 (feat : Int), .int .u8 0] = [.int .u8 ((byteAt feat 0).toNat : Int), .int .u8 ((0 : UInt8).toNat : Int)]
      rw [e3]
      rfl
    have hx2 : x7.length = 2 := by rw [hx7]; rfl
    obtain ⟨v6, W6, hrun, hst⟩ := (HS5.out.grows (below_new W5 (.cells #[.int .u8 (feat : Int), .int .u8 0] 5))).add (m := 2) (c := 2) (x := x7) hx2.symm hbl (by rw [hx2]; simp [bes_length, be_length, HWS.out.1]) 22
    have HRUN5 := Lib.hid hrun
    rw [hx7] at hst
    have HS6 := Lib.hid hst
    clear hrun hst hbl hx2 hx7
    go_upto_region 10 with (at_builtin; refine Lib.wpList_append_run _ rfl (.tmp 42) (.tmp 45) _ _ rfl _ _ rfl rfl v6 W6 HRUN5.out ?_)
    clear HRUN5 c7
    have hck6 := HCK.out W6 _ _ _ _ HS6.out
    have c8 : W6.cell? ⟨N, 8, none⟩ = some (.int .u32 (made : Int)) := hck6.cell 8
    have c9 : W6.cell? ⟨N, 9, none⟩ = some (.int .u32 (tt : Int)) := hck6.cell 9
    have c10 : W6.cell? ⟨N, 10, none⟩ = some (.int .u32 (tp : Int)) := hck6.cell 10
    clear hck6
    obtain ⟨ws2, hws2⟩ : ∃ ws : List Nat, ws = [made, tt, tp] := ⟨_, rfl⟩
    have HWS2 : Hid (ws2.length = 3 ∧ (∀ x ∈ ws2, x < 4294967296)) := by
      refine ⟨by rw [hws2]; rfl, fun x hx => ?_⟩
      rw [hws2] at hx
      simp only [List.mem_cons, List.not_mem_nil, or_false] at hx
      rcases hx with rfl | rfl | rfl <;> assumption
    obtain ⟨W7, hW7⟩ : ∃ W, W = W6.alloc (.cells (Sha.U ws2) 23) := ⟨_, rfl⟩
    obtain ⟨G7, hG7⟩ : ∃ G, G = W6.heap.size := ⟨_, rfl⟩
    obtain ⟨l6, hl6⟩ : ∃ l, l = bes ws ++ be out 2 ++ be inn 2 ++ (be feat 1 ++ be 0 1) := ⟨_, rfl⟩
    have HL6 : Hid (l6.length = 26 ∧ l6 ++ bes ws2 = text ⟨tag, peer, tsn, ptsn, win, out, inn, feat, made, tt, tp⟩) := by
      refine ⟨by rw [hl6]; simp [bes_length, be_length, HWS.out.1], ?_⟩
      rw [hl6, hws2, HWW.out]
      simp [text]
    have HS7 : Hid (WdSt (N + 2) W1 G7 ws2 W7 v6 l6) := by
      have h1 := HS6.out.grows (below_new W6 (.cells (Sha.U ws2) 23))
      rw [← hW7] at h1
      show WdSt _ _ _ _ _ _ _
      rw [hl6]
      exact h1.words (by rw [hW7, hG7]; exact Blk.new W6 _ _)
    have HW7 : Hid (W7 = W6.alloc (.cells #[.int .u32 (made : Int), .int .u32 (tt : Int), .int .u32 (tp : Int)] 23)) := by show _ = _; rw [hW7, hws2]; rfl
    have HG7 := Lib.hid hG7
    clear hW7 hG7 hws2 hl6 HS6
    go_upto_block 2 with (fail)
    rw [← HW7.out, ← HG7.out]
    clear HW7 HG7 c8 c9 c10
    go_cut [3, 7, 55] from 55 to 64 (fun v _ _ wx => Hid (WdSt (N + 2) W1 G7 ws2 wx v (text ⟨tag, peer, tsn, ptsn, win, out, inn, feat, made, tt, tp⟩)))
    case first => as_aux_lemma =>
      go_wp2
      go_loopw [3, 55] (fun v i wr => ∃ j : Nat, j ≤ 3 ∧ i = .int .i64 (j : Int) ∧ Hid (WdSt (N + 2) W1 G7 ws2 wr v (l6 ++ bes (ws2.take j)))) (fun _ i _ => 3 - (intOf i).toNat)
      case atStart => exact ⟨0, Nat.zero_le _, rfl, by have := HS7.out; show WdSt _ _ _ _ _ _ _; rw [List.take_zero, show bes [] = [] by rfl, List.append_nil]; exact this⟩
      case round =>
        obtain ⟨j, hj, rfl, hs⟩ := hrel
        by_cases hlt : j < 3
        · have hjl : j < ws2.length := by rw [HWS2.out.1]; exact hlt
          have c1 := hs.out.wds.cell j
          rw [Sha.U_at hjl] at c1
          have hbt := bes_take (ws := ws2) hjl
          have hxl : ws2.getD j 0 < 4294967296 := by
            rw [List.getD_eq_getElem?_getD, List.getElem?_eq_getElem hjl]
            exact HWS2.out.2 _ (List.getElem_mem _)
          obtain ⟨x, hx⟩ : ∃ x, x = ws2.getD j 0 := ⟨_, rfl⟩
          rw [← hx] at c1 hbt hxl
          have HBT := Lib.hid hbt
          have HTX := Lib.hid (text_any x 4 (by omega) (by omega) wr)
          have hbl : (l6 ++ bes (ws2.take j)).length ≤ 80 := by rw [List.length_append, bes_length, List.length_take, HL6.out.1]; omega
          have HLL := Lib.hid hbl
          clear hbt hx hjl hbl
          go_wp2_with fail
          refine HTX.out.mono ?_
          rintro e W2 ⟨⟨u, rfl, hu⟩, hb2⟩
          obtain ⟨A2, c2, rfl, _, _⟩ := own_slice hu
          rw [be_length]
          obtain ⟨v', W3, hrun, hst⟩ := (hs.out.grows hb2).add (m := 4) (c := c2) (x := be x 4) (be_length _ _).symm (Words.Own.byt hu) (by rw [be_length]; have := HLL.out; omega) 22
          have HRUN := Lib.hid hrun
          have HE : Hid (WdSt (N + 2) W1 G7 ws2 W3 v' (l6 ++ bes (ws2.take (j + 1)))) := by show WdSt _ _ _ _ _ _ _; rw [HBT.out, ← List.append_assoc]; exact hst
          clear hu hb2 hrun hst hs c1
          go_wp2_with (at_builtin; refine Lib.wpList_append_run _ rfl (.tmp 59) (.tmp 62) _ _ rfl _ _ rfl rfl v' W3 HRUN.out ?_)
          go_roundw
          case rel => exact ⟨j + 1, by omega, by go_num, HE⟩
          case measure => simp [intOf]; omega
        · obtain rfl : j = 3 := by omega
          have hsx := hs.out
          rw [List.take_of_length_le (by rw [HWS2.out.1]; exact Nat.le_refl _), HL6.out.2] at hsx
          have HE := Lib.hid hsx
          clear hs hsx
          go_wp2
          go_meet
          exact HE
    case rest =>
      have HF := Lib.hid hcut.out
      have HBF : Hid (Below w.heap.size w wc) := HB0.out.trans ((HB01.out.trans (hcut.out.below.mono (by omega))).mono (by have := HN.out; omega))
      clear hcut HS7
      go_wp2
      go_ret
      exact ⟨_, rfl, own_mono HF.out.own (by have := HN.out; omega), HBF.out⟩
set_option maxRecDepth 20000 in
set_option maxHeartbeats 8000000 in
theorem rseal9_any {Ak A : Option Addr} {nk ck n c : Nat} {kb m : List UInt8} {w : World} (hnk : nk = kb.length) (hk2 : nk ≤ 500) (hkb : Byt w w.heap.size Ak kb) (hn : n = m.length) (hm : n ≤ 1000) (hby : Byt w w.heap.size A m) :
    Calls Tryd.prog 10 #[.slice Ak nk ck, .slice A n c] w fun e w' => ∃ v, e = .returned v ∧ Words.Own w' w.heap.size v (sealed kb m) ∧ Below w.heap.size w w' := by
  obtain ⟨v1, W1, hrun, ho1, hb1, _⟩ := own_add (B := w.heap.size) (l := []) (x := m) (v := .slice (some ⟨w.heap.size, 0, none⟩) 0 0) (c := c) (own_empty w 5) (by simp) hn (Reads.alloc hby (Nat.le_refl _) _) (by simp; omega) 22
  rw [List.nil_append] at ho1
  have hb1 : Below w.heap.size w W1 := (below_new w _).trans hb1
  have HS := Lib.hid (rseal_any (ck := ck) (c := c) (w := W1) hnk hk2 ((hkb.below hb1).more hb1.size) hn hm ((hby.below hb1).more hb1.size))
  have HO1 := Lib.hid ho1
  have HB1 := Lib.hid hb1
  have HRUN := Lib.hid hrun
  have HML : Hid (m.length ≤ 1000) := by show _ ≤ _; omega
  obtain ⟨s, hs⟩ : ∃ s, s = seal_ kb m := ⟨_, rfl⟩
  have HSL : Hid (s.length = 32) := by show s.length = 32; rw [hs]; exact seal_length _ _
  rw [← hs] at HS
  have HSS := Lib.hid hs
  clear hrun ho1 hb1 hs hkb hby hnk hn
  go_enter Tryd.func10, Tryd.ntmps10
  go_wp2_with (at_builtin; refine Lib.wpList_append_run _ rfl (.tmp 8) (.tmp 9) _ _ rfl _ _ rfl rfl v1 W1 HRUN.out ?_)
  refine HS.out.mono ?_
  rintro e W2 ⟨rfl, hb2⟩
  obtain ⟨G, hG⟩ : ∃ G, G = W2.heap.size := ⟨_, rfl⟩
  obtain ⟨W3, hW3⟩ : ∃ W3, W3 = put32 W2 s := ⟨_, rfl⟩
  have hb3 : Below W2.heap.size W2 W3 := by rw [hW3]; exact put32_below _ _
  have HG3 : Hid (Blk W3 G 41 (V s)) := by show Blk _ _ _ _; rw [hW3, hG]; exact put32_blk _ _
  have hb13 : Below W1.heap.size W1 W3 := hb2.trans (hb3.mono hb2.size)
  have HO3 : Hid (Words.Own W3 w.heap.size v1 (m ++ s.take 0)) := by rw [List.take_zero, List.append_nil]; exact own_below HO1.out hb13
  have HB3 : Hid (Below w.heap.size w W3) := HB1.out.trans (hb13.mono HB1.out.size)
  have HW3 := Lib.hid hW3
  have HGG := Lib.hid hG
  clear hb2 hb3 hb13 hG hW3 HS HRUN HO1 HB1
  go_upto_block 0 with (first
    | (with_reducible refine wpList_alloc32 rfl rfl ?_)
    | (refine wpList_store32 rfl _ _ rfl HSL.out rfl rfl ?_; rw [← HW3.out, ← HGG.out]))
  try rw [← HW3.out, ← HGG.out]
  try rw [← HGG.out]
  clear HW3 HGG
  go_wp2
  go_loopw [5, 7] (fun v i wr => ∃ j : Nat, j ≤ 32 ∧ i = .int .i64 (j : Int) ∧ Hid (Words.Own wr w.heap.size v (m ++ s.take j) ∧ Blk wr G 41 (V s) ∧ Below w.heap.size w wr)) (fun _ i _ => 32 - (intOf i).toNat)
  case atStart => exact ⟨0, Nat.zero_le _, rfl, HO3.out, HG3.out, HB3.out⟩
  case round =>
    obtain ⟨j, hj, rfl, hs⟩ := hrel
    by_cases hlt : j < 32
    · have e2 := take_snoc 0 (k := s) (j := j) (by rw [HSL.out]; exact hlt)
      obtain ⟨b, hb⟩ : ∃ b, b = s.getD j 0 := ⟨_, rfl⟩
      have hby : Byt (wr.alloc (.cells #[.int .u8 (b.toNat : Int)] 5)) (wr.heap.size + 1) (some ⟨wr.heap.size, 0, none⟩) [b] := (Blk.new wr 5 #[.int .u8 (b.toNat : Int)]).byt (l := [b]) (by omega) rfl
      obtain ⟨v2', D2, hr2, ho2, hd2, hf2⟩ := own_add (m := 1) (c := 1) (own_below hs.out.1 (below_new wr (.cells #[.int .u8 (b.toNat : Int)] 5))) (by have := hs.out.2.2.size; simp; omega) rfl hby (by rw [List.length_append, List.length_take, List.length_singleton]; have := HML.out; omega) 22
      have c1 := hs.out.2.1.cell j
      rw [V_at (by rw [HSL.out]; exact hlt), ← hb] at c1
      have HE : Hid (Words.Own D2 w.heap.size v2' (m ++ s.take (j + 1)) ∧ Blk D2 G 41 (V s) ∧ Below w.heap.size w D2) := by
        rw [e2, ← hb, ← List.append_assoc]
        refine ⟨ho2, hf2.blk (hs.out.2.1.alloc _) (fun e => own_blk_ne hs.out.1 hs.out.2.1 (by decide) e.symm), (hs.out.2.2.trans ((below_new wr _).mono hs.out.2.2.size)).trans hd2⟩
      have HRUN2 := Lib.hid hr2
      clear e2 hb hr2 ho2 hd2 hf2 hs hby
      go_wp2_with (at_builtin; refine Lib.wpList_append_run _ rfl (.tmp 18) (.tmp 22) _ _ rfl _ _ rfl rfl v2' D2 HRUN2.out ?_)
      go_roundw
      case rel => exact ⟨j + 1, by omega, by go_num, HE⟩
      case measure => simp [intOf]; omega
    · obtain rfl : j = 32 := by omega
      have e2 : s.take 32 = s := List.take_of_length_le (by rw [HSL.out]; exact Nat.le_refl _)
      rw [e2] at hs
      have HF := Lib.hid hs.out
      clear e2 hs
      go_wp2
      go_ret
      exact ⟨_, rfl, by unfold sealed; rw [← HSS.out]; exact HF.out.1, HF.out.2.2⟩
end Go.Proofs.YtmbgjijajakgeaaDoor.Cok

namespace Go.Proofs.YtmbgjijajakgeaaDoor.Cok
open Go.ChangeShapes Go.WideShapes Go.ChangeAt Go.RowKit Go.Deep Go.Proofs.YtmbgjijajakgeaaDoor.Words Go.Proofs.YtmbgjijajakgeaaDoor.Oct Go.Proofs.YtmbgjijajakgeaaDoor.Sha

/-- Where the document's Open stands: its tape, the cookie that it reads, the zero cookie, the result's. -/
structure OSt (w V : World) (P X N : Nat) (A : Option Addr) (c : Nat) (b : List UInt8) (k : Nat) (cs : Array Value) : Prop where
  tape : TapeAt V P A c b k false
  blk : Blk V X 26 cs
  zer : Blk V (N + 1) 26 (ckA zeroCK)
  res : Blk V N 26 (ckA zeroCK)
  below : Below N w V
  nw : N ≤ w.heap.size
  np : N + 1 < P
  px : P < X
theorem OSt.step {w V V' : World} {P X N c k k' : Nat} {A : Option Addr} {b : List UInt8} {cs : Array Value} (h : OSt w V P X N A c b k cs) (ht : TapeAt V' P A c b k' false) (hg : V.grownBy V' (some P)) : OSt w V' P X N A c b k' cs := by
  have h1 := h.np
  have h2 := h.px
  have hf : Fr (fun i => some i = some P) V V' := Fr.of_grown hg
  refine ⟨ht, hf.blk h.blk (fun e => ?_), hf.blk h.zer (fun e => ?_), hf.blk h.res (fun e => ?_), below_fr h.below hf h.nw (fun x hx => ?_), h.nw, h1, h2⟩
  · cases e
    omega
  · injection e with e
    omega
  · injection e with e
    omega
  · injection hx with e
    omega
theorem OSt.store {w V : World} {P X N c k i : Nat} {A : Option Addr} {b : List UInt8} {cs : Array Value} {u : Value} (h : OSt w V P X N A c b k cs) : OSt w (V.setCell ⟨X, i, none⟩ u) P X N A c b k (cs.setIfInBounds i u) := by
  have h1 := h.np
  have h2 := h.px
  have hf : Fr (fun q => q = X) V (V.setCell ⟨X, i, none⟩ u) := (Fr.refl (fun q => q = X) V).setCell (p := ⟨X, i, none⟩) (.inl rfl) _
  refine ⟨h.tape.keep (fun q hq => hf.block q ?_ (fun e => ?_)), h.blk.set_ i u, hf.blk h.zer (fun e => ?_), hf.blk h.res (fun e => ?_), below_fr h.below hf h.nw (fun x hx => ?_), h.nw, h1, h2⟩
  · have := h.tape.blk.lt; omega
  · have : q = X := e
    omega
  · have : N + 1 = X := e
    omega
  · have : N = X := e
    omega
  · have : x = X := hx
    omega
theorem num_two {l : List UInt8} {k : Nat} (h : k + 2 ≤ l.length) : num ((l.drop k).take 2) / 256 = num ((l.drop k).take 1) := by
  have h1 : k < l.length := by omega
  have h2 : k + 1 < l.length := by omega
  rw [List.drop_eq_getElem_cons h1, List.drop_eq_getElem_cons h2]
  simp only [List.take_succ_cons, List.take_zero, num, List.foldl_cons, List.foldl_nil]
  have := (l[k + 1]).toNat_lt
  omega
theorem not_false_eq {x : Bool} (h : false = !x) : x = true := by cases x <;> simp_all
theorem not_true_eq {x : Bool} (h : true = !x) : x = false := by cases x <;> simp_all
/-- Bytes of the call's own. -/
def OwnV (B : Nat) (l : List UInt8) (v : Value) (V : World) : Prop := Words.Own V B v l
set_option maxRecDepth 20000 in
set_option maxHeartbeats 16000000 in
theorem ropen_any {Ak A : Option Addr} {nk ck n c now : Nat} {kb b : List UInt8} {w : World} (hnk : nk = kb.length) (hk2 : nk ≤ 500) (hkb : Byt w w.heap.size Ak kb) (hn : n = b.length) (hnc : n ≤ c) (hcm : c ≤ 9223372036854775807) (hby : Byt w w.heap.size A b) (hnw : now < 4294967296) :
    Calls Tryd.prog 12 #[.slice Ak nk ck, .slice A n c, .int .u32 (now : Int)] w (OpenDone w (openP kb b now)) := by
  obtain ⟨N, hN⟩ : ∃ N, N = w.heap.size := ⟨_, rfl⟩
  obtain ⟨W2, hW2⟩ : ∃ W, W = (w.alloc (.cells (ckA zeroCK) 26)).alloc (.cells (ckA zeroCK) 26) := ⟨_, rfl⟩
  have hb2 : Below w.heap.size w W2 := by rw [hW2]; exact ((Below.refl _ _).alloc (Nat.le_refl _) _).alloc (by simp) _
  have hs2 : W2.heap.size = N + 2 := by rw [hW2, hN]; simp
  have HR2 : Hid (Blk W2 N 26 (ckA zeroCK)) := by show Blk _ _ _ _; rw [hW2, hN]; exact (Blk.new w _ _).alloc _
  have HZ2 : Hid (Blk W2 (N + 1) 26 (ckA zeroCK)) := by
    show Blk _ _ _ _
    rw [hW2, hN]
    simpa using Blk.new (w.alloc (.cells (ckA zeroCK) 26)) 26 (ckA zeroCK)
  have HB2 : Hid (Below w.heap.size w W2) := hb2
  have HKB : Hid (Byt W2 N Ak kb) := by rw [hN]; exact hkb.below hb2
  have HBY : Hid (Byt W2 N A b) := by rw [hN]; exact hby.below hb2
  have HNK := Lib.hid hnk
  have HNB := Lib.hid hn
  have HN := Lib.hid hN
  have HW2 := Lib.hid hW2
  have HS2 := Lib.hid hs2
  have HOUT : Hid (∀ (V : World) (c' : CK), Blk V N 26 (ckA zeroCK) → Below N w V → Blk (V.setRow N (ckA c')) N 26 (ckA c') ∧ Below w.heap.size w (V.setRow N (ckA c'))) :=
    fun V c' h1 h2 => ⟨setRow_heap _ _ _ _ _ _ h1, by rw [← hN]; exact below_setRow h2 (Nat.le_refl _) _⟩
  have HBN : Hid (Below N w W2) := by show Below _ _ _; rw [hN]; exact hb2
  clear hkb hby hb2 hN hW2 hs2 hnk hn
  go_enter Tryd.func12, Tryd.ntmps12
  go_upto_region 2 with (with_reducible refine wpList_allocCk rfl rfl ?_)
  have hz : (w.alloc (.cells (ckA zeroCK) 26)).heap.size = N + 1 := by rw [HN.out]; simp
  rw [hz, ← HW2.out, ← HN.out]
  clear hz HW2
  have HO2 := Lib.hid (HOUT.out W2 zeroCK HR2.out HBN.out)
  by_cases h1 : n < 70
  · have HE := Lib.hid (open_short (kb := kb) (now := now) (b := b) (by rw [← HNB.out]; exact h1))
    go_wp2_with (first
      | (refine wpList_loadCk rfl _ rfl (N + 1) zeroCK rfl HZ2.out ?_)
      | (refine wpList_store_row rfl 26 _ _ rfl N (ckA zeroCK) rfl rfl 26 (ckA zeroCK) HR2.out (ck_size _) rfl (ck_one _) ?_))
    (try simp only [Exit.inBlock, Exit.then])
    refine bodyPost_ret (res_ck rfl _ _ N zeroCK rfl HO2.out.1) rfl ?_
    exact ⟨by rw [HE.out]; rfl, HO2.out.2⟩
  by_cases h2 : 70 < n
  · have HE := Lib.hid (open_long (kb := kb) (now := now) (b := b) (by rw [← HNB.out]; exact h2))
    go_wp2_with (first
      | (refine wpList_loadCk rfl _ rfl (N + 1) zeroCK rfl HZ2.out ?_)
      | (refine wpList_store_row rfl 26 _ _ rfl N (ckA zeroCK) rfl rfl 26 (ckA zeroCK) HR2.out (ck_size _) rfl (ck_one _) ?_))
    (try simp only [Exit.inBlock, Exit.then])
    refine bodyPost_ret (res_ck rfl _ _ N zeroCK rfl HO2.out.1) rfl ?_
    exact ⟨by rw [HE.out]; rfl, HO2.out.2⟩
  obtain rfl : n = 70 := by omega
  have HBL : Hid (b.length = 70) := HNB.out.symm
  clear h1 h2 HO2
  go_wp2_with fail
  obtain ⟨sb, hsb⟩ : ∃ x, x = sealed kb (b.take 38) := ⟨_, rfl⟩
  have HSB := Lib.hid hsb
  have HSL : Hid (sb.length = 70) := by show _ = _; rw [hsb]; exact sealed_length (by rw [List.length_take, HBL.out]; rfl)
  have HST : Hid (Below W2.heap.size W2 W2.drew) := Below.drew (Below.refl _ _)
  have HSE : Hid (∀ V, Below W2.heap.size W2 V → Calls Tryd.prog 10 #[.slice Ak nk ck, .slice A 38 c] V fun e w' => ∃ v, e = .returned v ∧ OwnV W2.heap.size sb v w' ∧ Below V.heap.size V w') := by
    intro V hV
    have h1 := HKB.out.below (hV.mono (by have := HS2.out; omega))
    have h2 : Byt V N A (b.take 38) := Reads.take_ (HBY.out.below (hV.mono (by have := HS2.out; omega))) 38
    refine (rseal9_any (ck := ck) (c := c) (n := 38) HNK.out hk2 (h1.more (by have := HS2.out; have := hV.size; omega)) (by rw [List.length_take, HBL.out]; rfl) (by omega) (h2.more (by have := HS2.out; have := hV.size; omega))).mono ?_
    rintro e w' ⟨v, h1, h2, h3⟩
    rw [← hsb] at h2
    exact ⟨v, h1, own_mono h2 hV.size, h3⟩
  have HSTB : Hid (∀ V, Below W2.heap.size W2 V → (convert 22 9 (.slice A 70 c)).run Tryd.prog V = .ok (.string ⟨b.toArray⟩) V) := fun V hV =>
    run_str (HBY.out.below (hV.mono (by have := HS2.out; omega))) _ _ _ Tryd.underlying22 Tryd.underlying5 Tryd.underlying9 70 c HBL.out.symm
  obtain ⟨ne, hne⟩ : ∃ x : Bool, x = !(sb == b) := ⟨_, rfl⟩
  have HNE := Lib.hid hne
  clear hsb hne
  go_cut [23, 26] from 19 to 26 (fun _ s26 wx => s26 = .bool ne ∧ Hid (Below W2.heap.size W2 wx))
  case first =>
    refine wp_region_stage (fun V V' => Below V.heap.size V V') (fun m V => Hid (Below W2.heap.size W2 V)) [(false, .exact (.slice Ak nk ck)),
        (false, .exact (.slice A 70 c)),
        (false, .exact (.slice A 38 c)),
        (false, .grows (OwnV W2.heap.size sb)),
        (false, .exact (.string ⟨sb.toArray⟩)),
        (false, .exact (.slice A 70 c)),
        (false, .exact (.string ⟨b.toArray⟩)),
        (false, .exact (.bool ne))] (by kernel_rfl) (by kernel_rfl) (by kernel_rfl) rfl ?lasts ?start ?walk
    case lasts => exact ⟨fun _ _ _ h k => own_below h k, trivial⟩
    case start => exact HST
    case walk =>
      refine stage_pure rfl (fun V => Below.refl _ V) (fun V m hS hl => by go_simp) ?_
      simp only [Act.put, List.setIfInBounds_toArray, List.set_cons_zero, List.set_cons_succ, List.cons_append, List.nil_append]
      refine stage_pure rfl (fun V => Below.refl _ V) (fun V m hS hl => by go_simp) ?_
      simp only [Act.put, List.setIfInBounds_toArray, List.set_cons_zero, List.set_cons_succ, List.cons_append, List.nil_append]
      refine stage_pure rfl (fun V => Below.refl _ V) (fun V m hS hl => by exact exec_upto (k := 38) rfl rfl rfl (by omega)) ?_
      simp only [Act.put, List.setIfInBounds_toArray, List.set_cons_zero, List.set_cons_succ, List.cons_append, List.nil_append]
      refine stage_grows rfl (fun V m hS hl => by
          go_simp
          refine (HSE.out V hS.out).mono ?_
          rintro e V' ⟨v, rfl, h1, hb⟩
          exact ⟨_, rfl, hb, h1, hS.out.trans (hb.mono hS.out.size)⟩) (fun v22 => ?_)
      simp only [Act.put, List.setIfInBounds_toArray, List.set_cons_zero, List.set_cons_succ, List.cons_append, List.nil_append]
      refine stage_pure rfl (fun V => Below.refl _ V) (fun V m hS hl => by
          have h0 : Words.Own V W2.heap.size v22 sb := (hl.1 (by kernel_rfl))
          obtain ⟨A3, c3, rfl, _, _⟩ := own_slice h0
          have hcv := run_str (P := Tryd.prog) (Words.Own.byt h0) 22 9 5 Tryd.underlying22 Tryd.underlying5 Tryd.underlying9 sb.length c3 rfl
          go_simp) ?_
      simp only [Act.put, List.setIfInBounds_toArray, List.set_cons_zero, List.set_cons_succ, List.cons_append, List.nil_append]
      refine stage_pure rfl (fun V => Below.refl _ V) (fun V m hS hl => by go_simp) ?_
      simp only [Act.put, List.setIfInBounds_toArray, List.set_cons_zero, List.set_cons_succ, List.cons_append, List.nil_append]
      refine stage_pure rfl (fun V => Below.refl _ V) (fun V m hS hl => by
          have hcv := HSTB.out V hS.out
          go_simp) ?_
      simp only [Act.put, List.setIfInBounds_toArray, List.set_cons_zero, List.set_cons_succ, List.cons_append, List.nil_append]
      refine stage_pure rfl (fun V => Below.refl _ V) (fun V m hS hl => by
          rw [HNE.out]
          go_simp) ?_
      simp only [Act.put, List.setIfInBounds_toArray, List.set_cons_zero, List.set_cons_succ, List.cons_append, List.nil_append]
      refine stage_nil (fun V2 hS hF => ?_)
      have HS4 : Hid (Below W2.heap.size W2 V2) := hS
      clear hS hF HST
      go_wp2_with fail
      go_meet
      exact ⟨rfl, HS4⟩
  case rest =>
    obtain ⟨rfl, hb3⟩ := hcut
    have HR3 : Hid (Blk wc N 26 (ckA zeroCK)) := HR2.out.below hb3.out HR2.out.lt
    have HZ3 : Hid (Blk wc (N + 1) 26 (ckA zeroCK)) := HZ2.out.below hb3.out HZ2.out.lt
    have HB3 : Hid (Below N w wc) := HBN.out.trans (hb3.out.mono (by have := HS2.out; omega))
    have HBY3 : Hid (Byt wc N A b) := HBY.out.below (hb3.out.mono (by have := HS2.out; omega))
    have HW3 : Hid (N + 2 ≤ wc.heap.size) := by show _ ≤ _; have := hb3.out.size; have := HS2.out; omega
    have HO3 := Lib.hid (HOUT.out wc zeroCK HR3.out HB3.out)
    clear HST HSE HSTB HKB HBY HR2 HZ2 HBN hb3 HB2
    cases ne
    · have hq : (sb == b) = true := not_false_eq HNE.out
      have H2 : Hid (sealed kb (b.take 38) = b) := by show _ = _; rw [← HSB.out]; exact eq_of_beq hq
      clear hq HNE HSB HSL
      obtain ⟨ad, rfl, hadb, hcl⟩ := HBY3.out.2 (by rw [HBL.out]; omega)
      obtain ⟨z, hz⟩ : ∃ z, z = b.getD 25 0 := ⟨_, rfl⟩
      have c25 := hcl 25 (.int .u8 (z.toNat : Int)) (by rw [u8s_get, List.getElem?_eq_getElem (by rw [HBL.out]; omega), hz, List.getD_eq_getElem?_getD, List.getElem?_eq_getElem (by rw [HBL.out]; omega)]; rfl)
      rw [add_lit _ (by omega)] at c25
      have HZZ := Lib.hid hz
      clear hz hcl
      by_cases hz0 : z = 0
      · subst hz0
        have hu0 : ((0 : UInt8).toNat : Int) = 0 := rfl
        rw [hu0] at c25
        obtain ⟨P, hP⟩ : ∃ P, P = wc.heap.size := ⟨_, rfl⟩
        obtain ⟨W4, hW4⟩ : ∃ W, W = wc.alloc (.cells #[.slice (some ad) 70 c, .int .i64 0, .bool false] 55) := ⟨_, rfl⟩
        obtain ⟨W5, hW5⟩ : ∃ W, W = putCk W4 zeroCK := ⟨_, rfl⟩
        obtain ⟨X, hX⟩ : ∃ X, X = W4.heap.size := ⟨_, rfl⟩
        have hb4 : Below wc.heap.size wc W4 := by rw [hW4]; exact below_new wc _
        have hb5 : Below W4.heap.size W4 W5 := by rw [hW5]; exact putCk_below _ _
        have hs4 : W4.heap.size = P + 1 := by rw [hW4, hP]; simp
        have hT4 : TapeAt W4 P (some ad) c b 0 false := by
          refine ⟨?_, (HBY3.out.below (hb4.mono (by have := HW3.out; omega))).more (by have := HW3.out; omega), Nat.zero_le _, by rw [HBL.out]; exact hnc, hcm⟩
          rw [hW4, hP, HBL.out]
          exact Blk.new wc _ _
        have hb35 : Below wc.heap.size wc W5 := hb4.trans (hb5.mono hb4.size)
        have HS5 : Hid (OSt w W5 P X N (some ad) c b 0 (ckA zeroCK)) := by
          refine ⟨hT4.below hb5, ?_, HZ3.out.below hb35 HZ3.out.lt, HR3.out.below hb35 HR3.out.lt, HB3.out.trans (hb35.mono (by have := HW3.out; omega)), by have := HN.out; omega, by have := HW3.out; omega, by omega⟩
          rw [hW5, hX]
          exact putCk_blk _ _
        have HW4 := Lib.hid hW4
        have HW5 := Lib.hid hW5
        have HP := Lib.hid hP
        have HX := Lib.hid hX
        have HS4 := Lib.hid hs4
        clear hb4 hb5 hs4 hT4 hb35 hW4 hW5 hP hX HR3 HZ3 HB3 HBY3 HO3
        go_upto_region 11 with (fail)
        rw [← HW4.out, ← HP.out]
        clear HW4 HP c25
        go_upto_region 12 with (first
          | (refine wpList_build0 rfl rfl ?_)
          | (with_reducible refine wpList_allocCk rfl rfl ?_)
          | (refine wpList_storeCk rfl _ _ rfl (c := zeroCK) rfl rfl ?_; rw [← HW5.out, ← HX.out]))
        try rw [← HW5.out, ← HX.out]
        try rw [← HX.out]
        clear HW5 HX HS4
        obtain ⟨x0, hx0⟩ : ∃ x, x = num ((b.drop 0).take 4) := ⟨_, rfl⟩
        have hl0 : x0 < 4294967296 := by rw [hx0]; exact num_tk
        obtain ⟨x1, hx1⟩ : ∃ x, x = num ((b.drop 4).take 4) := ⟨_, rfl⟩
        have hl1 : x1 < 4294967296 := by rw [hx1]; exact num_tk
        obtain ⟨x2, hx2⟩ : ∃ x, x = num ((b.drop 8).take 4) := ⟨_, rfl⟩
        have hl2 : x2 < 4294967296 := by rw [hx2]; exact num_tk
        obtain ⟨x3, hx3⟩ : ∃ x, x = num ((b.drop 12).take 4) := ⟨_, rfl⟩
        have hl3 : x3 < 4294967296 := by rw [hx3]; exact num_tk
        obtain ⟨x4, hx4⟩ : ∃ x, x = num ((b.drop 16).take 4) := ⟨_, rfl⟩
        have hl4 : x4 < 4294967296 := by rw [hx4]; exact num_tk
        obtain ⟨x5, hx5⟩ : ∃ x, x = num ((b.drop 20).take 2) := ⟨_, rfl⟩
        have hl5 : x5 < 65536 := by rw [hx5]; exact num_tk
        obtain ⟨x6, hx6⟩ : ∃ x, x = num ((b.drop 22).take 2) := ⟨_, rfl⟩
        have hl6 : x6 < 65536 := by rw [hx6]; exact num_tk
        obtain ⟨x7, hx7⟩ : ∃ x, x = num ((b.drop 24).take 1) := ⟨_, rfl⟩
        have hl7 : x7 < 256 := by rw [hx7]; exact num_tk
        obtain ⟨x8, hx8⟩ : ∃ x, x = num ((b.drop 26).take 4) := ⟨_, rfl⟩
        have hl8 : x8 < 4294967296 := by rw [hx8]; exact num_tk
        obtain ⟨x9, hx9⟩ : ∃ x, x = num ((b.drop 30).take 4) := ⟨_, rfl⟩
        have hl9 : x9 < 4294967296 := by rw [hx9]; exact num_tk
        obtain ⟨x10, hx10⟩ : ∃ x, x = num ((b.drop 34).take 4) := ⟨_, rfl⟩
        have hl10 : x10 < 4294967296 := by rw [hx10]; exact num_tk
        have HG : Hid (getC b = ⟨x0, x1, x2, x3, x4, x5, x6, x7, x8, x9, x10⟩) := by show _ = _; rw [hx0, hx1, hx2, hx3, hx4, hx5, hx6, hx7, hx8, hx9, hx10]; rfl
        obtain ⟨x7b, hx7b⟩ : ∃ x, x = num ((b.drop 24).take 2) := ⟨_, rfl⟩
        have hl7b : x7b < 65536 := by rw [hx7b]; exact num_tk
        have hq7 : x7b / 256 = x7 := by rw [hx7b, hx7]; exact num_two (by rw [HBL.out]; omega)
        have e7 : (x7b : Int) / 256 = (x7 : Int) := by omega
        have e7t : (x7b : Int).tdiv 256 = (x7 : Int) := by rw [Int.tdiv_eq_ediv_of_nonneg (by omega)]; exact e7
        have HX0 := Lib.hid hx0
        clear hx0
        have HX1 := Lib.hid hx1
        clear hx1
        have HX2 := Lib.hid hx2
        clear hx2
        have HX3 := Lib.hid hx3
        clear hx3
        have HX4 := Lib.hid hx4
        clear hx4
        have HX5 := Lib.hid hx5
        clear hx5
        have HX6 := Lib.hid hx6
        clear hx6
        have HX7 := Lib.hid hx7
        clear hx7
        have HX8 := Lib.hid hx8
        clear hx8
        have HX9 := Lib.hid hx9
        clear hx9
        have HX10 := Lib.hid hx10
        clear hx10
        have HX7b := Lib.hid hx7b
        clear hx7b
        clear hq7
        have HC : Hid (Calls Tryd.prog 21 #[ptr P, .int .i64 4] W5 fun e w' => e = .returned (.int .u64 (x0 : Int)) ∧ TapeAt w' P (some ad) c b 4 false ∧ W5.grownBy w' (some P)) := by
          have := num_yes (n := 4) HS5.out.tape (by rw [HBL.out]; omega) (by omega)
          unfold Numbered at this
          rw [← HX0.out] at this
          exact this
        go_wp2_with fail
        refine HC.out.mono ?_
        rintro e W6 ⟨rfl, ht, hg⟩
        have HS6 := Lib.hid (HS5.out.step ht hg)
        have cc : W6.cell? ⟨X, 0, none⟩ = some (.int .u32 0) := HS6.out.blk.cell 0
        have ff := HS6.out.blk.frozen 0
        have ww : IntKind.u32.wrap (x0 : Int) = (x0 : Int) := by rw [IntKind.wrap_u32]; omega
        have wm : (x0 : Int) % 4294967296 = (x0 : Int) := by omega
        obtain ⟨W7, hW7⟩ : ∃ W, W = W6.setCell ⟨X, 0, none⟩ (.int .u32 (x0 : Int)) := ⟨_, rfl⟩
        have HS7 : Hid (OSt w W7 P X N (some ad) c b 4 (ckA ⟨x0, 0, 0, 0, 0, 0, 0, 0, 0, 0, 0⟩)) := by show OSt _ _ _ _ _ _ _ _ _ _; rw [hW7]; exact HS6.out.store
        have HW7 := Lib.hid hW7
        clear ht hg HC hW7 HS5 HS6
        go_upto_region 13 with (fail)
        rw [← HW7.out]
        clear HW7 cc ff ww wm
        have HC : Hid (Calls Tryd.prog 21 #[ptr P, .int .i64 4] W7 fun e w' => e = .returned (.int .u64 (x1 : Int)) ∧ TapeAt w' P (some ad) c b 8 false ∧ W7.grownBy w' (some P)) := by
          have := num_yes (n := 4) HS7.out.tape (by rw [HBL.out]; omega) (by omega)
          unfold Numbered at this
          rw [← HX1.out] at this
          exact this
        go_wp2_with fail
        refine HC.out.mono ?_
        rintro e W8 ⟨rfl, ht, hg⟩
        have HS8 := Lib.hid (HS7.out.step ht hg)
        have cc : W8.cell? ⟨X, 1, none⟩ = some (.int .u32 0) := HS8.out.blk.cell 1
        have ff := HS8.out.blk.frozen 1
        have ww : IntKind.u32.wrap (x1 : Int) = (x1 : Int) := by rw [IntKind.wrap_u32]; omega
        have wm : (x1 : Int) % 4294967296 = (x1 : Int) := by omega
        obtain ⟨W9, hW9⟩ : ∃ W, W = W8.setCell ⟨X, 1, none⟩ (.int .u32 (x1 : Int)) := ⟨_, rfl⟩
        have HS9 : Hid (OSt w W9 P X N (some ad) c b 8 (ckA ⟨x0, x1, 0, 0, 0, 0, 0, 0, 0, 0, 0⟩)) := by show OSt _ _ _ _ _ _ _ _ _ _; rw [hW9]; exact HS8.out.store
        have HW9 := Lib.hid hW9
        clear ht hg HC hW9 HS7 HS8
        go_upto_region 14 with (fail)
        rw [← HW9.out]
        clear HW9 cc ff ww wm
        have HC : Hid (Calls Tryd.prog 21 #[ptr P, .int .i64 4] W9 fun e w' => e = .returned (.int .u64 (x2 : Int)) ∧ TapeAt w' P (some ad) c b 12 false ∧ W9.grownBy w' (some P)) := by
          have := num_yes (n := 4) HS9.out.tape (by rw [HBL.out]; omega) (by omega)
          unfold Numbered at this
          rw [← HX2.out] at this
          exact this
        go_wp2_with fail
        refine HC.out.mono ?_
        rintro e W10 ⟨rfl, ht, hg⟩
        have HS10 := Lib.hid (HS9.out.step ht hg)
        have cc : W10.cell? ⟨X, 2, none⟩ = some (.int .u32 0) := HS10.out.blk.cell 2
        have ff := HS10.out.blk.frozen 2
        have ww : IntKind.u32.wrap (x2 : Int) = (x2 : Int) := by rw [IntKind.wrap_u32]; omega
        have wm : (x2 : Int) % 4294967296 = (x2 : Int) := by omega
        obtain ⟨W11, hW11⟩ : ∃ W, W = W10.setCell ⟨X, 2, none⟩ (.int .u32 (x2 : Int)) := ⟨_, rfl⟩
        have HS11 : Hid (OSt w W11 P X N (some ad) c b 12 (ckA ⟨x0, x1, x2, 0, 0, 0, 0, 0, 0, 0, 0⟩)) := by show OSt _ _ _ _ _ _ _ _ _ _; rw [hW11]; exact HS10.out.store
        have HW11 := Lib.hid hW11
        clear ht hg HC hW11 HS9 HS10
        go_upto_region 15 with (fail)
        rw [← HW11.out]
        clear HW11 cc ff ww wm
        have HC : Hid (Calls Tryd.prog 21 #[ptr P, .int .i64 4] W11 fun e w' => e = .returned (.int .u64 (x3 : Int)) ∧ TapeAt w' P (some ad) c b 16 false ∧ W11.grownBy w' (some P)) := by
          have := num_yes (n := 4) HS11.out.tape (by rw [HBL.out]; omega) (by omega)
          unfold Numbered at this
          rw [← HX3.out] at this
          exact this
        go_wp2_with fail
        refine HC.out.mono ?_
        rintro e W12 ⟨rfl, ht, hg⟩
        have HS12 := Lib.hid (HS11.out.step ht hg)
        have cc : W12.cell? ⟨X, 3, none⟩ = some (.int .u32 0) := HS12.out.blk.cell 3
        have ff := HS12.out.blk.frozen 3
        have ww : IntKind.u32.wrap (x3 : Int) = (x3 : Int) := by rw [IntKind.wrap_u32]; omega
        have wm : (x3 : Int) % 4294967296 = (x3 : Int) := by omega
        obtain ⟨W13, hW13⟩ : ∃ W, W = W12.setCell ⟨X, 3, none⟩ (.int .u32 (x3 : Int)) := ⟨_, rfl⟩
        have HS13 : Hid (OSt w W13 P X N (some ad) c b 16 (ckA ⟨x0, x1, x2, x3, 0, 0, 0, 0, 0, 0, 0⟩)) := by show OSt _ _ _ _ _ _ _ _ _ _; rw [hW13]; exact HS12.out.store
        have HW13 := Lib.hid hW13
        clear ht hg HC hW13 HS11 HS12
        go_upto_region 16 with (fail)
        rw [← HW13.out]
        clear HW13 cc ff ww wm
        have HC : Hid (Calls Tryd.prog 21 #[ptr P, .int .i64 4] W13 fun e w' => e = .returned (.int .u64 (x4 : Int)) ∧ TapeAt w' P (some ad) c b 20 false ∧ W13.grownBy w' (some P)) := by
          have := num_yes (n := 4) HS13.out.tape (by rw [HBL.out]; omega) (by omega)
          unfold Numbered at this
          rw [← HX4.out] at this
          exact this
        go_wp2_with fail
        refine HC.out.mono ?_
        rintro e W14 ⟨rfl, ht, hg⟩
        have HS14 := Lib.hid (HS13.out.step ht hg)
        have cc : W14.cell? ⟨X, 4, none⟩ = some (.int .u32 0) := HS14.out.blk.cell 4
        have ff := HS14.out.blk.frozen 4
        have ww : IntKind.u32.wrap (x4 : Int) = (x4 : Int) := by rw [IntKind.wrap_u32]; omega
        have wm : (x4 : Int) % 4294967296 = (x4 : Int) := by omega
        obtain ⟨W15, hW15⟩ : ∃ W, W = W14.setCell ⟨X, 4, none⟩ (.int .u32 (x4 : Int)) := ⟨_, rfl⟩
        have HS15 : Hid (OSt w W15 P X N (some ad) c b 20 (ckA ⟨x0, x1, x2, x3, x4, 0, 0, 0, 0, 0, 0⟩)) := by show OSt _ _ _ _ _ _ _ _ _ _; rw [hW15]; exact HS14.out.store
        have HW15 := Lib.hid hW15
        clear ht hg HC hW15 HS13 HS14
        go_upto_region 17 with (fail)
        rw [← HW15.out]
        clear HW15 cc ff ww wm
        have HC : Hid (Calls Tryd.prog 21 #[ptr P, .int .i64 2] W15 fun e w' => e = .returned (.int .u64 (x5 : Int)) ∧ TapeAt w' P (some ad) c b 22 false ∧ W15.grownBy w' (some P)) := by
          have := num_yes (n := 2) HS15.out.tape (by rw [HBL.out]; omega) (by omega)
          unfold Numbered at this
          rw [← HX5.out] at this
          exact this
        go_wp2_with fail
        refine HC.out.mono ?_
        rintro e W16 ⟨rfl, ht, hg⟩
        have HS16 := Lib.hid (HS15.out.step ht hg)
        have cc : W16.cell? ⟨X, 5, none⟩ = some (.int .u16 0) := HS16.out.blk.cell 5
        have ff := HS16.out.blk.frozen 5
        have ww : IntKind.u16.wrap (x5 : Int) = (x5 : Int) := by simp [IntKind.wrap, IntKind.bits, IntKind.signed]; omega
        have wm : (x5 : Int) % 65536 = (x5 : Int) := by omega
        obtain ⟨W17, hW17⟩ : ∃ W, W = W16.setCell ⟨X, 5, none⟩ (.int .u16 (x5 : Int)) := ⟨_, rfl⟩
        have HS17 : Hid (OSt w W17 P X N (some ad) c b 22 (ckA ⟨x0, x1, x2, x3, x4, x5, 0, 0, 0, 0, 0⟩)) := by show OSt _ _ _ _ _ _ _ _ _ _; rw [hW17]; exact HS16.out.store
        have HW17 := Lib.hid hW17
        clear ht hg HC hW17 HS15 HS16
        go_upto_region 18 with (fail)
        rw [← HW17.out]
        clear HW17 cc ff ww wm
        have HC : Hid (Calls Tryd.prog 21 #[ptr P, .int .i64 2] W17 fun e w' => e = .returned (.int .u64 (x6 : Int)) ∧ TapeAt w' P (some ad) c b 24 false ∧ W17.grownBy w' (some P)) := by
          have := num_yes (n := 2) HS17.out.tape (by rw [HBL.out]; omega) (by omega)
          unfold Numbered at this
          rw [← HX6.out] at this
          exact this
        go_wp2_with fail
        refine HC.out.mono ?_
        rintro e W18 ⟨rfl, ht, hg⟩
        have HS18 := Lib.hid (HS17.out.step ht hg)
        have cc : W18.cell? ⟨X, 6, none⟩ = some (.int .u16 0) := HS18.out.blk.cell 6
        have ff := HS18.out.blk.frozen 6
        have ww : IntKind.u16.wrap (x6 : Int) = (x6 : Int) := by simp [IntKind.wrap, IntKind.bits, IntKind.signed]; omega
        have wm : (x6 : Int) % 65536 = (x6 : Int) := by omega
        obtain ⟨W19, hW19⟩ : ∃ W, W = W18.setCell ⟨X, 6, none⟩ (.int .u16 (x6 : Int)) := ⟨_, rfl⟩
        have HS19 : Hid (OSt w W19 P X N (some ad) c b 24 (ckA ⟨x0, x1, x2, x3, x4, x5, x6, 0, 0, 0, 0⟩)) := by show OSt _ _ _ _ _ _ _ _ _ _; rw [hW19]; exact HS18.out.store
        have HW19 := Lib.hid hW19
        clear ht hg HC hW19 HS17 HS18
        go_upto_region 19 with (fail)
        rw [← HW19.out]
        clear HW19 cc ff ww wm
        have HC : Hid (Calls Tryd.prog 21 #[ptr P, .int .i64 2] W19 fun e w' => e = .returned (.int .u64 (x7b : Int)) ∧ TapeAt w' P (some ad) c b 26 false ∧ W19.grownBy w' (some P)) := by
          have := num_yes (n := 2) HS19.out.tape (by rw [HBL.out]; omega) (by omega)
          unfold Numbered at this
          rw [← HX7b.out] at this
          exact this
        go_wp2_with fail
        refine HC.out.mono ?_
        rintro e W20 ⟨rfl, ht, hg⟩
        have HS20 := Lib.hid (HS19.out.step ht hg)
        have cc : W20.cell? ⟨X, 7, none⟩ = some (.int .u8 0) := HS20.out.blk.cell 7
        have ff := HS20.out.blk.frozen 7
        have ww : IntKind.u8.wrap (x7 : Int) = (x7 : Int) := by simp [IntKind.wrap, IntKind.bits, IntKind.signed]; omega
        have wm : (x7 : Int) % 256 = (x7 : Int) := by omega
        obtain ⟨W21, hW21⟩ : ∃ W, W = W20.setCell ⟨X, 7, none⟩ (.int .u8 (x7 : Int)) := ⟨_, rfl⟩
        have HS21 : Hid (OSt w W21 P X N (some ad) c b 26 (ckA ⟨x0, x1, x2, x3, x4, x5, x6, x7, 0, 0, 0⟩)) := by show OSt _ _ _ _ _ _ _ _ _ _; rw [hW21]; exact HS20.out.store
        have HW21 := Lib.hid hW21
        clear ht hg HC hW21 HS19 HS20
        go_upto_region 20 with (fail)
        rw [← HW21.out]
        clear HW21 cc ff ww wm
        have HC : Hid (Calls Tryd.prog 21 #[ptr P, .int .i64 4] W21 fun e w' => e = .returned (.int .u64 (x8 : Int)) ∧ TapeAt w' P (some ad) c b 30 false ∧ W21.grownBy w' (some P)) := by
          have := num_yes (n := 4) HS21.out.tape (by rw [HBL.out]; omega) (by omega)
          unfold Numbered at this
          rw [← HX8.out] at this
          exact this
        go_wp2_with fail
        refine HC.out.mono ?_
        rintro e W22 ⟨rfl, ht, hg⟩
        have HS22 := Lib.hid (HS21.out.step ht hg)
        have cc : W22.cell? ⟨X, 8, none⟩ = some (.int .u32 0) := HS22.out.blk.cell 8
        have ff := HS22.out.blk.frozen 8
        have ww : IntKind.u32.wrap (x8 : Int) = (x8 : Int) := by rw [IntKind.wrap_u32]; omega
        have wm : (x8 : Int) % 4294967296 = (x8 : Int) := by omega
        obtain ⟨W23, hW23⟩ : ∃ W, W = W22.setCell ⟨X, 8, none⟩ (.int .u32 (x8 : Int)) := ⟨_, rfl⟩
        have HS23 : Hid (OSt w W23 P X N (some ad) c b 30 (ckA ⟨x0, x1, x2, x3, x4, x5, x6, x7, x8, 0, 0⟩)) := by show OSt _ _ _ _ _ _ _ _ _ _; rw [hW23]; exact HS22.out.store
        have HW23 := Lib.hid hW23
        clear ht hg HC hW23 HS21 HS22
        go_upto_region 21 with (fail)
        rw [← HW23.out]
        clear HW23 cc ff ww wm
        have HC : Hid (Calls Tryd.prog 21 #[ptr P, .int .i64 4] W23 fun e w' => e = .returned (.int .u64 (x9 : Int)) ∧ TapeAt w' P (some ad) c b 34 false ∧ W23.grownBy w' (some P)) := by
          have := num_yes (n := 4) HS23.out.tape (by rw [HBL.out]; omega) (by omega)
          unfold Numbered at this
          rw [← HX9.out] at this
          exact this
        go_wp2_with fail
        refine HC.out.mono ?_
        rintro e W24 ⟨rfl, ht, hg⟩
        have HS24 := Lib.hid (HS23.out.step ht hg)
        have cc : W24.cell? ⟨X, 9, none⟩ = some (.int .u32 0) := HS24.out.blk.cell 9
        have ff := HS24.out.blk.frozen 9
        have ww : IntKind.u32.wrap (x9 : Int) = (x9 : Int) := by rw [IntKind.wrap_u32]; omega
        have wm : (x9 : Int) % 4294967296 = (x9 : Int) := by omega
        obtain ⟨W25, hW25⟩ : ∃ W, W = W24.setCell ⟨X, 9, none⟩ (.int .u32 (x9 : Int)) := ⟨_, rfl⟩
        have HS25 : Hid (OSt w W25 P X N (some ad) c b 34 (ckA ⟨x0, x1, x2, x3, x4, x5, x6, x7, x8, x9, 0⟩)) := by show OSt _ _ _ _ _ _ _ _ _ _; rw [hW25]; exact HS24.out.store
        have HW25 := Lib.hid hW25
        clear ht hg HC hW25 HS23 HS24
        go_upto_region 22 with (fail)
        rw [← HW25.out]
        clear HW25 cc ff ww wm
        have HC : Hid (Calls Tryd.prog 21 #[ptr P, .int .i64 4] W25 fun e w' => e = .returned (.int .u64 (x10 : Int)) ∧ TapeAt w' P (some ad) c b 38 false ∧ W25.grownBy w' (some P)) := by
          have := num_yes (n := 4) HS25.out.tape (by rw [HBL.out]; omega) (by omega)
          unfold Numbered at this
          rw [← HX10.out] at this
          exact this
        go_wp2_with fail
        refine HC.out.mono ?_
        rintro e W26 ⟨rfl, ht, hg⟩
        have HS26 := Lib.hid (HS25.out.step ht hg)
        have cc : W26.cell? ⟨X, 10, none⟩ = some (.int .u32 0) := HS26.out.blk.cell 10
        have ff := HS26.out.blk.frozen 10
        have ww : IntKind.u32.wrap (x10 : Int) = (x10 : Int) := by rw [IntKind.wrap_u32]; omega
        have wm : (x10 : Int) % 4294967296 = (x10 : Int) := by omega
        obtain ⟨W27, hW27⟩ : ∃ W, W = W26.setCell ⟨X, 10, none⟩ (.int .u32 (x10 : Int)) := ⟨_, rfl⟩
        have HS27 : Hid (OSt w W27 P X N (some ad) c b 38 (ckA ⟨x0, x1, x2, x3, x4, x5, x6, x7, x8, x9, x10⟩)) := by show OSt _ _ _ _ _ _ _ _ _ _; rw [hW27]; exact HS26.out.store
        have HW27 := Lib.hid hW27
        clear ht hg HC hW27 HS25 HS26
        go_upto_region 23 with (fail)
        rw [← HW27.out]
        clear HW27 cc ff ww wm
        have c8 : W27.cell? ⟨X, 8, none⟩ = some (.int .u32 (x8 : Int)) := HS27.out.blk.cell 8
        obtain ⟨d, hd⟩ : ∃ d, d = Ser.dist (x8 : Int) (now : Int) := ⟨_, rfl⟩
        have hd0 : 0 ≤ d ∧ d < 4294967296 := by rw [hd]; unfold Ser.dist; omega
        have HDD := Lib.hid hd
        have HDC : Hid (∀ V : World, Calls Tryd.prog 22 #[.int .u32 (x8 : Int), .int .u32 (now : Int)] V fun e w' => e = .returned (.int .u64 d) ∧ V = w') := fun V => by rw [hd]; exact Ser.rdist_any _ _ (by omega) (by omega) V
        clear hd
        by_cases hst : 600 < d
        · have HO := Lib.hid (HOUT.out W27 zeroCK HS27.out.res HS27.out.below)
          have HE := Lib.hid (open_stale (kb := kb) (now := now) HBL.out H2.out HZZ.out.symm (by rw [HG.out]; show 600 < Ser.dist (x8 : Int) _; rw [← HDD.out]; exact hst))
          go_wp2_with (first
            | (go_at_call 22; refine (HDC.out _).mono ?_; rintro e w' ⟨rfl, rfl⟩)
            | (refine wpList_loadCk rfl _ rfl (N + 1) zeroCK rfl HS27.out.zer ?_)
            | (refine wpList_store_row rfl 26 _ _ rfl N (ckA zeroCK) rfl rfl 26 (ckA zeroCK) HS27.out.res (ck_size _) rfl (ck_one _) ?_))
          (try simp only [Exit.inBlock, Exit.then])
          refine bodyPost_ret (res_ck rfl _ _ N zeroCK rfl HO.out.1) rfl ?_
          exact ⟨by rw [HE.out]; rfl, HO.out.2⟩
        · have HO := Lib.hid (HOUT.out W27 ⟨x0, x1, x2, x3, x4, x5, x6, x7, x8, x9, x10⟩ HS27.out.res HS27.out.below)
          have HE := Lib.hid (open_ok (kb := kb) (now := now) HBL.out H2.out HZZ.out.symm (by rw [HG.out]; show ¬ 600 < Ser.dist (x8 : Int) _; rw [← HDD.out]; exact hst))
          go_wp2_with (first
            | (go_at_call 22; refine (HDC.out _).mono ?_; rintro e w' ⟨rfl, rfl⟩)
            | (refine wpList_loadCk rfl _ rfl X ⟨x0, x1, x2, x3, x4, x5, x6, x7, x8, x9, x10⟩ rfl HS27.out.blk ?_)
            | (refine wpList_store_row rfl 26 _ _ rfl N (ckA ⟨x0, x1, x2, x3, x4, x5, x6, x7, x8, x9, x10⟩) rfl rfl 26 (ckA zeroCK) HS27.out.res (ck_size _) rfl (ck_one _) ?_))
          (try simp only [Exit.inBlock, Exit.then])
          refine bodyPost_ret (res_ck rfl _ _ N ⟨x0, x1, x2, x3, x4, x5, x6, x7, x8, x9, x10⟩ rfl HO.out.1) rfl ?_
          exact ⟨by rw [HE.out, HG.out]; rfl, HO.out.2⟩
      · have hzi : ¬ ((z.toNat : Int) = 0) := fun e => hz0 (by
          apply UInt8.toNat_inj.1
          have : z.toNat = 0 := by omega
          rw [this]; rfl)
        have HE := Lib.hid (open_form (kb := kb) (now := now) HBL.out H2.out (by rw [← HZZ.out]; exact hz0))
        clear hz0
        go_wp2_with (first
          | (refine wpList_loadCk rfl _ rfl (N + 1) zeroCK rfl HZ3.out ?_)
          | (refine wpList_store_row rfl 26 _ _ rfl N (ckA zeroCK) rfl rfl 26 (ckA zeroCK) HR3.out (ck_size _) rfl (ck_one _) ?_))
        (try simp only [Exit.inBlock, Exit.then])
        refine bodyPost_ret (res_ck rfl _ _ N zeroCK rfl HO3.out.1) rfl ?_
        exact ⟨by rw [HE.out]; rfl, HO3.out.2⟩
    · have hq : (sb == b) = false := not_true_eq HNE.out
      have h2 : sealed kb (b.take 38) ≠ b := by
        rw [← HSB.out]
        intro e
        rw [e] at hq
        simp at hq
      have HE := Lib.hid (open_mac (kb := kb) (now := now) HBL.out h2)
      clear hq h2 HNE
      go_wp2_with (first
        | (refine wpList_loadCk rfl _ rfl (N + 1) zeroCK rfl HZ3.out ?_)
        | (refine wpList_store_row rfl 26 _ _ rfl N (ckA zeroCK) rfl rfl 26 (ckA zeroCK) HR3.out (ck_size _) rfl (ck_one _) ?_))
      (try simp only [Exit.inBlock, Exit.then])
      refine bodyPost_ret (res_ck rfl _ _ N zeroCK rfl HO3.out.1) rfl ?_
      exact ⟨by rw [HE.out]; rfl, HO3.out.2⟩
end Go.Proofs.YtmbgjijajakgeaaDoor.Cok

namespace Go.Proofs.YtmbgjijajakgeaaDoor.Cok
open Go.ChangeShapes Go.WideShapes Go.ChangeAt Go.RowKit Go.Deep Go.Proofs.YtmbgjijajakgeaaDoor.Words Go.Proofs.YtmbgjijajakgeaaDoor.Oct Go.Proofs.YtmbgjijajakgeaaDoor.Sha

theorem wpList_build0w {ops : Array Oper} {rest : List Oper} {o : Oper} {A : Act} {w : World} {Q : Exit → Act → World → Prop} (hgd : Region.wanted o (yielded ops A.tmps) = true) (ho : o.op = .build 26 #[])
    (h : wpList Tryd.prog ops Q rest (A.put o.dst (.agg (ckA zeroCK))) w) : wpList Tryd.prog ops Q (o :: rest) A w :=
  BigFrame.wpList_want hgd fun _ hK => by
    refine wp_build _ _ ho ?_ ?_
    · simp only [List.map_toArray, List.map_nil, built0]; rfl
    · simp only [List.map_toArray, List.map_nil, built0]; exact hK _ _ h
theorem wpList_restoreCk {ops : Array Oper} {rest : List Oper} {o : Oper} {a : Act} {w : World} {Q : Exit → Act → World → Prop} {g : Nat} {c d : CK} (hgd : o.guard = none) (x y : Operand) (ho : o.op = .store 26 x y) (hx : a.eval x = .pointer (some ⟨g, 0, none⟩)) (hy : a.eval y = .agg (ckA c))
    (hb : Blk w g 26 (ckA d)) (h : wpList Tryd.prog ops Q rest (a.put o.dst undef) (w.setRow g (ckA c))) : wpList Tryd.prog ops Q (o :: rest) a w :=
  wpList_store_row hgd 26 x y ho g (ckA c) hx hy 26 (ckA d) hb (ck_size _) rfl (ck_one _) h
theorem load_ck {w : World} {g : Nat} {c : CK} (h : Blk w g 26 (ckA c)) : (Instr.loadAt 26 (.pointer (some ⟨g, 0, none⟩))).run Tryd.prog w = .ok (.agg (ckA c)) w := by
  have := run_loadVar_row (P := Tryd.prog) w g 26 26 (ckA c) (0, 0) _ h Tryd.underlying26 rfl (ck_size _)
  simp [Instr.loadAt, Instr.sureAddr, this]
end Go.Proofs.YtmbgjijajakgeaaDoor.Cok
