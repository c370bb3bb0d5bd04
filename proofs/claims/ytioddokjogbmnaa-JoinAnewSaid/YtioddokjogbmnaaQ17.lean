/-
  Of the texts JoinAnewWalk: what the laws reach.
-/
import Derived.Test.YtioddokjogbmnaaRows
import Derived.Test.YtioddokjogbmnaaQ6
import Derived.WalkKit
import Derived.ProofKit
import Derived.OpenShut
import Derived.ShutString
import Derived.ChangeOld
import Derived.Below

namespace Go.Proofs.Ytioddokjogbmnaa.joinAnew
open Go.ChangeShapes Go.WideShapes Go.ChangeAt Go.RowKit
open Go.ChangeMaps (open_string shut_string)
set_option linter.unusedVariables false
set_option linter.unusedSimpArgs false
theorem own : ownKnob Try.prog.godebug = none := by kernel_rfl
theorem laidOut : laidOutB Try.prog = true := by kernel_rfl
/-- What the walk is told of a slice of integers that came in. -/
def IsRow (k : IntKind) (w : World) (a : Option Addr) (len cap : Nat) (zs : List Int) : Prop :=
  (a = none ∧ len = 0 ∧ cap = 0 ∧ zs = []) ∨
  ∃ x, a = some x ∧ len ≤ cap ∧ cap ≤ maxLen ∧ zs.length = cap ∧ (∀ i, i < zs.length → w.cell? (x.add i) = some (.int k (zs.getD i 0))) ∧ ∀ n ∈ zs, (Lit.int k n).wf = true
open Words Oct Par Chk
theorem nat_u8 {x : Int} (h : (Lit.int .u8 x).wf = true) : ∃ n : Nat, x = n ∧ n < 256 := by
  have := bounds_u8 h
  exact ⟨x.toNat, by omega, by omega⟩
theorem built_oneE (kd st mid tsn : Nat) (x : UInt8) (A : Option Addr) {e : Int} (h : e = (tsn : Int)) : Try.prog.built 41 [(0, .int .u8 (kd : Int)), (1, .bool true), (2, .bool true), (6, .int .u16 (st : Int)), (7, .int .u32 (mid : Int)), (5, .int .u32 e), (18, .slice A 1 1)] = some (ckArr (oneCk kd st mid tsn x) nilV nilV nilV nilV (.slice A 1 1)) := by subst h; exact built_one kd st mid tsn x A
theorem wpList_build_pc {P : Program} {ops : Array Oper} {rest : List Oper} {o : Oper} {a : Act} {w : World} {Q : Exit → Act → World → Prop} (hg : o.guard = none) (t : TypeId) {x0 x1 x2 x6 x7 x5 x18 : Operand} (ho : o.op = .build t #[(0, x0), (1, x1), (2, x2), (6, x6), (7, x7), (5, x5), (18, x18)]) (v0 v1 v2 v6 v7 v5 v18 : Value)
    (h0 : a.eval x0 = v0) (h1 : a.eval x1 = v1) (h2 : a.eval x2 = v2) (h6 : a.eval x6 = v6) (h7 : a.eval x7 = v7) (h5 : a.eval x5 = v5) (h18 : a.eval x18 = v18) (cells : Array Value)
    (hf : P.built t [(0, v0), (1, v1), (2, v2), (6, v6), (7, v7), (5, v5), (18, v18)] = some cells) (h : wpList P ops Q rest (a.put o.dst (.agg cells)) w) : wpList P ops Q (o :: rest) a w := by
  subst h0 h1 h2 h6 h7 h5 h18
  exact wpList_build_as hg t _ ho cells (by simpa using hf) h
theorem nxA (c : Nat → Nat) (j i : Nat) (h : i = c j % 20) (t : Nat) : (if t < j then c t % 20 else if t = j then i else 0) = if t < j + 1 then c t % 20 else 0 := by
  by_cases h1 : t < j
  · rw [if_pos h1, if_pos (by omega)]
  · rw [if_neg h1]
    by_cases h2 : t = j
    · rw [if_pos h2, if_pos (by omega), h, h2]
    · rw [if_neg h2, if_neg (by omega)]
theorem nxB (c : Nat → Nat) (j i t : Nat) : (if t = j then i + 1 else if t < j then c t % 20 else if t = j then i else 0) = if t < j then c t % 20 else if t = j then i + 1 else 0 := by
  by_cases h1 : t = j
  · rw [if_pos h1, if_neg (by omega), if_pos h1]
  · rw [if_neg h1, if_neg h1, if_neg h1]
theorem nxD (f : Nat → Nat) (j i : Nat) (h : i = f j) (t : Nat) : (if t = j then i + 1 else if t < j then f t + 1 else f t) = if t < j + 1 then f t + 1 else f t := by
  by_cases h1 : t = j
  · rw [if_pos h1, if_pos (by omega), h, h1]
  · rw [if_neg h1]
    by_cases h2 : t < j
    · rw [if_pos h2, if_pos (by omega)]
    · rw [if_neg h2, if_neg (by omega)]
def cntA (y0 y1 y2 : Nat) (t : Nat) : Nat := if t = 0 then y0 else if t = 1 then y1 else y2
set_option maxHeartbeats 1600000 in
set_option maxRecDepth 100000 in
theorem walk {JRep : World → (Nat → Prop) → Nat → Bool → Jo.JS → Prop} (joinI : JoinI JRep) {H : Type} {enc : TypeId × Value → H} {base : Nat} (a0 : Bool) (v1 : Value) (d1 : DataW H) (p1 : List MemPlace) (a2 : Int) (w : World) (o1 : Value.okWide Try.prog w .any base 55 v1) (k1 : DataW.Trod enc Try.prog w 0 (fun _ => true) true 55 v1 d1 p1) (w2 : (Lit.int .u16 a2).wf = true) :
    Calls Try.prog 6 #[.bool a0, v1, .int .u16 a2] w fun e w' => e = .returned (.bool true) ∧ Below w.heap.size w w' := by
  have hw2 := bounds_u16 w2
  obtain ⟨x0, x1, x2, rfl, hx0, hx1, hx2⟩ := open_array3 Try.underlying55 (by kernel_rfl) Try.underlying5 (by kernel_rfl) o1 k1
  obtain ⟨y0, rfl, hy0⟩ := nat_u8 hx0
  obtain ⟨y1, rfl, hy1⟩ := nat_u8 hx1
  obtain ⟨y2, rfl, hy2⟩ := nat_u8 hx2
  obtain ⟨wn, rfl⟩ : ∃ wn : Nat, a2 = wn := ⟨a2.toNat, by omega⟩
  clear hx0 hx1 hx2 o1 k1 w2
  have kc := fun (w : World) (C : Array Value) (n c : Nat) => Lib.run_convert_bytes_const (P := Try.prog) w 39 5 C n c Try.underlying39 Try.underlying5
  go_enter Try.func6, Try.ntmps6
  go_upto_region 1 with (fail)
  obtain ⟨W1, hW1⟩ : ∃ W1, W1 = w.alloc (.cells #[.int .u8 (y0 : Int), .int .u8 (y1 : Int), .int .u8 (y2 : Int)] 55) := ⟨_, rfl⟩
  obtain ⟨ga, hga⟩ : ∃ ga, ga = w.heap.size := ⟨_, rfl⟩
  have HB1 : Hid (Below w.heap.size w W1) := by rw [hW1]; exact (Below.refl _ _).alloc (Nat.le_refl _) _
  have HA1 : Hid (Blk W1 ga 55 #[.int .u8 (y0 : Int), .int .u8 (y1 : Int), .int .u8 (y2 : Int)]) := by rw [hW1, hga]; exact Blk.new _ _ _
  have HCN : Hid (∀ {V : World}, Below W1.heap.size W1 V → ∀ j, j < 3 → V.cell? ⟨ga, j, none⟩ = some (.int .u8 (cntA y0 y1 y2 j : Int))) := fun {V} hb j hj => by
    have h := blk_below HA1.out hb HA1.out.lt
    have h0 := h.cell 0
    have h1 := h.cell 1
    have h2 := h.cell 2
    have e : j = 0 ∨ j = 1 ∨ j = 2 := by omega
    rcases e with rfl | rfl | rfl
    · exact h0
    · exact h1
    · exact h2
  rw [← hW1, ← hga]
  clear hW1 hga
  have hcb : ∀ j, cntA y0 y1 y2 j < 256 := fun j => by unfold cntA; repeat (first | omega | split)
  have HCB := Lib.hid hcb
  clear hcb
  go_wp2_with fail
  refine (first_j joinI W1).mono ?_
  rintro e W2 ⟨rfl, hb2⟩
  have HB2 := Lib.hid hb2
  clear hb2
  go_wp2_with fail
  refine (joinI.new W2 a0).mono ?_
  rintro e W3 ⟨G0, p, rfl, hr, hg, hb3⟩
  have HJ0 : Hid (AnJ JRep W2 W3 G0 p a0 (fun _ => 0) []) := ⟨js0, ⟨hr, hg, hb3⟩, rfl, rfl, rfl, fun _ => rfl⟩
  clear hr hg hb3
  obtain ⟨kd, hkd⟩ : ∃ kd : Nat, kd = if a0 = true then 64 else 0 := ⟨_, rfl⟩
  have HKD := Lib.hid hkd
  clear hkd
  go_upto_if 23 with (fail)
  go_cut [8] from 23 to 23 (fun u wx => u = .int .u8 (kd : Int) ∧ W3 = wx)
  case first =>
    cases a0
    · have hk0 : (0 : Int) = (kd : Int) := by have : kd = 0 := HKD.out; omega
      go_wp2_with fail
      go_meet
      exact ⟨by first | rfl | exact congrArg _ hk0, rfl⟩
    · have hk0 : (64 : Int) = (kd : Int) := by have : kd = 64 := HKD.out; omega
      go_wp2_with fail
      go_meet
      exact ⟨by first | rfl | exact congrArg _ hk0, rfl⟩
  case rest =>
    obtain ⟨rfl, rfl⟩ := hcut
    have hkd8 : kd < 256 := by have := HKD.out; split at this <;> omega
    have HJ1 : Hid (Below W1.heap.size W1 W3) := HB2.out.trans (HJ0.out.bel.mono HB2.out.size)
    go_wp2_with fail
    go_loopw [9, 24] (fun v9 v24 wr => ∃ (j T : Nat) (G : Nat → Prop), v9 = .int .u32 (T : Int) ∧ v24 = .int .u16 (j : Int) ∧ j ≤ 3 ∧ T ≤ 20 * j ∧ Hid (AnJ JRep W2 wr G p a0 (fun t => if t < j then cntA y0 y1 y2 t % 20 else 0) [])) (fun _ v24 _ => 3 - (intOf v24).toNat)
    case atStart => exact ⟨0, 0, G0, rfl, rfl, by omega, by omega, HJ0.out.as_ (fun t => by rw [if_neg (by omega)])⟩
    case round =>
      obtain ⟨j, T, G1, rfl, rfl, hj, hT, HJ⟩ := hrel
      by_cases hlt : j < 3
      · have cj := HCN.out (HB2.out.trans (HJ.out.bel.mono HB2.out.size)) j hlt
        have hy := HCB.out j
        obtain ⟨y, hye⟩ : ∃ y, y = cntA y0 y1 y2 j := ⟨_, rfl⟩
        rw [← hye] at cj hy
        have HYE := Lib.hid hye
        clear hye
        go_upto_region 12 with (fail)
        have hd : decide ((j : Int) < 3) = true := decide_eq_true (by omega)
        rw [hd]
        obtain ⟨wo, rfl⟩ : ∃ wo : World, wo = wr := ⟨_, rfl⟩
        go_loopw [9, 32] (fun v9 v32 wi => ∃ (i : Nat) (G : Nat → Prop), v9 = .int .u32 ((T + i : Nat) : Int) ∧ v32 = .int .u32 (i : Int) ∧ i ≤ y % 20 ∧ Hid (AnJ JRep W2 wi G p a0 (fun t => if t < j then cntA y0 y1 y2 t % 20 else if t = j then i else 0) [])) (fun _ v32 _ => y % 20 - (intOf v32).toNat)
        case atStart => exact ⟨0, G1, rfl, rfl, by omega, HJ.out.as_ (fun t => by simp)⟩
        case round =>
          obtain ⟨i, G, rfl, rfl, hi, HI⟩ := hrel
          by_cases hi2 : i < y % 20
          · have hok : (oneCk kd j i (T + i + 1) 120).ok := oneCk_ok (by omega) (by omega) (by omega) (by omega)
            go_wp2_with (refine wpList_build_pc rfl 41 rfl (.int .u8 (kd : Int)) (.bool true) (.bool true) (.int .u16 (j : Int)) (.int .u32 (i : Int)) (.int .u32 ((T : Int) + i + 1)) (.slice (some ⟨wr.heap.size, 0, none⟩) 1 1) rfl rfl rfl rfl rfl rfl rfl _ (built_oneE kd j i (T + i + 1) 120 _ (by omega)) ?_)
            refine (HI.out.put joinI (oneCk kd j i (T + i + 1) 120) 120 HKD.out hok rfl rfl rfl rfl rfl rfl rfl rfl rfl (by show i = (if j < j then cntA y0 y1 y2 j % 20 else if j = j then i else 0); simp) (by show i ≤ 30000; omega) _ rfl).mono ?_
            rintro e W4 ⟨rfl, G4, H4⟩
            go_wp2_with fail
            refine (H4.out.take joinI).mono ?_
            rintro e W5 ⟨m, A, n, cp, G5, rfl, hm, H5⟩
            obtain ⟨x1, x2, x3, x4, x5⟩ := m
            simp only [mCells]
            go_upto_region 18 with (fail)
            obtain ⟨W6, hW6⟩ : ∃ W6, W6 = W5.alloc (.cells #[.int .u16 (x1 : Int), .bool x2, .int .u32 (x3 : Int), .int .u32 (x4 : Int), .slice A n cp] 43) := ⟨_, rfl⟩
            have H6 := Lib.hid (H5.out.grows joinI (V' := W6) (by rw [hW6]; exact (Below.refl W5.heap.size W5).alloc (Nat.le_refl _) (.cells #[.int .u16 (x1 : Int), .bool x2, .int .u32 (x3 : Int), .int .u32 (x4 : Int), .slice A n cp] 43)))
            rw [← hW6]
            clear hW6 H5 hm H4 HI
            go_wp2_with fail
            go_roundw
            case rel =>
              exact ⟨i + 1, G5, by go_num, by go_num, by omega, H6.out.as_ (fun t => nxB (cntA y0 y1 y2) j i t)⟩
            case measure => simp [intOf]; omega
          · have hie : i = cntA y0 y1 y2 j % 20 := by have := HYE.out; omega
            go_wp2_with fail
            go_roundw
            case rel => exact ⟨j + 1, T + i, G, rfl, by go_num, by omega, by omega, HI.out.as_ (fun t => nxA (cntA y0 y1 y2) j i hie t)⟩
            case measure => simp [intOf]; omega
      · obtain rfl : j = 3 := by omega
        go_wp2_with fail
        obtain ⟨wv, hwv⟩ : ∃ wv : Nat, wv = wn % 3 := ⟨_, rfl⟩
        have hwi : (wn : Int) % 3 = (wv : Int) := by omega
        rw [hwi]
        have hw3 : wv < 3 := by omega
        clear hwi hwv
        refine (HJ.out.reset joinI (st := wv) _ rfl (by omega)).mono ?_
        rintro e W4 ⟨rfl, G4, H4⟩
        obtain ⟨nw, hnw⟩ : ∃ nw : Nat → Nat, nw = fun t => if t = wv then 0 else if t < 3 then cntA y0 y1 y2 t % 20 else 0 := ⟨_, rfl⟩
        have H5 : Hid (AnJ JRep W2 W4 G4 p a0 nw []) := by rw [hnw]; exact H4.out
        have HNW : Hid (∀ t, t < 3 → nw t = if t = wv then 0 else cntA y0 y1 y2 t % 20) := fun t ht => by
          rw [hnw]
          show (if t = wv then 0 else if t < 3 then cntA y0 y1 y2 t % 20 else 0) = _
          rw [if_pos ht]
        clear hnw H4 HJ hw3
        go_upto_region 25 with (fail)
        obtain ⟨wo, rfl⟩ : ∃ wo : World, wo = W4 := ⟨_, rfl⟩
        go_loopw [9, 62] (fun v9 v62 wr => ∃ (s T : Nat) (G : Nat → Prop), v9 = .int .u32 (T : Int) ∧ v62 = .int .u16 (s : Int) ∧ s ≤ 3 ∧ T ≤ 60 + s ∧ Hid (AnJ JRep W2 wr G p a0 (fun t => if t < s then nw t + 1 else nw t) [])) (fun _ v62 _ => 3 - (intOf v62).toNat)
        case atStart => exact ⟨0, T, G4, rfl, rfl, by omega, by omega, H5.out.as_ (fun t => by simp)⟩
        case round =>
          obtain ⟨s, T5, G5, rfl, rfl, hs, hT5, HI⟩ := hrel
          by_cases hlt : s < 3
          · have cj := HCN.out (HB2.out.trans (HI.out.bel.mono HB2.out.size)) s hlt
            have hy := HCB.out s
            have hmi := HNW.out s hlt
            obtain ⟨y, hye⟩ : ∃ y, y = cntA y0 y1 y2 s := ⟨_, rfl⟩
            rw [← hye] at cj hy hmi
            clear hye
            obtain ⟨mi, hmie⟩ : ∃ mi, mi = nw s := ⟨_, rfl⟩
            rw [← hmie] at hmi
            have HMI := Lib.hid hmi
            have HMIE := Lib.hid hmie
            clear hmi hmie
            go_upto_if 72 with (fail)
            go_cut [16] from 72 to 72 (fun u wx => u = .int .u32 (mi : Int) ∧ wr = wx)
            case first =>
              by_cases hsw : s = wv
              · have hk0 : (0 : Int) = (mi : Int) := by have := HMI.out; rw [if_pos hsw] at this; omega
                go_wp2_with fail
                go_meet
                exact ⟨by first | rfl | exact congrArg _ hk0, rfl⟩
              · have hk0 : (y : Int) % 20 = (mi : Int) := by have := HMI.out; rw [if_neg hsw] at this; omega
                go_wp2_with fail
                go_meet
                exact ⟨by first | rfl | exact congrArg _ hk0, rfl⟩
            case rest =>
              obtain ⟨rfl, rfl⟩ := hcut
              have hmb : mi < 20 := by have := HMI.out; split at this <;> omega
              have hok : (oneCk kd s mi (T5 + 1) 121).ok := oneCk_ok (by omega) (by omega) (by omega) (by omega)
              go_wp2_with (refine wpList_build_pc rfl 41 rfl (.int .u8 (kd : Int)) (.bool true) (.bool true) (.int .u16 (s : Int)) (.int .u32 (mi : Int)) (.int .u32 ((T5 : Int) + 1)) (.slice (some ⟨wr.heap.size, 0, none⟩) 1 1) rfl rfl rfl rfl rfl rfl rfl _ (built_oneE kd s mi (T5 + 1) 121 _ (by omega)) ?_)
              refine (HI.out.put joinI (oneCk kd s mi (T5 + 1) 121) 121 HKD.out hok rfl rfl rfl rfl rfl rfl rfl rfl rfl (by show mi = (if s < s then nw s + 1 else nw s); rw [if_neg (Nat.lt_irrefl s)]; exact HMIE.out) (by show mi ≤ 30000; omega) _ rfl).mono ?_
              rintro e W6 ⟨rfl, G6, H6⟩
              go_wp2_with fail
              refine (H6.out.take joinI).mono ?_
              rintro e W7 ⟨m, A, n, cp, G7, rfl, hm, H7⟩
              obtain ⟨x1, x2, x3, x4, x5⟩ := m
              have e1 : x1 = s := congrArg Jo.Ms.st hm.out
              have e3 : x3 = mi := congrArg Jo.Ms.mid hm.out
              simp only [mCells]
              rw [e1, e3]
              clear e1 e3 hm H6 HI
              go_upto_region 34 with (fail)
              obtain ⟨W8, hW8⟩ : ∃ W8, W8 = W7.alloc (.cells #[.int .u16 (s : Int), .bool x2, .int .u32 (mi : Int), .int .u32 (x4 : Int), .slice A n cp] 43) := ⟨_, rfl⟩
              obtain ⟨gm, hgm⟩ : ∃ gm, gm = W7.heap.size := ⟨_, rfl⟩
              have H8 := Lib.hid (H7.out.grows joinI (V' := W8) (by rw [hW8]; exact (Below.refl W7.heap.size W7).alloc (Nat.le_refl _) (.cells #[.int .u16 (s : Int), .bool x2, .int .u32 (mi : Int), .int .u32 (x4 : Int), .slice A n cp] 43)))
              have hm8 : Blk W8 gm 43 #[.int .u16 (s : Int), .bool x2, .int .u32 (mi : Int), .int .u32 (x4 : Int), .slice A n cp] := by rw [hW8, hgm]; exact Blk.new _ _ _
              have c0 := hm8.cell 0
              have c2 := hm8.cell 2
              rw [← hW8, ← hgm]
              clear hW8 hgm hm8 H7
              go_wp2_with fail
              go_roundw
              case rel => exact ⟨s + 1, T5 + 1, G7, by go_num, by go_num, by omega, by omega, H8.out.as_ (fun t => nxD nw s mi HMIE.out t)⟩
              case measure => simp [intOf]; omega
          · have HHC := Lib.hid (HI.out.held joinI)
            go_wp2_with fail
            refine HHC.out.mono ?_
            rintro e W6 ⟨rfl, H6⟩
            go_wp2_with fail
            go_ret
            exact ⟨rfl, HB1.out.trans ((HB2.out.trans (H6.out.bel.mono HB2.out.size)).mono HB1.out.size)⟩
end Go.Proofs.Ytioddokjogbmnaa.joinAnew
