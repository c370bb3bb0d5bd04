/-
  Of the texts JoinSkipsWalk: what the laws reach.
-/
import Derived.Test.YtioddokjogbmnaaRows
import Derived.Test.YtioddokjogbmnaaQ6
import Derived.WalkKit
import Derived.ProofKit
import Derived.OpenShut
import Derived.ShutString
import Derived.ChangeOld
import Derived.Below

namespace Go.Proofs.Ytioddokjogbmnaa.joinSkips
open Go.ChangeShapes Go.WideShapes Go.ChangeAt Go.RowKit
open Go.ChangeMaps (open_string shut_string)
set_option linter.unusedVariables false
set_option linter.unusedSimpArgs false
theorem own : ownKnob Try.prog.godebug = none := by kernel_rfl
theorem laidOut : laidOutB Try.prog = true := by kernel_rfl
/-- What the walk is told of a slice of integers that came in. -/
def IsRow (k : IntKind) (w : World) (a : Option Addr) (len cap : Nat) (zs : List Int) : Prop :=
  (a = none ∧ len = 0 ∧ cap = 0 ∧ zs = []) ∨
  ∃ x, a = some x ∧ len ≤ cap ∧ cap ≤ maxLen ∧ zs.length = cap ∧ (∀ i, i < zs.length → w.cell? (x.add i) = some (.int k (zs.getD i 0))) ∧ ∀ n ∈ zs, (Lit.int k n).wf = true
open Words Oct Par Chk
theorem built_oneE (kd st mid tsn : Nat) (x : UInt8) (A : Option Addr) {e : Int} (h : e = (tsn : Int)) : Try.prog.built 41 [(0, .int .u8 (kd : Int)), (1, .bool true), (2, .bool true), (6, .int .u16 (st : Int)), (7, .int .u32 (mid : Int)), (5, .int .u32 e), (18, .slice A 1 1)] = some (ckArr (oneCk kd st mid tsn x) nilV nilV nilV nilV (.slice A 1 1)) := by subst h; exact built_one kd st mid tsn x A
theorem wpList_build_pc {P : Program} {ops : Array Oper} {rest : List Oper} {o : Oper} {a : Act} {w : World} {Q : Exit → Act → World → Prop} (hg : o.guard = none) (t : TypeId) {x0 x1 x2 x6 x7 x5 x18 : Operand} (ho : o.op = .build t #[(0, x0), (1, x1), (2, x2), (6, x6), (7, x7), (5, x5), (18, x18)]) (v0 v1 v2 v6 v7 v5 v18 : Value)
    (h0 : a.eval x0 = v0) (h1 : a.eval x1 = v1) (h2 : a.eval x2 = v2) (h6 : a.eval x6 = v6) (h7 : a.eval x7 = v7) (h5 : a.eval x5 = v5) (h18 : a.eval x18 = v18) (cells : Array Value)
    (hf : P.built t [(0, v0), (1, v1), (2, v2), (6, v6), (7, v7), (5, v5), (18, v18)] = some cells) (h : wpList P ops Q rest (a.put o.dst (.agg cells)) w) : wpList P ops Q (o :: rest) a w := by
  subst h0 h1 h2 h6 h7 h5 h18
  exact wpList_build_as hg t _ ho cells (by simpa using hf) h
theorem bools_of {w : World} {A : Option Addr} {n : Nat} (h : ∀ i, i < n → ∃ a cs', A = some a ∧ cs'.length = Sh.bool.size ∧ (∀ j u, cs'[j]? = some u → w.cell? (a.add (i * Sh.bool.size + j)) = some u) ∧ Sees w .bool cs') :
    ∃ th : Nat → Bool, ∀ i, i < n → ∃ a, A = some a ∧ w.cell? (a.add i) = some (.bool (th i)) := by
  have h' : ∀ i, i < n → ∃ b, ∃ a, A = some a ∧ w.cell? (a.add i) = some (.bool b) := fun i hi => by
    obtain ⟨a, cs', hA, _, hc, b, rfl⟩ := h i hi
    have := hc 0 _ rfl
    rw [show i * Sh.bool.size + 0 = i from Nat.mul_one i] at this
    exact ⟨b, a, hA, this⟩
  refine ⟨fun i => if hi : i < n then Classical.choose (h' i hi) else false, fun i hi => ?_⟩
  have e : (if hi : i < n then Classical.choose (h' i hi) else false) = Classical.choose (h' i hi) := dif_pos hi
  show ∃ a, A = some a ∧ w.cell? (a.add i) = some (.bool (if hi : i < n then Classical.choose (h' i hi) else false))
  rw [e]
  exact Classical.choose_spec (h' i hi)
def LastOf (th : Nat → Bool) (i : Nat) (v : Value) : Prop := (v = .int .i64 (-1) ∧ ∀ j, j < i → th j = true) ∨ ∃ l : Nat, l < i ∧ v = .int .i64 (l : Int) ∧ th l = false ∧ ∀ j, l < j → j < i → th j = true
theorem LastOf.more {th : Nat → Bool} {i : Nat} {v : Value} (h : LastOf th i v) (hi : th i = true) : LastOf th (i + 1) v := by
  have k : ∀ j, j < i + 1 → j = i ∨ j < i := fun j hj => by omega
  rcases h with ⟨h1, h2⟩ | ⟨l, h1, h2, h3, h4⟩
  · exact .inl ⟨h1, fun j hj => by rcases k j hj with rfl | h; exact hi; exact h2 j h⟩
  · exact .inr ⟨l, by omega, h2, h3, fun j hl hj => by rcases k j hj with rfl | h; exact hi; exact h4 j hl h⟩
set_option maxHeartbeats 1600000 in
set_option maxRecDepth 100000 in
theorem walk {JRep : World → (Nat → Prop) → Nat → Bool → Jo.JS → Prop} (joinI : JoinI JRep) {H : Type} {enc : TypeId × Value → H} {base : Nat} (a0 : Bool) (v1 : Value) (d1 : DataW H) (p1 : List MemPlace) (a2 : Option Addr) (len2 cap2 : Nat) (z2 : List Int) (w : World) (o1 : Value.okWide Try.prog w .any base 50 v1) (k1 : DataW.Trod enc Try.prog w 0 (fun _ => true) true 50 v1 d1 p1) (w2 : IsRow .i64 w a2 len2 cap2 z2) :
    Calls Try.prog 5 #[.bool a0, v1, .slice a2 len2 cap2] w fun e w' => e = .returned (.bool true) ∧ Below w.heap.size w w' := by
  obtain ⟨A1, nt, ct, rfl⟩ := okWide_slice Try.underlying50 o1
  have hsee : Sees w (.slice .bool) [.slice A1 nt ct] := sees_of (sh := .slice .bool) rfl (by kernel_rfl) k1
  obtain ⟨A1', nt', ct', he, hct, hct63, hel⟩ := Sees.elems hsee
  injection he with e1 e2 e3
  subst e1 e2 e3
  obtain ⟨th, hth⟩ := bools_of hel
  have keep : ∀ {V : World}, Below w.heap.size w V → ∀ {p : Addr} {u : Value}, w.cell? p = some u → V.cell? p = some u := fun {V} hb {p u} h => (hb.cell (World.block_lt_of_cell? w _ h)).trans h
  have HTH : Hid (∀ {V : World}, Below w.heap.size w V → ∀ i, i < nt → ∃ a, A1 = some a ∧ V.cell? (a.add i) = some (.bool (th i))) := fun {V} hb i hi => by
    obtain ⟨a, h1, h2⟩ := hth i hi
    exact ⟨a, h1, keep hb h2⟩
  have HZ : Hid (∀ {V : World}, Below w.heap.size w V → ∀ i, i < len2 → ∃ a z, a2 = some a ∧ V.cell? (a.add i) = some (.int .i64 z) ∧ (Lit.int .i64 z).wf = true) := fun {V} hb i hi => by
    rcases w2 with ⟨_, h2, _⟩ | ⟨x, h1, h2, h3, h4, h5, h6⟩
    · omega
    · have hl : i < z2.length := by omega
      refine ⟨x, z2.getD i 0, h1, keep hb (h5 i hl), h6 _ ?_⟩
      rw [List.getD_eq_getElem?_getD, List.getElem?_eq_getElem hl]
      exact List.getElem_mem hl
  have hlen : len2 ≤ 9223372036854775807 := by
    rcases w2 with ⟨_, h2, _⟩ | ⟨x, h1, h2, h3, _⟩
    · omega
    · unfold maxLen at h3; omega
  have hnt : nt ≤ 9223372036854775807 := by omega
  clear w2 hth keep hel hsee o1 k1 hct hct63
  go_enter Try.func5, Try.ntmps5
  go_wp2_with fail
  refine (first_j joinI w).mono ?_
  rintro e W2 ⟨rfl, hb2⟩
  have HB2 := Lib.hid hb2
  clear hb2
  go_upto_region 4 with (fail)
  obtain ⟨n, hn⟩ : ∃ n, n = min nt 30 := ⟨_, rfl⟩
  have hni : (if (30 : Int) < (nt : Int) then (30 : Int) else (nt : Int)) = (n : Int) := by split <;> omega
  first | rw [hni] | rw [show min (nt : Int) 30 = (n : Int) by omega]
  have hn30 : n ≤ 30 := by omega
  have hnnt : n ≤ nt := by omega
  clear hni hn
  go_wp2_with fail
  refine (joinI.new W2 a0).mono ?_
  rintro e W3 ⟨G0, p, rfl, hr, hg, hb3⟩
  obtain ⟨kd, hkd⟩ : ∃ kd : Nat, kd = if a0 = true then 64 else 0 := ⟨_, rfl⟩
  have HK0 : Hid (SkJ JRep W2 W3 G0 p a0 kd n (fun _ _ => false)) := SkJ.new hn30 ⟨hr, hg, hb3⟩
  have HKD := Lib.hid hkd
  clear hr hg hb3 hkd
  go_upto_if 27 with (fail)
  go_cut [9] from 27 to 27 (fun u wx => u = .int .u8 (kd : Int) ∧ W3 = wx)
  case first =>
    cases a0
    · have hk0 : (0 : Int) = (kd : Int) := by have : kd = 0 := HKD.out; omega
      go_wp2_with fail
      go_meet
      exact ⟨by first | rfl | exact congrArg _ hk0, rfl⟩
    · have hk0 : (64 : Int) = (kd : Int) := by have : kd = 64 := HKD.out; omega
      go_wp2_with fail
      go_meet
      exact ⟨by first | rfl | exact congrArg _ hk0, rfl⟩
  case rest =>
    obtain ⟨rfl, rfl⟩ := hcut
    have hkd8 : kd < 256 := by have := HKD.out; split at this <;> omega
    go_step
    go_step
    go_cut [10, 11, 31] from 28 to 60 (fun _ _ _ wx => ∃ (G : Nat → Prop) (S : Nat → Nat → Bool), Hid (SkJ JRep W2 wx G p a0 kd n S) ∧ Hid (∀ j, S j 0 = true → j < n ∧ th j = true))
    case first =>
      go_step
      go_cut [30, 31] from 28 to 31 (fun v30 v31 wx => ∃ b : Nat, v30 = .int .i64 (b : Int) ∧ v31 = .int .i64 0 ∧ b ≤ 60 ∧ b ≤ len2 ∧ W3 = wx)
      case first =>
        by_cases h60 : 60 < len2
        · have h60' : (60 : Int) < (len2 : Int) := by omega
          go_wp2_with fail
          go_meet
          exact ⟨60, rfl, rfl, by omega, by omega, rfl⟩
        · have h60' : ¬ (60 : Int) < (len2 : Int) := by omega
          go_wp2_with fail
          go_meet
          exact ⟨len2, rfl, rfl, by omega, by omega, rfl⟩
      obtain ⟨b, rfl, rfl, hb60, hbl, rfl⟩ := hcut
      go_upto_region 9 with (fail)
      obtain ⟨wo, rfl⟩ : ∃ wo : World, wo = W3 := ⟨_, rfl⟩
      go_loopw [31] (fun v31 wr => ∃ (i : Nat) (G : Nat → Prop) (S : Nat → Nat → Bool), v31 = .int .i64 (i : Int) ∧ i ≤ b ∧ Hid (SkJ JRep W2 wr G p a0 kd n S) ∧ Hid (∀ j, S j 0 = true → j < n ∧ th j = true)) (fun v31 _ => b - (intOf v31).toNat)
      case atStart => exact ⟨0, G0, _, rfl, by omega, HK0, fun j h => by cases h⟩
      case round =>
        obtain ⟨i, G, S, rfl, hi, HI, HS⟩ := hrel
        by_cases hlt : i < b
        · by_cases hn0 : n = 0
          · have hnz : (n : Int) = 0 := by omega
            go_wp2_with fail
            go_meet
            exact ⟨G, S, HI, HS⟩
          · have hnz : (n : Int) ≠ 0 := by omega
            obtain ⟨a, z, rfl, cz, hz⟩ := HZ.out (HB2.out.trans (HI.out.bel.mono HB2.out.size)) i (by omega)
            have hz := bounds_i64 hz
            go_upto_region 13 with (fail)
            obtain ⟨k, hk1, hk⟩ := u64rem z (n : Int) (by omega) (by omega)
            have hk : k < n := by omega
            rw [hk1]
            clear hk1
            obtain ⟨ad, rfl, cb⟩ := HTH.out (HB2.out.trans (HI.out.bel.mono HB2.out.size)) k (by omega)
            cases htk : th k
            · rw [htk] at cb
              go_wp2_with fail
              go_roundw
              case rel => exact ⟨i + 1, G, S, by go_num, by omega, HI, HS⟩
              case measure => simp [intOf]; omega
            · rw [htk] at cb
              go_upto_region 14 with (fail)
              go_wp2_with fail
              refine (HI.out.put joinI hn30 HKD.out hk _ rfl).mono ?_
              rintro e W5 ⟨r, S5, G5, rfl, H5, hS1, hS2⟩
              have HS5 : Hid (∀ j, S5 j 0 = true → j < n ∧ th j = true) := fun j h => by
                by_cases hj : j = k
                · exact hj ▸ ⟨hk, htk⟩
                · exact HS.out j ((hS2 j hj).symm.trans h)
              clear hS1 hS2
              go_wp2_with fail
              go_roundw
              case rel => exact ⟨i + 1, G5, S5, by go_num, by omega, H5, HS5⟩
              case measure => simp [intOf]; omega
        · go_wp2_with fail
          go_meet
          exact ⟨G, S, HI, HS⟩
    case rest =>
      obtain ⟨G1, S1, HI1, HS1⟩ := hcut
      go_step
      go_step
      go_cut [12, 62] from 61 to 80 (fun _ _ wx => ∃ (G : Nat → Prop) (S : Nat → Nat → Bool), Hid (SkJ JRep W2 wx G p a0 kd n S) ∧ Hid (∀ j, j < n → S j 0 = th j))
      case first =>
        go_upto_region 17 with (fail)
        obtain ⟨wo, rfl⟩ : ∃ wo : World, wo = wc := ⟨_, rfl⟩
        go_loopw [62] (fun v62 wr => ∃ (i : Nat) (G : Nat → Prop) (S : Nat → Nat → Bool), v62 = .int .i64 (i : Int) ∧ i ≤ n ∧ Hid (SkJ JRep W2 wr G p a0 kd n S) ∧ Hid (∀ j, S j 0 = true → j < n ∧ th j = true) ∧ Hid (∀ j, j < i → th j = true → S j 0 = true)) (fun v62 _ => n - (intOf v62).toNat)
        case atStart => exact ⟨0, G1, S1, rfl, by omega, HI1, HS1, fun j h => absurd h (Nat.not_lt_zero j)⟩
        case round =>
          obtain ⟨i, G, S, rfl, hi, HI, HS, HD⟩ := hrel
          by_cases hlt : i < n
          · obtain ⟨ad, rfl, cb⟩ := HTH.out (HB2.out.trans (HI.out.bel.mono HB2.out.size)) i (by omega)
            cases htk : th i
            · rw [htk] at cb
              have HD2 : Hid (∀ j, j < i + 1 → th j = true → S j 0 = true) := fun j hj hb => by
                by_cases h : j = i
                · rw [h, htk] at hb; cases hb
                · exact HD.out j (by omega) hb
              go_wp2_with fail
              go_roundw
              case rel => exact ⟨i + 1, G, S, by go_num, by omega, HI, HS, HD2⟩
              case measure => simp [intOf]; omega
            · rw [htk] at cb
              go_wp2_with fail
              refine (HI.out.put joinI hn30 HKD.out hlt _ rfl).mono ?_
              rintro e W5 ⟨r, S5, G5, rfl, H5, hS1, hS2⟩
              have HS5 : Hid (∀ j, S5 j 0 = true → j < n ∧ th j = true) := fun j h => by
                by_cases hj : j = i
                · exact hj ▸ ⟨hlt, htk⟩
                · exact HS.out j ((hS2 j hj).symm.trans h)
              have HD5 : Hid (∀ j, j < i + 1 → th j = true → S5 j 0 = true) := fun j hj hb => by
                by_cases h : j = i
                · rw [h]; exact hS1
                · rw [hS2 j h]; exact HD.out j (by omega) hb
              clear hS1 hS2
              go_wp2_with fail
              go_roundw
              case rel => exact ⟨i + 1, G5, S5, by go_num, by omega, H5, HS5, HD5⟩
              case measure => simp [intOf]; omega
          · have HE : Hid (∀ j, j < n → S j 0 = th j) := fun j hj => by
              cases ht : th j with
              | true => exact HD.out j (by omega) ht
              | false =>
                cases hs : S j 0 with
                | false => rfl
                | true => have := (HS.out j hs).2; rw [ht] at this; cases this
            go_wp2_with fail
            go_meet
            exact ⟨G, S, HI, HE⟩
      case rest =>
        obtain ⟨G2, S2, HI2, HE⟩ := hcut
        go_step
        go_step
        go_cut [13] from 13 to 13 (fun v wx => v = .int .i64 (-1) ∧ wc = wx)
        case first =>
          go_wp2_with fail
          go_meet
          exact ⟨rfl, rfl⟩
        case rest =>
          obtain ⟨rfl, rfl⟩ := hcut
          go_step
          go_step
          go_cut [13, 14, 82] from 81 to 91 (fun v _ _ wx => Hid (LastOf th n v) ∧ wc = wx)
          case first =>
            go_upto_region 24 with (fail)
            obtain ⟨wo, hwo⟩ : ∃ wo : World, wo = wc := ⟨_, rfl⟩
            go_loopw [13, 82] (fun v13 v82 wr => ∃ (i : Nat), v82 = .int .i64 (i : Int) ∧ i ≤ n ∧ Hid (LastOf th i v13) ∧ wr = wc) (fun _ v82 _ => n - (intOf v82).toNat)
            case atStart => exact ⟨0, rfl, by omega, .inl ⟨rfl, fun j h => absurd h (Nat.not_lt_zero j)⟩, rfl⟩
            case round =>
              obtain ⟨i, rfl, hi, HL, rfl⟩ := hrel
              by_cases hlt : i < n
              · obtain ⟨ad, rfl, cb⟩ := HTH.out (HB2.out.trans (HI2.out.bel.mono HB2.out.size)) i (by omega)
                cases htk : th i
                · rw [htk] at cb
                  have HL2 : Hid (LastOf th (i + 1) (.int .i64 (i : Int))) := .inr ⟨i, by omega, rfl, htk, fun j h1 h2 => by omega⟩
                  go_wp2_with fail
                  go_roundw
                  case rel => exact ⟨i + 1, by go_num, by omega, HL2, trivial⟩
                  case measure => simp [intOf]; omega
                · rw [htk] at cb
                  have HL2 := Lib.hid (HL.out.more htk)
                  go_wp2_with fail
                  go_roundw
                  case rel => exact ⟨i + 1, by go_num, by omega, HL2, trivial⟩
                  case measure => simp [intOf]; omega
              · obtain rfl : i = n := by omega
                go_wp2_with fail
                go_meet
                exact ⟨HL, rfl⟩
          case rest =>
            obtain ⟨HL, rfl⟩ := hcut
            go_step
            go_step
            go_cut [96] from 92 to 98 (fun _ wx => ∃ (G : Nat → Prop), Hid (TkJ JRep W2 wx G p a0 (skAll a0 kd n S2)))
            case first =>
              rcases HL.out with ⟨rfl, hall⟩ | ⟨l, hl, rfl, hl0, hall⟩
              · have HT : Hid (TkJ JRep W2 wc G2 p a0 (skAll a0 kd n S2)) := HI2.out.full (fun j hj => (HE.out j hj).trans (hall j hj))
                clear hall
                go_wp2_with fail
                go_meet
                exact ⟨G2, HT⟩
              · have HC := Lib.hid (HI2.out.skip joinI hn30 hl ((HE.out l hl).trans hl0) (fun j h1 h2 => (HE.out j h2).trans (hall j h1 h2)))
                clear hall
                go_wp2_with fail
                refine HC.out.mono ?_
                rintro e W5 ⟨rfl, G5, H5⟩
                go_wp2_with fail
                go_meet
                exact ⟨G5, H5⟩
            case rest =>
              obtain ⟨G3, HT⟩ := hcut
              rw [skAll_eq] at HT
              clear HI2 HI1 HS1 HL
              go_upto_region 32 with (fail)
              obtain ⟨wo, rfl⟩ : ∃ wo : World, wo = wc := ⟨_, rfl⟩
              go_loopw [100] (fun v100 wr => ∃ (i : Nat) (G : Nat → Prop), v100 = .int .i64 (i : Int) ∧ i ≤ n ∧ Hid (TkJ JRep W2 wr G p a0 (skFrom a0 kd n i S2))) (fun v100 _ => n - (intOf v100).toNat)
              case atStart => exact ⟨0, G3, rfl, by omega, HT⟩
              case round =>
                obtain ⟨i, G, rfl, hi, HI⟩ := hrel
                by_cases hlt : i < n
                · obtain ⟨ad, rfl, cb⟩ := HTH.out (HB2.out.trans (HI.out.bel.mono HB2.out.size)) i (by omega)
                  have hse := HE.out i hlt
                  cases htk : th i
                  · rw [htk] at cb hse
                    have HN : Hid (TkJ JRep W2 wr G p a0 (skFrom a0 kd n (i + 1) S2)) := by rw [← skFrom_no hlt hse]; exact HI.out
                    clear hse
                    go_wp2_with fail
                    go_roundw
                    case rel => exact ⟨i + 1, G, by go_num, by omega, HN⟩
                    case measure => simp [intOf]; omega
                  · rw [htk] at cb hse
                    rw [skFrom_yes hlt hse] at HI
                    clear hse
                    have HTK := Lib.hid (HI.out.take joinI)
                    go_wp2_with fail
                    refine HTK.out.mono ?_
                    rintro e W5 ⟨m, A, nb, cp, t, G5, rfl, H5, hm, hnb, hcp1, hcp2, hy⟩
                    have hms : (Jo.M skK (skPc a0 kd) i) = msOf m ∧ t = true := by
                      rcases hm.out with ⟨h, _⟩ | ⟨h, h2⟩
                      · cases h
                      · exact ⟨Option.some.inj h, h2⟩
                    obtain ⟨h, rfl⟩ := hms
                    have hbody : m.body = [UInt8.ofNat i] := (congrArg Jo.Ms.body h).symm.trans skMb
                    have hnb1 : nb = 1 := by rw [hnb.out, hbody]; rfl
                    subst hnb1
                    have hy1 := hy.out
                    rw [hbody] at hy1
                    obtain ⟨x, rfl, hx, hc⟩ := hy1.2 (by simp)
                    have c0 : W5.cell? (x.add 0) = some (.int .u8 (i : Int)) := by
                      have h0 := hc 0 (.int .u8 ((UInt8.ofNat i).toNat : Int)) rfl
                      rw [UInt8.toNat_ofNat', Nat.mod_eq_of_lt (by omega)] at h0
                      exact h0
                    have H5' : Hid (TkJ JRep W2 W5 G5 p a0 (skFrom a0 kd n (i + 1) S2)) := H5
                    clear hc hx hy1 hy hbody h hm hnb H5 HTK
                    obtain ⟨x1, x2, x3, x4, x5⟩ := m
                    simp only [mCells]
                    go_upto_region 36 with (fail)
                    obtain ⟨W6, hW6⟩ : ∃ W6, W6 = W5.alloc (.cells #[.int .u16 (x1 : Int), .bool x2, .int .u32 (x3 : Int), .int .u32 (x4 : Int), .slice (some x) 1 cp] 43) := ⟨_, rfl⟩
                    obtain ⟨gm, hgm⟩ : ∃ gm, gm = W5.heap.size := ⟨_, rfl⟩
                    have hb6 : Below W5.heap.size W5 W6 := by rw [hW6]; exact (Below.refl _ _).alloc (Nat.le_refl _) _
                    have H6 := Lib.hid (H5'.out.grows joinI hb6)
                    have hm6 : Blk W6 gm 43 #[.int .u16 (x1 : Int), .bool x2, .int .u32 (x3 : Int), .int .u32 (x4 : Int), .slice (some x) 1 cp] := by rw [hW6, hgm]; exact Blk.new _ _ _
                    have c4 : W6.cell? ⟨gm, 4, none⟩ = some (.slice (some x) 1 cp) := hm6.cell 4
                    have cx : W6.cell? (x.add 0) = some (.int .u8 (i : Int)) := (hb6.cell (World.block_lt_of_cell? W5 _ c0)).trans c0
                    have cx0 : W6.cell? x = some (.int .u8 (i : Int)) := by
                      have e0 : x.add 0 = x := by cases x; simp [Addr.add]
                      rw [e0] at cx
                      exact cx
                    rw [← hW6, ← hgm]
                    clear hW6 hgm hm6 hb6 c0 H5'
                    go_wp2_with fail
                    go_roundw
                    case rel => exact ⟨i + 1, G5, by go_num, by omega, H6⟩
                    case measure => simp [intOf]; omega
                · have hie : i = n := by omega
                  rw [hie, skFrom_end] at HI
                  have HTK := Lib.hid (HI.out.take joinI)
                  go_wp2_with fail
                  refine HTK.out.mono ?_
                  rintro e W5 ⟨m, A, nb, cp, t, G5, rfl, H5, hm, hnb, hcp1, hcp2, hy⟩
                  have ht : t = false := by
                    rcases hm.out with ⟨_, h, _⟩ | ⟨h, _⟩
                    · exact h
                    · cases h
                  subst ht
                  have H5' : Hid (TkJ JRep W2 W5 G5 p a0 []) := H5
                  clear hm hnb hy H5 HTK
                  obtain ⟨x1, x2, x3, x4, x5⟩ := m
                  simp only [mCells]
                  go_upto_region 40 with (fail)
                  obtain ⟨W6, hW6⟩ : ∃ W6, W6 = W5.alloc (.cells #[.int .u16 (x1 : Int), .bool x2, .int .u32 (x3 : Int), .int .u32 (x4 : Int), .slice A nb cp] 43) := ⟨_, rfl⟩
                  have H6 := Lib.hid (H5'.out.grows joinI (V' := W6) (by rw [hW6]; exact (Below.refl W5.heap.size W5).alloc (Nat.le_refl _) (.cells #[.int .u16 (x1 : Int), .bool x2, .int .u32 (x3 : Int), .int .u32 (x4 : Int), .slice A nb cp] 43)))
                  rw [← hW6]
                  clear hW6 H5'
                  have HHC := Lib.hid (H6.out.held joinI)
                  go_wp2_with fail
                  refine HHC.out.mono ?_
                  rintro e W7 ⟨rfl, H7⟩
                  go_wp2_with fail
                  go_ret
                  exact ⟨rfl, HB2.out.trans (H7.out.bel.mono HB2.out.size)⟩
end Go.Proofs.Ytioddokjogbmnaa.joinSkips
