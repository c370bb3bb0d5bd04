/-
  PROVED: MacChains of flumelaw08 answers true for every input, and its arguments read afterwards as before. CONDITIONS: none beside the form's own.
-/
import Derived.Test.YtlmljmlddecnmaaDoorRows
import Derived.Test.YtlmljmlddecnmaaDoorMac14
import Derived.Test.YtlmljmlddecnmaaDoorMacLaid
import Derived.Test.YtlmljmlddecnmaaDoorCards
import Derived.Test.YtlmljmlddecnmaaDoorTie
import Derived.SevenTiedAt
import Derived.WalkKit
import Derived.ProofKit
import Derived.OpenShut
import Derived.ShutString
import Derived.ChangeOld
import Derived.Below
namespace Go.Proofs.YtlmljmlddecnmaaDoor.macChains
open Go.ChangeShapes Go.WideShapes Go.ChangeAt Go.RowKit
open Go.ChangeMaps (open_string shut_string)
set_option linter.unusedVariables false
set_option linter.unusedSimpArgs false

theorem own : ownKnob Tryd.prog.godebug = none := by kernel_rfl
theorem laidOut : laidOutB Tryd.prog = true := by kernel_rfl

/-- What the walk is told of a slice of integers that came in. -/
def IsRow (k : IntKind) (w : World) (a : Option Addr) (len cap : Nat) (zs : List Int) : Prop :=
  (a = none ∧ len = 0 ∧ cap = 0 ∧ zs = []) ∨
  ∃ x, a = some x ∧ len ≤ cap ∧ cap ≤ maxLen ∧ zs.length = cap ∧ (∀ i, i < zs.length → w.cell? (x.add i) = some (.int k (zs.getD i 0))) ∧ ∀ n ∈ zs, (Lit.int k n).wf = true

/-! ### The walk -/
open Words Sha
set_option maxHeartbeats 4000000 in
theorem walk (a0 : Option Addr) (len0 cap0 : Nat) (z0 : List Int) (a1 : Option Addr) (len1 cap1 : Nat) (z1 : List Int) (a2 : Int) (w : World) (hLaid : Sha.Laid w) (w0 : IsRow .u8 w a0 len0 cap0 z0) (w1 : IsRow .u8 w a1 len1 cap1 z1) (w2 : (Lit.int .i64 a2).wf = true) :
    Calls Tryd.prog 6 #[.slice a0 len0 cap0, .slice a1 len1 cap1, .int .i64 a2] w fun e w' => e = .returned (.bool true) ∧ Below w.heap.size w w' := by
  obtain ⟨k, hk, hkc, hk63, hkb⟩ := bytes_of w0
  obtain ⟨x, hx, hxc, hx63, hxb⟩ := bytes_of w1
  have HK0 : Hid (PtV w w.heap.size (.slice a0 len0 cap0) k) := .mk hk (by omega) hk63 hkb
  have HX0 : Hid (PtV w w.heap.size (.slice a1 len1 cap1) x) := .mk hx (by omega) hx63 hxb
  have HLN : Hid (len0 = k.length ∧ len1 = x.length) := ⟨hk, hx⟩
  have HBK := Lib.hid hkb
  have HBX := Lib.hid hxb
  have HLD := Lib.hid hLaid
  clear w0 w1 hk hx hkc hxc hk63 hx63 hkb hxb hLaid
  obtain ⟨q, hq, hqb⟩ := u64rem a2 12 (by omega) (by omega)
  have HQ := Lib.hid hq
  clear hq w2
  go_enter Tryd.func6, Tryd.ntmps6
  go_wp2_with fail
  refine (first_any w HLD.out).mono ?_
  rintro e W1 ⟨rfl, hb1⟩
  have HB1 := Lib.hid hb1
  clear hb1
  obtain ⟨M, hmax, hM1, hM2⟩ := max2 (P := Tryd.prog) len0 len1 500 #[3, 3] 3
  by_cases hmx : len0 ≤ 500 ∧ len1 ≤ 500
  · have hM := hM1 hmx
    obtain ⟨hm0, hm1⟩ := hmx
    clear hM1 hM2
    have HSM : Hid (k.length ≤ 500 ∧ x.length ≤ 500) := by
      have := HLN.out
      show _ ∧ _
      omega
    have HW0 : Hid (2 ≤ w.heap.size) := HLD.out.size
    have HCALL : Hid (∀ V, Below w.heap.size w V → Calls Tryd.prog 8 #[.slice a0 len0 cap0, .slice (some ⟨V.heap.size, 0, none⟩) 1 1] (V.alloc (.cells #[.slice a1 len1 cap1] 22)) fun e w' => e = .returned (.agg (Sha.V (seal_ k x))) ∧ Below V.heap.size V w') := by
      intro V hV
      have := seal_new (t := 22) (n := 1) (c := 1) (xs := [.slice a1 len1 cap1]) (ls := [x]) (HK0.out.grow hV) ⟨HX0.out.grow hV, trivial⟩ rfl (by have := HSM.out; simp; omega) (HLD.out.below hV HW0.out)
      rw [show [x].flatten = x by simp] at this
      exact this
    go_wp2_with fail
    refine (HCALL.out W1 HB1.out).mono ?_
    rintro e W2 ⟨rfl, hb2⟩
    have HB2 : Hid (Below w.heap.size w W2) := HB1.out.trans (hb2.mono HB1.out.size)
    obtain ⟨s, hs⟩ : ∃ s, s = seal_ k x := ⟨_, rfl⟩
    rw [← hs]
    have HSL : Hid (s.length = 32) := by show s.length = 32; rw [hs]; exact seal_length _ _
    have HSS := Lib.hid hs
    clear hs hb2
    go_wp2_with fail
    refine (HCALL.out W2 HB2.out).mono ?_
    rintro e W3 ⟨rfl, hb3⟩
    rw [← HSS.out]
    obtain ⟨W4, hW4⟩ : ∃ W4, W4 = put64 W3 s s := ⟨_, rfl⟩
    obtain ⟨X, hX⟩ : ∃ X, X = W3.heap.size := ⟨_, rfl⟩
    have hb4 : Below W3.heap.size W3 W4 := by rw [hW4]; exact put64_below _ _ _
    have HG4 : Hid (Blk W4 X 25 (V s) ∧ Blk W4 (X + 1) 25 (V s)) := by show _ ∧ _; rw [hW4, hX]; exact put64_blk _ _ _
    have hb23 : Below W2.heap.size W2 W4 := hb3.trans (hb4.mono hb3.size)
    have HB4 : Hid (Below w.heap.size w W4) := HB2.out.trans (hb23.mono HB2.out.size)
    have HXW : Hid (w.heap.size ≤ X) := by have := HB2.out.size; have := hb3.size; show _ ≤ _; omega
    have HW4 := Lib.hid hW4
    have HXX := Lib.hid hX
    clear hb3 hb4 hb23 hW4 hX HB2
    go_wp2_with (first
      | (with_reducible refine wpList_alloc32 rfl rfl ?_)
      | (refine wpList_restore32 (g := W3.heap.size) rfl _ _ rfl rfl rfl ((Blk.new W3 _ _).alloc _) HSL.out (zb_length 32) ?_)
      | (refine wpList_restore32 (g := W3.heap.size + 1) rfl _ _ rfl ?aa ?bb ?cc HSL.out (zb_length 32) ?_; rotate_left; (case aa => show Value.pointer (some ⟨(W3.alloc (.cells (Sha.V (Zb 32)) 25)).heap.size, 0, none⟩) = _; simp); (case bb => rfl); (case cc => exact put64_mid W3 s)))
    rw [show (((W3.alloc (.cells (Sha.V (Zb 32)) 25)).alloc (.cells (Sha.V (Zb 32)) 25)).setRow W3.heap.size (Sha.V s)).setRow (W3.heap.size + 1) (Sha.V s) = W4 from HW4.out.symm, ← HXX.out]
    rw [HQ.out]
    clear HW4 HXX HB1 HSS HQ hM
    go_loopw [29] (fun i wr => ∃ (m : Nat) (s : List UInt8), i = .int .i64 (m : Int) ∧ Hid (s.length = 32 ∧ Blk wr X 25 (Sha.V s) ∧ Blk wr (X + 1) 25 (Sha.V s) ∧ Below w.heap.size w wr)) (fun i _ => 12 - (intOf i).toNat)
    case atStart => exact ⟨0, s, rfl, HSL.out, HG4.out.1, HG4.out.2, HB4.out⟩
    case round =>
      obtain ⟨m, l, rfl, HR⟩ := hrel
      by_cases hlt : m < q
      · go_wp2_with fail
        have hxr : X + 1 < wr.heap.size := HR.out.2.2.1.lt
        have HC1 : Hid (Calls Tryd.prog 8 #[.slice (some ⟨X, 0, none⟩) 32 32, .slice (some ⟨wr.heap.size, 0, none⟩) 2 2] (wr.alloc (.cells #[.slice a1 len1 cap1, .slice a0 len0 cap0] 22)) fun e w' => e = .returned (.agg (Sha.V (seal_ l (x ++ k)))) ∧ Below wr.heap.size wr w') := by
          show Calls _ _ _ _ _
          have := seal_new (t := 22) (n := 2) (c := 2) (xs := [.slice a1 len1 cap1, .slice a0 len0 cap0]) (ls := [x, k]) (PtV.blk32 HR.out.2.1 HR.out.1 (by omega)) ⟨HX0.out.grow HR.out.2.2.2, HK0.out.grow HR.out.2.2.2, trivial⟩ rfl (by have := HSM.out; have := HR.out.1; simp; omega) (HLD.out.below HR.out.2.2.2 HW0.out)
          rw [show [x, k].flatten = x ++ k by simp] at this
          exact this
        refine HC1.out.mono ?_
        rintro e W5 ⟨rfl, hb5⟩
        obtain ⟨s', hs'⟩ : ∃ s', s' = seal_ l (x ++ k) := ⟨_, rfl⟩
        rw [← hs']
        have HSL' : Hid (s'.length = 32) := by show s'.length = 32; rw [hs']; exact seal_length _ _
        have HB5 : Hid (Below w.heap.size w W5) := HR.out.2.2.2.trans (hb5.mono HR.out.2.2.2.size)
        have HX5 : Hid (Blk W5 X 25 (Sha.V l)) := HR.out.2.1.below hb5 HR.out.2.1.lt
        have HY5 : Hid (Blk W5 (X + 1) 25 (Sha.V l)) := HR.out.2.2.1.below hb5 HR.out.2.2.1.lt
        obtain ⟨W6, hW6⟩ : ∃ W6, W6 = W5.setRow X (Sha.V s') := ⟨_, rfl⟩
        have HX6 : Hid (Blk W6 X 25 (Sha.V s')) := by show Blk _ _ _ _; rw [hW6]; exact setRow_heap _ _ _ _ _ _ HX5.out
        have HY6 : Hid (Blk W6 (X + 1) 25 (Sha.V l)) := by show Blk _ _ _ _; rw [hW6]; exact blk_other HY5.out (by omega)
        have HB6 : Hid (Below w.heap.size w W6) := by show Below _ _ _; rw [hW6]; exact below_setRow HB5.out HXW.out _
        have HW6 := Lib.hid hW6
        have HSE := Lib.hid hs'
        have HLL : Hid (l.length = 32) := HR.out.1
        clear hb5 hW6 hs' HC1 HR HB5 HY5
        go_wp2_with (refine wpList_restore32 (g := X) rfl _ _ rfl rfl rfl HX5.out HSL'.out HLL.out ?_)
        rw [← HW6.out]
        clear HW6 HX5
        obtain ⟨i0, hi0, hz0, hz1, hz2⟩ := info_parts3 u8_info
        obtain ⟨D0, hD0⟩ : ∃ D0, D0 = W6.drew := ⟨_, rfl⟩
        have hb0 : Below W6.heap.size W6 D0 := by rw [hD0]; exact Below.drew (Below.refl _ _)
        obtain ⟨G1, hG1⟩ : ∃ G1, G1 = D0.heap.size := ⟨_, rfl⟩
        obtain ⟨D1, hD1⟩ : ∃ D1, D1 = D0.alloc (.cells #[] 5) := ⟨_, rfl⟩
        have hbd1 : Below D0.heap.size D0 D1 := by rw [hD1]; exact below_new D0 _
        have hw1 : Below w.heap.size w D1 := HB6.out.trans ((hb0.mono HB6.out.size).trans (hbd1.mono (Nat.le_trans HB6.out.size hb0.size)))
        have ho0 : D1.ownsRow D0.heap.size 5 1 (.slice (some ⟨D0.heap.size, 0, none⟩) 0 0) 0 [] := by rw [hD1]; exact own_empty D0 5
        have hrx : Reads D1 w.heap.size 1 a1 len1 (u8s x) := by rw [HLN.out.2]; exact HBX.out.below hw1
        obtain ⟨v1, D2, hr1, ho1, hg1, _⟩ := run_append_any (P := Tryd.prog) D1 D0.heap.size 22 22 5 i0 _ 1 1 Tryd.underlying22 hi0 hz0 hz1 hz2 rfl (by omega) _ 0 [] ho0 w.heap.size a1 len1 cap1 (u8s x) hrx (u8s_one x) (by simp only [maxLen]; omega) (by omega) hbd1.size
        simp only [Nat.zero_add, List.nil_append] at ho1
        have hbd2 : Below D0.heap.size D0 D2 := by rw [hD1] at hg1; exact below_app hg1
        have hw2 : Below w.heap.size w D2 := HB6.out.trans ((hb0.mono HB6.out.size).trans (hbd2.mono (Nat.le_trans HB6.out.size hb0.size)))
        have hrk : Reads D2 w.heap.size 1 a0 len0 (u8s k) := by rw [HLN.out.1]; exact HBK.out.below hw2
        obtain ⟨v2, D3, hr2, ho2, hg2, _⟩ := run_append_any (P := Tryd.prog) D2 D0.heap.size 22 22 5 i0 _ 1 1 Tryd.underlying22 hi0 hz0 hz1 hz2 rfl (by omega) v1 len1 (u8s x) ho1 w.heap.size a0 len0 cap0 (u8s k) hrk (u8s_one k) (by simp only [maxLen]; omega) (by omega) hbd2.size
        have hbd3 : Below D0.heap.size D0 D3 := below_app2 hbd2 ho1 hg2
        rw [← u8s_append] at ho2
        have hpz : PtV D3 D3.heap.size v2 (x ++ k) := ptv_of_own ho2 (by have := HLN.out; simp; omega)
        obtain ⟨A2, c2, rfl, _, _⟩ := own_slice ho2
        obtain ⟨n2, hn2⟩ : ∃ n2, n2 = len1 + len0 := ⟨_, rfl⟩
        rw [← hn2] at hpz hr2
        obtain ⟨G3, hG3⟩ : ∃ G3, G3 = D3.heap.size := ⟨_, rfl⟩
        obtain ⟨D4, hD4⟩ : ∃ D4, D4 = D3.alloc (.cells #[.slice A2 n2 c2, .slice none 0 0] 22) := ⟨_, rfl⟩
        have hw3 : Below W6.heap.size W6 D3 := hb0.trans (hbd3.mono hb0.size)
        have HC2 : Hid (Calls Tryd.prog 8 #[.slice (some ⟨X + 1, 0, none⟩) 32 32, .slice (some ⟨G3, 0, none⟩) 2 2] D4 fun e w' => e = .returned (.agg (Sha.V s')) ∧ Below W6.heap.size W6 w') := by
          show Calls _ _ _ _ _
          have hY3 := HY6.out.below hw3 HY6.out.lt
          have := seal_new (t := 22) (n := 2) (c := 2) (xs := [.slice A2 n2 c2, .slice none 0 0]) (ls := [x ++ k, []]) (PtV.blk32 hY3 HLL.out hY3.lt) ⟨hpz, PtV.nil _ _, trivial⟩ rfl (by have := HSM.out; have := HLL.out; simp; omega) (HLD.out.below (HB6.out.trans (hw3.mono HB6.out.size)) HW0.out)
          rw [show [x ++ k, []].flatten = x ++ k by simp, ← HSE.out] at this
          rw [hG3, hD4]
          exact this.mono fun e w' ⟨h1, h2⟩ => ⟨h1, hw3.trans (h2.mono hw3.size)⟩
        have HR1 := Lib.hid hr1
        have HR2 := Lib.hid hr2
        have HG1 := Lib.hid hG1
        have HG3 := Lib.hid hG3
        have HD0 : Hid (W6.drew = D0) := hD0.symm
        have HD1 := Lib.hid hD1
        have HD4 := Lib.hid hD4
        clear hr1 hr2 hG1 hG3 hD0 hD1 hD4 hb0 hbd1 hbd2 hbd3 hw1 hw2 hw3 ho0 ho1 ho2 hrx hrk hg1 hg2 hpz hn2 hi0 hz0 hz1 hz2
        refine wp_region_stage (fun _ _ => True) (fun m V => match m with | 0 => V = D0 | 1 => V = D1 | 2 => V = D2 | 3 => V = D3 | 4 => V = D4 | 5 => Hid (Below W6.heap.size W6 V) | _ => ∃ V0, Hid (Below W6.heap.size W6 V0) ∧ V = V0.setRow (X + 1) (Sha.V s')) [(false, .exact (.slice (some ⟨X + 1, 0, none⟩) 32 32)),
            (true, .exact (.slice (some ⟨G1, 0, none⟩) 0 0)),
            (false, .exact (.slice a1 len1 cap1)),
            (true, .exact (v1)),
            (false, .exact (.slice a0 len0 cap0)),
            (true, .exact (.slice A2 n2 c2)),
            (true, .exact (.slice (some ⟨G3, 0, none⟩) 2 2)),
            (true, .exact (.agg (Sha.V s'))),
            (true, .exact (undef))] (by kernel_rfl) (by kernel_rfl) (by kernel_rfl) rfl ?lasts ?start ?walk
        case lasts => exact trivial
        case start => exact HD0.out
        case walk =>
          refine stage_pure rfl (fun _ => trivial) (fun V m hS hl => by exact exec_slice rfl rfl (slice_all32 (X + 1) V)) ?_
          simp only [Act.put, List.setIfInBounds_toArray, List.set_cons_zero, List.set_cons_succ, List.cons_append, List.nil_append]
          refine stage_move rfl (fun V hS hl => by
              obtain rfl : V = D0 := hS
              go_simp
              exact ⟨by rw [HG1.out], HD1.out.symm⟩) ?_
          simp only [Act.put, List.setIfInBounds_toArray, List.set_cons_zero, List.set_cons_succ, List.cons_append, List.nil_append]
          refine stage_pure rfl (fun _ => trivial) (fun V m hS hl => by go_simp) ?_
          simp only [Act.put, List.setIfInBounds_toArray, List.set_cons_zero, List.set_cons_succ, List.cons_append, List.nil_append]
          refine stage_move rfl (fun V hS hl => by
              obtain rfl : V = D1 := hS
              rw [exec_append rfl rfl rfl (by rw [← HG1.out] at HR1; exact HR1.out)]
              exact ⟨trivial, rfl, rfl⟩) ?_
          simp only [Act.put, List.setIfInBounds_toArray, List.set_cons_zero, List.set_cons_succ, List.cons_append, List.nil_append]
          refine stage_pure rfl (fun _ => trivial) (fun V m hS hl => by go_simp) ?_
          simp only [Act.put, List.setIfInBounds_toArray, List.set_cons_zero, List.set_cons_succ, List.cons_append, List.nil_append]
          refine stage_move rfl (fun V hS hl => by
              obtain rfl : V = D2 := hS
              rw [exec_append rfl rfl rfl HR2.out]
              exact ⟨trivial, rfl, rfl⟩) ?_
          simp only [Act.put, List.setIfInBounds_toArray, List.set_cons_zero, List.set_cons_succ, List.cons_append, List.nil_append]
          refine stage_move rfl (fun V hS hl => by
              obtain rfl : V = D3 := hS
              go_simp
              exact ⟨by rw [HG3.out], HD4.out.symm⟩) ?_
          simp only [Act.put, List.setIfInBounds_toArray, List.set_cons_zero, List.set_cons_succ, List.cons_append, List.nil_append]
          refine stage_move rfl (fun V hS hl => by
              obtain rfl : V = D4 := hS
              go_simp
              refine HC2.out.mono ?_
              rintro e V' ⟨rfl, hb⟩
              exact ⟨_, rfl, rfl, hb⟩) ?_
          simp only [Act.put, List.setIfInBounds_toArray, List.set_cons_zero, List.set_cons_succ, List.cons_append, List.nil_append]
          refine stage_move rfl (fun V hS hl => by
              rw [exec_store32 rfl rfl rfl (HY6.out.below (Hid.out hS) HY6.out.lt) HSL'.out HLL.out]
              exact ⟨trivial, rfl, V, hS, rfl⟩) ?_
          simp only [Act.put, List.setIfInBounds_toArray, List.set_cons_zero, List.set_cons_succ, List.cons_append, List.nil_append]
          refine stage_nil (fun V2 hS hF => ?_)
          obtain ⟨V0, hV, rfl⟩ := hS
          have HN : Hid (s'.length = 32 ∧ Blk (V0.setRow (X + 1) (Sha.V s')) X 25 (Sha.V s') ∧ Blk (V0.setRow (X + 1) (Sha.V s')) (X + 1) 25 (Sha.V s') ∧ Below w.heap.size w (V0.setRow (X + 1) (Sha.V s'))) := by
            refine ⟨HSL'.out, blk_other (HX6.out.below hV.out HX6.out.lt) (by omega), setRow_heap _ _ _ _ _ _ (HY6.out.below hV.out HY6.out.lt), below_setRow (HB6.out.trans (hV.out.mono HB6.out.size)) (by have := HXW.out; omega) _⟩
          clear hV hF
          go_wp2_with fail
          go_roundw
          case rel => exact ⟨m + 1, s', by simp, HN.out⟩
          case measure => simp [intOf]; omega
      · obtain ⟨HLL, HX4, HY4, HBR⟩ : Hid (l.length = 32) ∧ Hid (Blk wr X 25 (Sha.V l)) ∧ Hid (Blk wr (X + 1) 25 (Sha.V l)) ∧ Hid (Below w.heap.size w wr) := HR.out
        have HS1 : Hid (Calls Tryd.prog 12 #[.agg (Sha.V l), .agg (Sha.V l)] wr fun e w' => e = .returned (.bool true) ∧ Below wr.heap.size wr w') :=
          (same_any l l HLL.out HLL.out wr).mono fun e w' ⟨h1, h2⟩ => ⟨by rw [h1, decide_eq_true rfl], h2⟩
        go_wp2_with (first
          | (refine wpList_load_row_want rfl 25 _ rfl X rfl 25 (Sha.V l) (0, 0) _ HX4.out Tryd.underlying25 rfl (by rw [V_size, HLL.out]; exact size_b32) ?_)
          | (refine wpList_load_row_want rfl 25 _ rfl (X + 1) rfl 25 (Sha.V l) (0, 0) _ HY4.out Tryd.underlying25 rfl (by rw [V_size, HLL.out]; exact size_b32) ?_))
        refine HS1.out.mono ?_
        rintro e W9 ⟨rfl, hb9⟩
        go_wp2_with fail
        go_ret
        exact ⟨rfl, HBR.out.trans (hb9.mono HBR.out.size)⟩
  · have hM := hM2 hmx
    clear hM1 hM2
    go_wp2_with fail
    go_ret
    exact ⟨rfl, HB1.out⟩

/-! ### The row's step -/
/-- The door's own heap meets the condition. -/
theorem door_met (os : Os) (args : Array Value) : laidMetH Tryd.prog [("flume/mac.first", Rows.laid_flume_mac_first), ("flume/mac.rounds", Rows.laid_flume_mac_rounds)] ((World.doorLaid Tryd.prog 400 os).forCall (fun _ _ => 0) ⟨#[], args, []⟩).memory :=
  laidMetH_of_parts3 (fuel := 8) (laidMet_of_run' 8 (by kernel_rfl) (by kernel_rfl)) (by kernel_rfl) (by kernel_rfl)
set_option maxRecDepth 100000 in
theorem lifted (os : Os) (started : os.Started) (H : Type) (enc : TypeId × Value → H) :
    ReturnsInHanded {} Tryd.checked os 6 .any (fun w args => (Rows.macChainsSpec.pre enc Tryd.prog Tryd.f6 [] false w args ∧ laidMetH Tryd.prog [("flume/mac.first", Rows.laid_flume_mac_first), ("flume/mac.rounds", Rows.laid_flume_mac_rounds)] w) ∧ sizedMet enc Tryd.prog Tryd.f6 (OpenSpec.ofChange Rows.macChainsSpec) false w args)
      (Rows.macChainsSpec.post enc Tryd.prog Tryd.f6 false true false false) := by
  refine returnsInHanded_of_change_and (C := Tryd.checked) (X := fun w _ => laidMetH Tryd.prog [("flume/mac.first", Rows.laid_flume_mac_first), ("flume/mac.rounds", Rows.laid_flume_mac_rounds)] w) (fun _ _ _ hh h => h.of_heap hh) own started (by kernel_rfl) Tryd.func6
    (ChangeSpec.witness_shaped (enc := enc) (C := Tryd.checked) (os := os) (X := fun w _ => laidMetH Tryd.prog [("flume/mac.first", Rows.laid_flume_mac_first), ("flume/mac.rounds", Rows.laid_flume_mac_rounds)] w) false (World.doorLaid Tryd.prog 400 os) #[.slice none 0 0, .slice none 0 0, .int .i64 0] 8 rfl (World.shaped_of_RefB (by kernel_rfl) (by kernel_rfl)) (by kernel_rfl) (by kernel_rfl) (by kernel_rfl) (door_met os _)) ?_
  intro W base args ds gs before hval0 hW _ _ hL _
  have hval : ∀ (j : Nat) t v, Tryd.f6.params[j]? = some t → args[j]? = some v → Value.okWide Tryd.prog W .any base t v := hval0
  have hW' := hW
  obtain ⟨p, q, hA0, hV, rfl, hfz, hnd⟩ := hW
  have hA : DataW.TrodAll enc Tryd.prog W 0 (fun _ => true) true Tryd.f6.params.toList args.toList ds p := hA0
  rw [Tryd.params6] at hA hval
  obtain ⟨v0, vs0, d0, ds0, p0, q0, hargs, rfl, rfl, h0, r0⟩ := trodAll_cons hA
  obtain ⟨v1, vs1, d1, ds1, p1, q1, rfl, rfl, rfl, h1, r1⟩ := trodAll_cons r0
  obtain ⟨v2, vs2, d2, ds2, p2, q2, rfl, rfl, rfl, h2, r2⟩ := trodAll_cons r1
  obtain ⟨rfl, rfl, rfl⟩ := trodAll_nil r2
  obtain rfl : args = #[v0, v1, v2] := by cases args; simp_all
  obtain ⟨rfl, rfl⟩ := trodVars_none hV
  obtain ⟨a0, len0, cap0, rfl⟩ := okWide_slice Tryd.underlying22 (hval 0 22 v0 rfl rfl)
  have k0 := h0
  have lt0 : ∀ x ∈ p0, x.block < W.heap.size := by obtain ⟨m, hm⟩ := k0; exact DataW.trod_lt m _ _ _ hm
  obtain ⟨z0, w0⟩ : ∃ zs, IsRow .u8 W a0 len0 cap0 zs := by
    obtain ⟨fuel, hf⟩ := h0
    rcases open_ints Tryd.underlying22 Tryd.underlying5 (by kernel_rfl) hf with ⟨hcs, _⟩ | ⟨x, l, c, zs, hcs, _, hl, hm, hz, _, hcell, hwz⟩
    · simp [Value.cells] at hcs
      obtain ⟨rfl, rfl, rfl⟩ := hcs
      exact ⟨[], .inl ⟨rfl, rfl, rfl, rfl⟩⟩
    · simp [Value.cells] at hcs
      obtain ⟨rfl, rfl, rfl⟩ := hcs
      exact ⟨zs, .inr ⟨_, rfl, hl, hm, by simpa using hz, hcell, hwz⟩⟩
  obtain ⟨a1, len1, cap1, rfl⟩ := okWide_slice Tryd.underlying22 (hval 1 22 v1 rfl rfl)
  have k1 := h1
  have lt1 : ∀ x ∈ p1, x.block < W.heap.size := by obtain ⟨m, hm⟩ := k1; exact DataW.trod_lt m _ _ _ hm
  obtain ⟨z1, w1⟩ : ∃ zs, IsRow .u8 W a1 len1 cap1 zs := by
    obtain ⟨fuel, hf⟩ := h1
    rcases open_ints Tryd.underlying22 Tryd.underlying5 (by kernel_rfl) hf with ⟨hcs, _⟩ | ⟨x, l, c, zs, hcs, _, hl, hm, hz, _, hcell, hwz⟩
    · simp [Value.cells] at hcs
      obtain ⟨rfl, rfl, rfl⟩ := hcs
      exact ⟨[], .inl ⟨rfl, rfl, rfl, rfl⟩⟩
    · simp [Value.cells] at hcs
      obtain ⟨rfl, rfl, rfl⟩ := hcs
      exact ⟨zs, .inr ⟨_, rfl, hl, hm, by simpa using hz, hcell, hwz⟩⟩
  obtain ⟨a2, rfl, rfl, rfl, w2⟩ := open_int Tryd.underlying3 (hval 2 3 v2 rfl rfl) h2
  clear hA0 hval0
  refine (walk a0 len0 cap0 z0 a1 len1 cap1 z1 a2 W (Sha.laid_of hL) w0 w1 w2).mono fun e W' ⟨he, bel⟩ => ?_
  subst he
  exact ⟨_, rfl, _, _, _, [], _, [], hW', trodAll_mk1 (shut_bool Tryd.underlying4 _), (trodAll_cons_mk (Below.trod laidOut (by kernel_rfl) (of_decide_eq_true (by kernel_rfl)) k0 bel lt0) (trodAll_cons_mk (Below.trod laidOut (by kernel_rfl) (of_decide_eq_true (by kernel_rfl)) k1 bel lt1) (trodAll_cons_mk (shut_int Tryd.underlying3 w2) trodAll_mk0))), rfl, bel.frame _, fun h => by cases h⟩

theorem over : Rows.macChainsRow.holds Tryd.pinned (OpenSpec.ofChange Rows.macChainsSpec) :=
  OpenClaim.holds_of_wide 6 Tryd.f6 rfl rfl rfl rfl rfl rfl rfl ⟨rfl, rfl, rfl, rfl, rfl⟩ rfl rfl rfl rfl rfl (by kernel_rfl) Tryd.func6 (by kernel_rfl)
    (of_decide_eq_true (by kernel_rfl)) (by unfold Func.isWrapper; first | (rw [if_pos (by decide +kernel)]; kernel_rfl) | (rw [if_neg (by decide +kernel)]; exact ⟨rfl, rfl⟩))
    (fun os started H enc _ => lifted os started H enc)

theorem proved : Rows.MacChainsCardSaid :=
  Claim7.holds_tied_plain_at .later [] [.data, .data] true (true, "548818a11e97416bfe589dd3bef04e86a870f7a0f927cf50379a9f55926b0257") false
    over (fun _ h => by cases h) (by kernel_rfl) (fun _ h => by cases h) macChains_row_tie rfl ⟨rfl, rfl⟩ (by kernel_rfl) rfl
    (fun f fn hf hfn => by
      obtain rfl : f = 6 := Option.some.inj ((show Tryd.prog.funcNamed "flume/flumelaw08.MacChains" = some 6 by kernel_rfl).symm.trans hf) |>.symm
      obtain rfl : fn = Tryd.f6 := (Option.some.inj (Tryd.func6.symm.trans hfn)).symm
      exact ⟨by kernel_rfl, fun j t ht => by
        rw [Tryd.params6] at ht
        have hm : t ∈ [22, 22, 3] := by simpa using Array.mem_of_getElem? ht
        have hall : ([22, 22, 3].all fun u => !Tryd.prog.wantsStandIn u) = true := by kernel_rfl
        exact (show Tryd.prog.wantsStandIn t = false by simpa using List.all_eq_true.1 hall t hm)⟩)
    (by kernel_rfl)
#print axioms proved
end Go.Proofs.YtlmljmlddecnmaaDoor.macChains
