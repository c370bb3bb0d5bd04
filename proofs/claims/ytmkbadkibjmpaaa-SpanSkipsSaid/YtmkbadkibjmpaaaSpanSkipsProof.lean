/-
  PROVED: SpanSkips of flumelaw02 answers true for every input, and its arguments read afterwards as before. CONDITIONS: none beside the form's own.
  (The frame was written by the kit's proof-skeleton; the walk is mine.)
-/
import Derived.Test.YtmkbadkibjmpaaaRows
import Derived.Test.YtmkbadkibjmpaaaSpanSkp
import Derived.WalkKit
import Derived.ProofKit
import Derived.OpenShut
import Derived.ShutString
import Derived.ChangeOld
import Derived.Below
namespace Go.Proofs.Ytmkbadkibjmpaaa.spanSkips
open Go.ChangeShapes Go.WideShapes Go.ChangeAt Go.RowKit
open Go.ChangeMaps (open_string shut_string)
set_option linter.unusedVariables false

theorem own : ownKnob Try.prog.godebug = none := by kernel_rfl
theorem laidOut : laidOutB Try.prog = true := by kernel_rfl

/-- WHAT THE WALK IS TOLD OF A SLICE OF INTEGERS THAT CAME IN: it is nil; or it leads to a row of 'cap' cells, the numbers 'zs' (the first 'len' are its elements, the rest its spare room), each fitting its kind. -/
def IsRow (k : IntKind) (w : World) (a : Option Addr) (len cap : Nat) (zs : List Int) : Prop :=
  (a = none ∧ len = 0 ∧ cap = 0 ∧ zs = []) ∨
  ∃ x, a = some x ∧ len ≤ cap ∧ cap ≤ maxLen ∧ zs.length = cap ∧ (∀ i, i < zs.length → w.cell? (x.add i) = some (.int k (zs.getD i 0))) ∧ ∀ n ∈ zs, (Lit.int k n).wf = true

/-! ### STEP 1: THE WALK: the Go text returns true, AND WRITES NOTHING THAT WAS THERE: 'Below w.heap.size w w'' (Derived/Below.lean: '.refl', '.alloc', '.drew', '.setCell' at a new block, '.trans'). Open each 'IsRow' by 'rcases' AHEAD of 'go_enter'; part every test ahead of the walk. -/
open Ser Span
def far (z : List Int) (i : Nat) : Nat := (z.getD i 0 % 4000).toNat
theorem far_le (z : List Int) (i : Nat) : far z i ≤ 4000 := by unfold far; omega
theorem elem {w w' : World} {a : Option Addr} {len : Nat} {z : List Int} (hr : ∀ i, i < len → ∃ x, a = some x ∧ x.block < w.heap.size ∧ w.cell? (x.add i) = some (.int .u16 (z.getD i 0)) ∧ (Lit.int .u16 (z.getD i 0)).wf = true) (hb : Below w.heap.size w w') {i : Nat} (hi : i < len) (a0 : Int) :
    ∃ x q, a = some x ∧ w'.cell? (x.add i) = some (.int .u16 q) ∧ (0 ≤ q ∧ q ≤ 65535) ∧ (a0 + q % 4000) % 4294967296 = adr a0 (far z i) := by
  obtain ⟨x, ha, hx, hc, hw⟩ := hr i hi
  have hz := bounds_u16 hw
  exact ⟨x, z.getD i 0, ha, row_later hb hx hc, hz, by unfold adr far; omega⟩
/-- The set after the first loop's rounds. -/
def SSt (w wr : World) (p : Nat) (a0 : Int) : Prop :=
  ∃ v k rs, SetAt wr w.heap.size p v (adr a0 k) rs ∧ Gp 2 rs ∧ Below w.heap.size w wr ∧ k ≤ 4000 ∧ ∀ y, 1 ≤ y → absB k rs y = true → y ≤ 4000
theorem SSt.below {w wr : World} {p : Nat} {a0 : Int} (h : SSt w wr p a0) : Below w.heap.size w wr := by
  obtain ⟨v, k, rs, h1, h2, h3, h4⟩ := h
  exact h3
theorem SSt.add {w wr : World} {p : Nat} {a0 : Int} (h : SSt w wr p a0) (hM : 0 ≤ a0 ∧ a0 ≤ 4294967295) {x : Nat} (hx : x ≤ 4000) :
    Calls Try.prog 13 #[ptr p, .int .u32 (adr a0 x)] wr fun e w' => (∃ n, e = .returned (.int .i64 n)) ∧ SSt w w' p a0 := by
  obtain ⟨v, k, rs, h1, h2, h3, h4, h5⟩ := h
  refine (add_t h1 h2 (adr_bd a0 x) h3.size).mono ?_
  rintro e w' ⟨v', kk, rs', rfl, hs, hg, hA, _, T⟩
  have ha := (add_abs hM (by omega) (by omega) h2 hA).1
  rw [adr_adr] at hs
  have hup : ∀ y, 1 ≤ y → absB (k + kk) rs' y = true → y ≤ 4000 := by
    intro y hy h
    rw [ha y hy] at h
    cases e : absB k rs y
    · rw [e] at h
      simp at h
      omega
    · exact h5 y hy e
  refine ⟨⟨_, rfl⟩, v', k + kk, rs', hs, hg, h3.trans (h1.below_of T), ?_, hup⟩
  rcases Nat.eq_zero_or_pos (k + kk) with h0 | h0
  · omega
  · exact hup _ h0 (abs_le (Nat.le_refl _))
/-- The second loop: what 'had' holds. -/
def HSt (wr W : World) (h k : Nat) (rs : List (Nat × Nat)) (z : List Int) (m : Nat) : Prop :=
  Below wr.heap.size wr W ∧ ∃ cur, Blk W h 51 cur ∧ cur.size = 40 ∧ ∀ j, j < m → cur[j]? = some (.bool (absB k rs (far z j)))
theorem HSt.next {wr W W' : World} {h k m : Nat} {rs : List (Nat × Nat)} {z : List Int} (hs : HSt wr W h k rs z m) (hb : Below W.heap.size W W') (hh : wr.heap.size ≤ h) (hm : m < 40) : HSt wr (W'.setCell ⟨h, m, none⟩ (.bool (absB k rs (far z m)))) h k rs z (m + 1) := by
  obtain ⟨h1, cur, h2, h3, h4⟩ := hs
  refine ⟨(h1.trans (hb.mono h1.size)).setCell hh _, _, (h2.below hb h2.lt).set_ m _, by simpa using h3, fun j hj => ?_⟩
  rw [Array.getElem?_setIfInBounds]
  by_cases e : m = j
  · subst e; simp [h3, hm]
  · rw [if_neg e]; exact h4 j (by omega)
set_option maxHeartbeats 2000000 in
theorem walk (a0 : Int) (a1 : Option Addr) (len1 cap1 : Nat) (z1 : List Int) (a2 : Int) (w : World) (w0 : (Lit.int .u32 a0).wf = true) (w1 : IsRow .u16 w a1 len1 cap1 z1) (w2 : (Lit.int .u16 a2).wf = true) :
    Calls Try.prog 8 #[.int .u32 a0, .slice a1 len1 cap1, .int .u16 a2] w fun e w' => e = .returned (.bool true) ∧ Below w.heap.size w w' := by
  have hM : 0 ≤ a0 ∧ a0 ≤ 4294967295 := bounds_u32 w0
  obtain ⟨hcap, hlen, hrow⟩ := row_of w1
  have HR := Lib.hid hrow
  have ha2 := bounds_u16 w2
  clear hrow w1 w0 w2
  go_enter Try.func8, Try.ntmps8
  go_wp2_with fail
  refine (first_span w).mono ?_
  rintro e W1 ⟨rfl, hb1⟩
  go_wp2_with fail
  refine (new_any a0 hM w.heap.size W1 hb1.size).mono ?_
  rintro e W2 ⟨rfl, hs2, hb2⟩
  have HO : Hid (SSt w W2 W1.heap.size a0) := ⟨_, 0, [], by rw [adr_zero a0 hM]; exact hs2, gp_nil 2, hb1.trans (hb2.mono hb1.size), by omega, fun y hy h => by unfold absB at h; simp [knB_nil] at h; omega⟩
  clear hs2 hb1 hb2
  go_wp2_with fail
  go_loopw [22] (fun i wr => ∃ k : Nat, k ≤ len1 ∧ i = .int .i64 k ∧ Hid (SSt w wr W1.heap.size a0)) (fun i _ => len1 - (intOf i).toNat)
  case atStart => exact ⟨0, Nat.zero_le _, rfl, HO⟩
  case round =>
    obtain ⟨i, hk, rfl, ho⟩ := hrel
    by_cases hlt : i < len1
    · obtain ⟨x, q, rfl, hc1, hz1, hq1⟩ := elem HR.out ho.out.below hlt a0
      by_cases h40 : i < 40
      · have HQ := Lib.hid hq1
        clear hq1
        go_wp2_with fail
        rw [HQ.out]
        refine (ho.out.add hM (far_le z1 i)).mono ?_
        rintro e w1 ⟨⟨n1, rfl⟩, ho1⟩
        have HO1 := Lib.hid ho1
        clear ho1 hc1
        go_wp2
        go_roundw
        case rel => exact ⟨i + 1, by omega, by go_num, HO1⟩
        case measure => simp [intOf]; omega
      · clear hq1
        go_wp2
        go_roundw
        case rel => exact ⟨i + 1, by omega, by go_num, ho⟩
        case measure => simp [intOf]; omega
    · obtain ⟨v, k, rs, hs, hg, hb, hk4, hU⟩ := ho.out
      have HS := Lib.hid hs
      have HG := Lib.hid hg
      have HB := Lib.hid hb
      clear hs hg hb hU
      obtain ⟨wo, rfl⟩ : ∃ wo : World, wo = wr := ⟨_, rfl⟩
      obtain ⟨T, hT⟩ : ∃ T : Nat, (T : Int) = a2 % 5000 := ⟨(a2 % 5000).toNat, by omega⟩
      have hTl : T ≤ 5000 := by omega
      have hTe : (a0 + a2 % 5000) % 4294967296 = adr a0 T := by unfold adr; rw [hT]
      clear hT
      by_cases h40 : (len1 : Int) ≤ 40
      · go_wp2_with fail
        refine (mark_any HS.out).mono ?_
        rintro e wm ⟨rfl, rfl⟩
        go_wp2_with fail
        obtain ⟨n, hnl⟩ : ∃ n, n = len1 := ⟨_, rfl⟩
        rw [← hnl]
        have hnl2 : n ≤ len1 := by omega
        have hn40 : n ≤ 40 := by omega
        have HNL := Lib.hid hnl
        clear hnl h40
        rw [hTe]
        go_loopw [47] (fun j W => ∃ m : Nat, m ≤ n ∧ j = .int .i64 m ∧ Hid (HSt wo W wo.heap.size k rs z1 m)) (fun j _ => n - (intOf j).toNat)
        case atStart => exact ⟨0, Nat.zero_le _, rfl, (Below.refl _ _).alloc (Nat.le_refl _) _, _, heap_alloc_new wo _, rfl, fun j hj => absurd hj (Nat.not_lt_zero j)⟩
        case round =>
          obtain ⟨W, rfl⟩ : ∃ W : World, W = wr := ⟨_, rfl⟩
          obtain ⟨m, hm, rfl, hst⟩ := hrel
          by_cases hmn : m < n
          · obtain ⟨x, q, rfl, hc1, hz1, hq1⟩ := elem HR.out (HB.out.trans (hst.out.1.mono HB.out.size)) (show m < len1 by omega) a0
            have HQ := Lib.hid hq1
            have hml : m < len1 := by omega
            have hm40 : m < 40 := by omega
            clear hq1
            go_wp2_with fail
            rw [HQ.out]
            refine (has_at (HS.out.below hst.out.1) HG.out hM (by omega) (Nat.le_trans (far_le z1 m) (by omega))).mono ?_
            rintro e W' ⟨rfl, hb'⟩
            have HN := Lib.hid (hst.out.next hb' (Nat.le_refl _) hm40)
            obtain ⟨_, cur, hcur, hcs, _⟩ := hst.out
            have hcb := hcur.below hb' hcur.lt
            have k1 := hcb.cell m
            obtain ⟨u, hu⟩ : ∃ u, cur[m]? = some u := ⟨_, Array.getElem?_eq_getElem (by omega)⟩
            rw [hu] at k1
            have k2 := hcb.frozen m
            clear hb' hcur hcb hcs hc1 hu
            go_wp2
            go_roundw
            case rel => exact ⟨m + 1, by omega, by go_num, HN⟩
            case measure => simp [intOf]; omega
          · obtain rfl : m = n := by omega
            obtain ⟨hbW, cur, hcur, hcs, hhad⟩ := hst.out
            have HSW := Lib.hid (HS.out.below hbW)
            have HBW := Lib.hid (HB.out.trans (hbW.mono HB.out.size))
            have HCUR := Lib.hid hcur
            have HHAD := Lib.hid hhad
            have hpne : wo.heap.size ≠ W1.heap.size := by have := HS.out.blk.lt; omega
            have hvne : v.ownBlock ≠ some wo.heap.size := fun e => by have := (HS.out.own.lt _ e).2; omega
            have CS := skip_at HSW.out HG.out hM (show k ≤ 1000000 by omega) (show T ≤ 1000000 by omega)
            have htri : (decide (k < T) = true ∧ (adr a0 T == adr a0 k) = false ∧ (adr a0 T != adr a0 k) = true ∧ decide ((adr a0 T - adr a0 k) % 4294967296 < 2147483648) = true) ∨
                (decide (k < T) = false ∧ (adr a0 T == adr a0 k) = true ∧ (adr a0 T != adr a0 k) = false ∧ decide ((adr a0 T - adr a0 k) % 4294967296 < 2147483648) = true) ∨
                (decide (k < T) = false ∧ (adr a0 T == adr a0 k) = false ∧ (adr a0 T != adr a0 k) = true ∧ decide ((adr a0 T - adr a0 k) % 4294967296 < 2147483648) = false) := by
              rcases Nat.lt_trichotomy k T with h | h | h
              · left
                have hne : adr a0 T ≠ adr a0 k := fun e => by have := adr_inj a0 T k (by omega) (by omega) e; omega
                exact ⟨decide_eq_true h, by simpa using hne, by simpa using hne, decide_eq_true (by unfold adr; omega)⟩
              · right; left
                subst h
                exact ⟨decide_eq_false (by omega), by simp, by simp, decide_eq_true (by omega)⟩
              · right; right
                have hne : adr a0 T ≠ adr a0 k := fun e => by have := adr_inj a0 T k (by omega) (by omega) e; omega
                exact ⟨decide_eq_false (by omega), by simpa using hne, by simpa using hne, decide_eq_false (by unfold adr; omega)⟩
            clear hbW hcur hhad hTe
            rcases htri with ⟨e1, e2, e3, e4⟩ | ⟨e1, e2, e3, e4⟩ | ⟨e1, e2, e3, e4⟩
            all_goals
              rw [e1] at CS
              have HCS := Lib.hid CS
              have HE1 := Lib.hid e1
              clear CS e1
              go_wp2_with fail
              refine HCS.out.mono ?_
              rintro e w4 ⟨rfl, hsk⟩
              obtain ⟨v4, k4, rs4, hs4, hg4, hk4b, hU4, hT4⟩ := hsk.out
              have h4b : k4 ≤ 20000 := by omega
              have hB4 := Lib.hid (hT4.blk HCUR.out hpne hvne)
              have HBW4 := Lib.hid (HBW.out.trans (HSW.out.below_of hT4))
              have HS4 := Lib.hid hs4
              have HG4 := Lib.hid hg4
              have HU4 := Lib.hid hU4
              have hkn : absB k4 rs4 T = true := by
                rcases Nat.eq_zero_or_pos T with h | h
                · rw [h]; exact abs_le (Nat.zero_le _)
                · rw [hU4 T h]; simp
              have HK := Lib.hid hkn
              clear hs4 hg4 hU4 hT4 hsk hkn hk4b
              go_wp2_with fail
              refine (has_at HS4.out HG4.out hM (show k4 ≤ 1000000 by omega) (show T ≤ 1000000 by omega)).mono ?_
              rintro e w5 ⟨rfl, hb5⟩
              rw [HK.out]
              have HS5 := Lib.hid (HS4.out.below hb5)
              have hB5 := Lib.hid (hB4.out.1.below hb5 hB4.out.1.lt)
              have HBW5 := Lib.hid (HBW4.out.trans (hb5.mono HBW4.out.size))
              clear hb5
              go_wp2_with fail
              refine (add_twice HS5.out HG4.out hM (show k4 ≤ 1000000 by omega) (show T ≤ 1000000 by omega) HBW5.out.size HK.out).mono ?_
              rintro e w6 ⟨rfl, had6⟩
              obtain ⟨v6, k6, rs6, hs6, hg6, hk6b, hU6, hT6⟩ := had6.out
              have h6b : k6 ≤ 30000 := by omega
              have hB6 := hT6.blk hB5.out hpne hB4.out.2
              have HBW6 := Lib.hid (HBW5.out.trans (HS5.out.below_of hT6))
              have HS6 := Lib.hid hs6
              have HG6 := Lib.hid hg6
              have HU6 := Lib.hid hU6
              have HB6 := Lib.hid hB6
              clear hs6 hg6 hU6 hT6 had6 hk6b hB6
              go_wp2_with fail
              go_loopw [92] (fun j W7 => ∃ m7 : Nat, m7 ≤ m ∧ j = .int .i64 m7 ∧ Hid (Below w6.heap.size w6 W7)) (fun j _ => m - (intOf j).toNat)
              case atStart => exact ⟨0, Nat.zero_le _, rfl, Below.refl _ _⟩
              case round =>
                obtain ⟨W7, rfl⟩ : ∃ W7 : World, W7 = wr := ⟨_, rfl⟩
                obtain ⟨m7, hm7, rfl, hb7⟩ := hrel
                by_cases hmn7 : m7 < m
                · have hbw7 := HBW6.out.trans (hb7.out.mono HBW6.out.size)
                  obtain ⟨x, q, rfl, hc1, hz1, hq1⟩ := elem HR.out hbw7 (show m7 < len1 by omega) a0
                  have HQ := Lib.hid hq1
                  have hml : m7 < len1 := by omega
                  have hm40 : m7 < 40 := by omega
                  have k1 := (HB6.out.1.below hb7.out HB6.out.1.lt).cell m7
                  rw [HHAD.out m7 hmn7] at k1
                  clear hq1 hbw7
                  cases hv : absB k rs (far z1 m7)
                  · rw [hv] at k1
                    clear hv
                    go_wp2
                    go_roundw
                    case rel => exact ⟨m7 + 1, by omega, by go_num, hb7⟩
                    case measure => simp [intOf]; omega
                  · rw [hv] at k1
                    have hkn : absB k6 rs6 (far z1 m7) = true := by
                      rcases Nat.eq_zero_or_pos (far z1 m7) with h | h
                      · rw [h]; exact abs_le (Nat.zero_le _)
                      · rw [HU6.out _ h, HU4.out _ h, hv]; simp
                    have HK7 := Lib.hid hkn
                    clear hv hkn
                    go_wp2_with fail
                    rw [HQ.out]
                    refine (has_at (HS6.out.below hb7.out) HG6.out hM (show k6 ≤ 1000000 by omega) (Nat.le_trans (far_le z1 m7) (by omega))).mono ?_
                    rintro e w8 ⟨rfl, hb8⟩
                    rw [HK7.out]
                    have HB8 := Lib.hid (hb7.out.trans (hb8.mono hb7.out.size))
                    clear hb8 k1 hc1
                    go_wp2
                    go_roundw
                    case rel => exact ⟨m7 + 1, by omega, by go_num, HB8⟩
                    case measure => simp [intOf]; omega
                · obtain rfl : m7 = m := by omega
                  go_wp2
                  go_ret
                  exact ⟨rfl, HBW6.out.trans (hb7.out.mono HBW6.out.size)⟩
      · go_wp2_with fail
        refine (mark_any HS.out).mono ?_
        rintro e wm ⟨rfl, rfl⟩
        go_wp2_with fail
        obtain ⟨n, hnl⟩ : ∃ n : Nat, (n : Int) = 40 := ⟨40, rfl⟩
        rw [show Value.int .i64 40 = Value.int .i64 (n : Int) by rw [hnl]]
        have hnl2 : n ≤ len1 := by omega
        have hn40 : n ≤ 40 := by omega
        have HNL := Lib.hid hnl
        clear hnl
        rw [hTe]
        go_loopw [47] (fun j W => ∃ m : Nat, m ≤ n ∧ j = .int .i64 m ∧ Hid (HSt wo W wo.heap.size k rs z1 m)) (fun j _ => n - (intOf j).toNat)
        case atStart => exact ⟨0, Nat.zero_le _, rfl, (Below.refl _ _).alloc (Nat.le_refl _) _, _, heap_alloc_new wo _, rfl, fun j hj => absurd hj (Nat.not_lt_zero j)⟩
        case round =>
          obtain ⟨W, rfl⟩ : ∃ W : World, W = wr := ⟨_, rfl⟩
          obtain ⟨m, hm, rfl, hst⟩ := hrel
          by_cases hmn : m < n
          · obtain ⟨x, q, rfl, hc1, hz1, hq1⟩ := elem HR.out (HB.out.trans (hst.out.1.mono HB.out.size)) (show m < len1 by omega) a0
            have HQ := Lib.hid hq1
            have hml : m < len1 := by omega
            have hm40 : m < 40 := by omega
            clear hq1
            go_wp2_with fail
            rw [HQ.out]
            refine (has_at (HS.out.below hst.out.1) HG.out hM (by omega) (Nat.le_trans (far_le z1 m) (by omega))).mono ?_
            rintro e W' ⟨rfl, hb'⟩
            have HN := Lib.hid (hst.out.next hb' (Nat.le_refl _) hm40)
            obtain ⟨_, cur, hcur, hcs, _⟩ := hst.out
            have hcb := hcur.below hb' hcur.lt
            have k1 := hcb.cell m
            obtain ⟨u, hu⟩ : ∃ u, cur[m]? = some u := ⟨_, Array.getElem?_eq_getElem (by omega)⟩
            rw [hu] at k1
            have k2 := hcb.frozen m
            clear hb' hcur hcb hcs hc1 hu
            go_wp2
            go_roundw
            case rel => exact ⟨m + 1, by omega, by go_num, HN⟩
            case measure => simp [intOf]; omega
          · obtain rfl : m = n := by omega
            obtain ⟨hbW, cur, hcur, hcs, hhad⟩ := hst.out
            have HSW := Lib.hid (HS.out.below hbW)
            have HBW := Lib.hid (HB.out.trans (hbW.mono HB.out.size))
            have HCUR := Lib.hid hcur
            have HHAD := Lib.hid hhad
            have hpne : wo.heap.size ≠ W1.heap.size := by have := HS.out.blk.lt; omega
            have hvne : v.ownBlock ≠ some wo.heap.size := fun e => by have := (HS.out.own.lt _ e).2; omega
            have CS := skip_at HSW.out HG.out hM (show k ≤ 1000000 by omega) (show T ≤ 1000000 by omega)
            have htri : (decide (k < T) = true ∧ (adr a0 T == adr a0 k) = false ∧ (adr a0 T != adr a0 k) = true ∧ decide ((adr a0 T - adr a0 k) % 4294967296 < 2147483648) = true) ∨
                (decide (k < T) = false ∧ (adr a0 T == adr a0 k) = true ∧ (adr a0 T != adr a0 k) = false ∧ decide ((adr a0 T - adr a0 k) % 4294967296 < 2147483648) = true) ∨
                (decide (k < T) = false ∧ (adr a0 T == adr a0 k) = false ∧ (adr a0 T != adr a0 k) = true ∧ decide ((adr a0 T - adr a0 k) % 4294967296 < 2147483648) = false) := by
              rcases Nat.lt_trichotomy k T with h | h | h
              · left
                have hne : adr a0 T ≠ adr a0 k := fun e => by have := adr_inj a0 T k (by omega) (by omega) e; omega
                exact ⟨decide_eq_true h, by simpa using hne, by simpa using hne, decide_eq_true (by unfold adr; omega)⟩
              · right; left
                subst h
                exact ⟨decide_eq_false (by omega), by simp, by simp, decide_eq_true (by omega)⟩
              · right; right
                have hne : adr a0 T ≠ adr a0 k := fun e => by have := adr_inj a0 T k (by omega) (by omega) e; omega
                exact ⟨decide_eq_false (by omega), by simpa using hne, by simpa using hne, decide_eq_false (by unfold adr; omega)⟩
            clear hbW hcur hhad hTe
            rcases htri with ⟨e1, e2, e3, e4⟩ | ⟨e1, e2, e3, e4⟩ | ⟨e1, e2, e3, e4⟩
            all_goals
              rw [e1] at CS
              have HCS := Lib.hid CS
              have HE1 := Lib.hid e1
              clear CS e1
              go_wp2_with fail
              refine HCS.out.mono ?_
              rintro e w4 ⟨rfl, hsk⟩
              obtain ⟨v4, k4, rs4, hs4, hg4, hk4b, hU4, hT4⟩ := hsk.out
              have h4b : k4 ≤ 20000 := by omega
              have hB4 := Lib.hid (hT4.blk HCUR.out hpne hvne)
              have HBW4 := Lib.hid (HBW.out.trans (HSW.out.below_of hT4))
              have HS4 := Lib.hid hs4
              have HG4 := Lib.hid hg4
              have HU4 := Lib.hid hU4
              have hkn : absB k4 rs4 T = true := by
                rcases Nat.eq_zero_or_pos T with h | h
                · rw [h]; exact abs_le (Nat.zero_le _)
                · rw [hU4 T h]; simp
              have HK := Lib.hid hkn
              clear hs4 hg4 hU4 hT4 hsk hkn hk4b
              go_wp2_with fail
              refine (has_at HS4.out HG4.out hM (show k4 ≤ 1000000 by omega) (show T ≤ 1000000 by omega)).mono ?_
              rintro e w5 ⟨rfl, hb5⟩
              rw [HK.out]
              have HS5 := Lib.hid (HS4.out.below hb5)
              have hB5 := Lib.hid (hB4.out.1.below hb5 hB4.out.1.lt)
              have HBW5 := Lib.hid (HBW4.out.trans (hb5.mono HBW4.out.size))
              clear hb5
              go_wp2_with fail
              refine (add_twice HS5.out HG4.out hM (show k4 ≤ 1000000 by omega) (show T ≤ 1000000 by omega) HBW5.out.size HK.out).mono ?_
              rintro e w6 ⟨rfl, had6⟩
              obtain ⟨v6, k6, rs6, hs6, hg6, hk6b, hU6, hT6⟩ := had6.out
              have h6b : k6 ≤ 30000 := by omega
              have hB6 := hT6.blk hB5.out hpne hB4.out.2
              have HBW6 := Lib.hid (HBW5.out.trans (HS5.out.below_of hT6))
              have HS6 := Lib.hid hs6
              have HG6 := Lib.hid hg6
              have HU6 := Lib.hid hU6
              have HB6 := Lib.hid hB6
              clear hs6 hg6 hU6 hT6 had6 hk6b hB6
              go_wp2_with fail
              rw [show Value.int .i64 40 = Value.int .i64 (m : Int) by rw [HNL.out]]
              go_loopw [92] (fun j W7 => ∃ m7 : Nat, m7 ≤ m ∧ j = .int .i64 m7 ∧ Hid (Below w6.heap.size w6 W7)) (fun j _ => m - (intOf j).toNat)
              case atStart => exact ⟨0, Nat.zero_le _, rfl, Below.refl _ _⟩
              case round =>
                obtain ⟨W7, rfl⟩ : ∃ W7 : World, W7 = wr := ⟨_, rfl⟩
                obtain ⟨m7, hm7, rfl, hb7⟩ := hrel
                by_cases hmn7 : m7 < m
                · have hbw7 := HBW6.out.trans (hb7.out.mono HBW6.out.size)
                  obtain ⟨x, q, rfl, hc1, hz1, hq1⟩ := elem HR.out hbw7 (show m7 < len1 by omega) a0
                  have HQ := Lib.hid hq1
                  have hml : m7 < len1 := by omega
                  have hm40 : m7 < 40 := by omega
                  have k1 := (HB6.out.1.below hb7.out HB6.out.1.lt).cell m7
                  rw [HHAD.out m7 hmn7] at k1
                  clear hq1 hbw7
                  cases hv : absB k rs (far z1 m7)
                  · rw [hv] at k1
                    clear hv
                    go_wp2
                    go_roundw
                    case rel => exact ⟨m7 + 1, by omega, by go_num, hb7⟩
                    case measure => simp [intOf]; omega
                  · rw [hv] at k1
                    have hkn : absB k6 rs6 (far z1 m7) = true := by
                      rcases Nat.eq_zero_or_pos (far z1 m7) with h | h
                      · rw [h]; exact abs_le (Nat.zero_le _)
                      · rw [HU6.out _ h, HU4.out _ h, hv]; simp
                    have HK7 := Lib.hid hkn
                    clear hv hkn
                    go_wp2_with fail
                    rw [HQ.out]
                    refine (has_at (HS6.out.below hb7.out) HG6.out hM (show k6 ≤ 1000000 by omega) (Nat.le_trans (far_le z1 m7) (by omega))).mono ?_
                    rintro e w8 ⟨rfl, hb8⟩
                    rw [HK7.out]
                    have HB8 := Lib.hid (hb7.out.trans (hb8.mono hb7.out.size))
                    clear hb8 k1 hc1
                    go_wp2
                    go_roundw
                    case rel => exact ⟨m7 + 1, by omega, by go_num, HB8⟩
                    case measure => simp [intOf]; omega
                · obtain rfl : m7 = m := by omega
                  go_wp2
                  go_ret
                  exact ⟨rfl, HBW6.out.trans (hb7.out.mono HBW6.out.size)⟩

/-! ### THE ROW's STEP: WRITTEN OUT: LEAVE IT -/
set_option maxRecDepth 100000 in
theorem lifted (os : Os) (started : os.Started) (H : Type) (enc : TypeId × Value → H) :
    ReturnsInHanded {} Try.checked os 8 .any (Rows.spanSkipsSpec.pre6 enc Try.prog Try.f8 Rows.spanSkipsRow.domain false) (Rows.spanSkipsSpec.post enc Try.prog Try.f8 false true false false) := by
  refine returnsInHanded_of_change (C := Try.checked) own started (by kernel_rfl) Try.func8
    (ChangeSpec.witness6 (enc := enc) (C := Try.checked) false ⟨#[], #[.int .u32 0, .slice none 0 0, .int .u16 0], []⟩ 8 (by kernel_rfl) (by kernel_rfl) (by kernel_rfl) (by kernel_rfl)) ?_
  intro W base args ds gs before hval0 hW hcnd _
  have hval : ∀ (j : Nat) t v, Try.f8.params[j]? = some t → args[j]? = some v → Value.okWide Try.prog W .any base t v := hval0
  have hW' := hW
  obtain ⟨p, q, hA0, hV, rfl, hfz, hnd⟩ := hW
  have hA : DataW.TrodAll enc Try.prog W 0 (fun _ => true) true Try.f8.params.toList args.toList ds p := hA0
  rw [Try.params8] at hA hval
  obtain ⟨v0, vs0, d0, ds0, p0, q0, hargs, rfl, rfl, h0, r0⟩ := trodAll_cons hA
  obtain ⟨v1, vs1, d1, ds1, p1, q1, rfl, rfl, rfl, h1, r1⟩ := trodAll_cons r0
  obtain ⟨v2, vs2, d2, ds2, p2, q2, rfl, rfl, rfl, h2, r2⟩ := trodAll_cons r1
  obtain ⟨rfl, rfl, rfl⟩ := trodAll_nil r2
  obtain rfl : args = #[v0, v1, v2] := by cases args; simp_all
  obtain ⟨rfl, rfl⟩ := trodVars_none hV
  obtain ⟨a0, rfl, rfl, rfl, w0⟩ := open_int Try.underlying22 (hval 0 22 v0 rfl rfl) h0
  obtain ⟨a1, len1, cap1, rfl⟩ := okWide_slice Try.underlying46 (hval 1 46 v1 rfl rfl)
  have k1 := h1
  have lt1 : ∀ x ∈ p1, x.block < W.heap.size := by obtain ⟨m, hm⟩ := k1; exact DataW.trod_lt m _ _ _ hm
  obtain ⟨z1, w1⟩ : ∃ zs, IsRow .u16 W a1 len1 cap1 zs := by
    obtain ⟨fuel, hf⟩ := h1
    rcases open_ints Try.underlying46 Try.underlying42 (by kernel_rfl) hf with ⟨hcs, _⟩ | ⟨x, l, c, zs, hcs, _, hl, hm, hz, _, hcell, hwz⟩
    · simp [Value.cells] at hcs
      obtain ⟨rfl, rfl, rfl⟩ := hcs
      exact ⟨[], .inl ⟨rfl, rfl, rfl, rfl⟩⟩
    · simp [Value.cells] at hcs
      obtain ⟨rfl, rfl, rfl⟩ := hcs
      exact ⟨zs, .inr ⟨_, rfl, hl, hm, by simpa using hz, hcell, hwz⟩⟩
  obtain ⟨a2, rfl, rfl, rfl, w2⟩ := open_int Try.underlying42 (hval 2 42 v2 rfl rfl) h2
  clear hA0 hval0
  refine (walk a0 a1 len1 cap1 z1 a2 W w0 w1 w2).mono fun e W' ⟨he, bel⟩ => ?_
  subst he
  exact ⟨_, rfl, _, _, _, [], _, [], hW', trodAll_mk1 (shut_bool Try.underlying4 _), (trodAll_cons_mk (shut_int Try.underlying22 w0) (trodAll_cons_mk (Below.trod laidOut (by kernel_rfl) (of_decide_eq_true (by kernel_rfl)) k1 bel lt1) (trodAll_cons_mk (shut_int Try.underlying42 w2) trodAll_mk0))), rfl, bel.frame _, fun h => by cases h⟩

theorem over : Rows.spanSkipsRow.holds Try.pinned (OpenSpec.ofChange Rows.spanSkipsSpec) :=
  OpenClaim.holds_of_wide 8 Try.f8 rfl rfl rfl rfl rfl rfl rfl ⟨rfl, rfl, rfl, rfl, rfl⟩ rfl rfl rfl rfl rfl (by kernel_rfl) Try.func8 (by kernel_rfl)
    (of_decide_eq_true (by kernel_rfl)) (by unfold Func.isWrapper; first | (rw [if_pos (by decide +kernel)]; kernel_rfl) | (rw [if_neg (by decide +kernel)]; exact ⟨rfl, rfl⟩))
    (fun os started H enc _ => lifted os started H enc)

/-- ████ THE STATEMENT ████ -/
theorem proved : Rows.SpanSkipsSaid := over
#print axioms proved
end Go.Proofs.Ytmkbadkibjmpaaa.spanSkips
