/-
  The document's set (flumeref02): Gaps.
-/
import Derived.Test.YtgbkmnmkejcogaaSpanRef3
import Derived.Test.YtgbkmnmkejcogaaSpanLen
import Derived.Maps.AppendAt
import Derived.Test.YtgbkmnmkejcogaaSpanLaw
set_option linter.unusedVariables false
set_option linter.unusedSimpArgs false
namespace Go.Proofs.Ytgbkmnmkejcogaa.Span
open Go.ChangeShapes Go.WideShapes Go.ChangeAt Go.RowKit Go.Proofs.Ytgbkmnmkejcogaa.Ser

/-- The rows of what is known below j. -/
def Upto (rs : List (Nat × Nat)) (j : Nat) (L : List (Nat × Nat)) : Prop := Gp 1 L ∧ ∀ x, knB L x = (knB rs x && decide (x < j))
theorem upto_start (rs : List (Nat × Nat)) (hg : Gp 2 rs) : Upto rs 1 [] := by
  refine ⟨gp_nil 1, fun x => ?_⟩
  cases e : knB rs x
  · rfl
  · have := kn_bd hg e
    have : ¬ x < 1 := by omega
    simp [knB_nil, this]
theorem upto_no {rs L : List (Nat × Nat)} {j : Nat} (h : Upto rs j L) (hk : knB rs j = false) : Upto rs (j + 1) L := by
  refine ⟨h.1, fun x => ?_⟩
  rw [h.2 x]
  cases e : knB rs x
  · rfl
  · have : x ≠ j := fun e2 => by rw [e2, hk] at e; cases e
    simp; omega
theorem upto_end {rs L : List (Nat × Nat)} (hg : Gp 2 rs) (h : Upto rs 4097 L) : L = rs :=
  canon h.1 hg (fun x => by
    rw [h.2 x]
    cases e : knB rs x
    · rfl
    · have := kn_bd hg e; simp; omega)
theorem upto_snoc {rs L : List (Nat × Nat)} {j : Nat} (h : Upto rs j L) (hj : 1 ≤ j ∧ j ≤ 4096) (hk : knB rs j = true) (hp : knB rs (j - 1) = false ∨ j = 1) : Upto rs (j + 1) (L ++ [(j, j)]) := by
  have hb : ∀ r ∈ L, r.2 + 1 < j := fun r hr => by
    have hr2 := h.1.2 r hr
    have h2 : knB L r.2 = true := (knB_iff _ _).2 ⟨r, hr, hr2.2.1, Nat.le_refl _⟩
    rw [h.2] at h2
    simp at h2
    rcases hp with hp | hp
    · have : r.2 ≠ j - 1 := fun e => by rw [e, hp] at h2; cases h2.1
      omega
    · omega
  refine ⟨gp_append.2 ⟨h.1, gp_cons.2 ⟨by simp; omega, by simp, gp_nil 1⟩, fun r hr s hs => ?_⟩, fun x => ?_⟩
  · have : s = (j, j) := by simpa using hs
    subst this; exact hb r hr
  · rw [knB_append, one_kn, h.2 x]
    by_cases e : x = j
    · subst e; simp [hk]
    · have e2 : (decide (j ≤ x) && decide (x ≤ j)) = false := by rw [Bool.eq_false_iff]; simp; omega
      rw [e2, Bool.or_false]
      congr 1
      rw [decide_eq_decide]; omega
theorem upto_last {rs L : List (Nat × Nat)} {j : Nat} (h : Upto rs (j + 1) L) (hk : knB rs j = true) : ∃ L0 a, L = L0 ++ [(a, j)] ∧ a ≤ j := by
  have hkj : knB L j = true := by rw [h.2]; simp [hk]
  obtain ⟨r, hr, h1, h2⟩ := (knB_iff _ _).1 hkj
  have hr2 := h.1.2 r hr
  have top : ∀ s ∈ L, s.2 < j + 1 := fun s hs => by
    have hs2 := h.1.2 s hs
    have : knB L s.2 = true := (knB_iff _ _).2 ⟨s, hs, hs2.2.1, Nat.le_refl _⟩
    rw [h.2] at this
    simp at this
    omega
  have := top r hr
  obtain ⟨L0, L2, rfl⟩ := List.append_of_mem hr
  obtain ⟨g1, g2, g3⟩ := gp_append.1 h.1
  have hL2 : L2 = [] := by
    cases L2 with
    | nil => rfl
    | cons s L2 =>
      have h3 := (gp_cons.1 g2).2.1 s (by simp)
      have h4 := top s (by simp)
      have h5 := h.1.2 s (by simp)
      omega
  subst hL2
  refine ⟨L0, r.1, ?_, h1⟩
  have : r.2 = j := by omega
  rw [← this]
theorem upto_grow {rs L0 : List (Nat × Nat)} {a i : Nat} (h : Upto rs (i + 1) (L0 ++ [(a, i)])) (ha : a ≤ i) (hi : i + 1 ≤ 4096) (hk : knB rs (i + 1) = true) : Upto rs (i + 2) (L0 ++ [(a, i + 1)]) := by
  obtain ⟨g1, g2, g3⟩ := gp_append.1 h.1
  have ha2 := g2.2 (a, i) (by simp)
  refine ⟨gp_append.2 ⟨g1, gp_cons.2 ⟨by simp at ha2 ⊢; omega, by simp, gp_nil 1⟩, fun r hr s hs => ?_⟩, fun x => ?_⟩
  · have : s = (a, i + 1) := by simpa using hs
    subst this; exact g3 r hr (a, i) (by simp)
  · have hx := h.2 x
    rw [knB_append, one_kn] at hx ⊢
    by_cases e : x = i + 1
    · subst e
      have e2 : (decide (a ≤ i + 1) && decide (i + 1 ≤ i + 1)) = true := by simp; omega
      rw [e2, hk]; simp
    · have e2 : (decide (a ≤ x) && decide (x ≤ i + 1)) = (decide (a ≤ x) && decide (x ≤ i)) := by rw [Bool.eq_iff_iff]; simp; omega
      rw [e2, hx]
      congr 1
      rw [decide_eq_decide]; omega
theorem gcells_set2 (x : Nat) (r : Nat × Nat) : ∀ X : List (Nat × Nat), (gcells (X ++ [r])).set (X.length * 2 + 1) (.int .u16 (x : Int)) = gcells (X ++ [(r.1, x)])
  | [] => rfl
  | s :: X => by
    have := gcells_set2 x r X
    rw [show (s :: X).length * 2 + 1 = X.length * 2 + 1 + 1 + 1 by simp only [List.length_cons]; omega]
    simp only [List.cons_append, gcells, List.set_cons_succ]
    rw [this]

/-- What the document's Gaps leaves. -/
def RGaps (w : World) (rs : List (Nat × Nat)) (e : Ending) (w' : World) : Prop :=
  ∃ u, e = .returned (.tuple #[u, .int .i64 ((cnt rs : Nat) : Int)]) ∧ w'.ownsRow w.heap.size 58 2 u rs.length (gcells rs) ∧ Below w.heap.size w w'

set_option maxRecDepth 100000 in
set_option maxHeartbeats 1000000 in
theorem rgaps_any {w : World} {B q : Nat} {M : Int} {rs : List (Nat × Nat)} (h : RefAt w B q M (knB rs)) (hg : Gp 2 rs) :
    Calls Try.prog 21 #[ptr q] w (RGaps w rs) := by
  obtain ⟨i0, hi0, hz0, hz1, hz2⟩ := info_parts gap_info
  have HS := Lib.hid h
  have HG := Lib.hid hg
  clear h hg
  go_enter Try.func21, Try.ntmps21
  go_wp2
  go_loopw [4, 5, 6] (fun c m d wr => ∃ (j : Nat) (L : List (Nat × Nat)) (a : Option Addr) (n cap cn : Nat), 1 ≤ j ∧ j ≤ 4097 ∧ d = .int .i64 j ∧ m = .int .i64 (cn : Int) ∧ c = .slice a n cap ∧ cn ≤ 4097 ∧ Hid (cn = cnt L ∧ n = L.length ∧ Upto rs j L ∧ wr.ownsRow w.heap.size 58 2 (.slice a n cap) L.length (gcells L)) ∧ Hid (Below w.heap.size w wr)) (fun _ _ d _ => 4097 - (intOf d).toNat)
  case atStart => exact ⟨1, [], none, 0, 0, 0, Nat.le_refl _, by omega, rfl, rfl, rfl, by omega, ⟨rfl, rfl, upto_start rs HG.out, World.ownsRow_nil _ _ _ _⟩, Below.refl _ _⟩
  case round =>
    obtain ⟨j, L, a, n, cap, cn, hj1, hj2, rfl, rfl, rfl, hcn, hH, hb⟩ := hrel
    by_cases hlt : j ≤ 4096
    · have hs := HS.out.below hb.out
      have c0 := hs.cell j (by omega)
      cases hk : knB rs j
      · rw [hk] at c0
        have HN : Hid (cn = cnt L ∧ n = L.length ∧ Upto rs (j + 1) L ∧ wr.ownsRow w.heap.size 58 2 (.slice a n cap) L.length (gcells L)) := ⟨hH.out.1, hH.out.2.1, upto_no hH.out.2.2.1 hk, hH.out.2.2.2⟩
        clear hk hs
        go_wp2
        go_roundw
        case rel => exact ⟨j + 1, L, a, n, cap, cn, by omega, by omega, by go_num, rfl, rfl, hcn, HN, hb⟩
        case measure => simp [intOf]; omega
      · by_cases h1 : j = 1
        · subst h1
          rw [hk] at c0
          have HU := Lib.hid (upto_snoc hH.out.2.2.1 ⟨hj1, hlt⟩ hk (.inr rfl))
          have hcl := cnt_le HU.out.1
          have hcs : cnt (L ++ [(1, 1)]) = cn + 1 := by rw [cnt_snoc, hH.out.1]; simp
          rw [hcs] at hcl
          have HCS := Lib.hid hcs
          have hnl : L.length ≤ 4097 := gp_len hH.out.2.2.1.1
          have HOW := Lib.hid hH.out.2.2.2
          have hwb := hb.out.size
          have hu1 : IntKind.u16.wrap ((1 : Nat) : Int) = ((1 : Nat) : Int) := by simp [IntKind.wrap, IntKind.bits, IntKind.signed]
          clear hk hs hcs
          go_wp2_with (at_builtin; refine wpList_append_own_at _ rfl (.tmp 39) (.tmp 45) 49 rfl w.heap.size 58 i0 _ 2 4 Try.underlying49 hi0 hz0 hz1 hz2 rfl (by omega) (.slice a n cap) L.length (gcells L) rfl (HOW.out.alloc _) ⟨wr.heap.size, 0, none⟩ 1 1 [.int .u16 1, .int .u16 1] rfl rfl (World.news_of_block (cs := #[.int .u16 1, .int .u16 1]) (t := 58) (fr := (0, 0)) (heap_alloc_new wr _)) (by simp [Value.oneCell']) (by simp only [maxLen]; omega) (by omega) (by simp; omega) ?_; intro v1 w1 hown1 hgrow1 _ _)
          obtain ⟨a1, cap1, rfl⟩ := own_slice hown1
          have HN : Hid (cn + 1 = cnt (L ++ [(1, 1)]) ∧ L.length + 1 = (L ++ [(1, 1)]).length ∧ Upto rs (1 + 1) (L ++ [(1, 1)]) ∧ w1.ownsRow w.heap.size 58 2 (.slice a1 (L.length + 1) cap1) (L ++ [(1, 1)]).length (gcells (L ++ [(1, 1)]))) :=
            ⟨HCS.out.symm, by simp, HU.out, by rw [gcells_append, List.length_append]; exact hown1⟩
          have HB1 : Hid (Below w.heap.size w w1) := (hb.out.alloc hwb _).grown hgrow1 (Nat.le_trans hwb (by simp)) (fun b e => (HOW.out.lt b e).1)
          clear hown1 hgrow1 hu1
          go_wp2
          go_roundw
          case rel => exact ⟨1 + 1, L ++ [(1, 1)], a1, L.length + 1, cap1, cn + 1, by omega, by omega, by go_num, by go_num, rfl, by omega, HN, HB1⟩
          case measure => (simp [intOf]; try omega)
        · obtain ⟨i, rfl⟩ : ∃ i, j = i + 1 := ⟨j - 1, by omega⟩
          rw [hk] at c0
          have hi1 : 1 ≤ i := by omega
          have c1 := hs.cell i (by omega)
          cases hki : knB rs i
          · rw [hki] at c1
            have HU := Lib.hid (upto_snoc hH.out.2.2.1 ⟨hj1, hlt⟩ hk (.inl (by simpa using hki)))
            have hcl := cnt_le HU.out.1
            have hcs : cnt (L ++ [(i + 1, i + 1)]) = cn + 1 := by rw [cnt_snoc, hH.out.1]; simp
            rw [hcs] at hcl
            have HCS := Lib.hid hcs
            have hnl : L.length ≤ 4097 := gp_len hH.out.2.2.1.1
            have HOW := Lib.hid hH.out.2.2.2
            have hwb := hb.out.size
            have hu1 : IntKind.u16.wrap ((i + 1 : Nat) : Int) = ((i + 1 : Nat) : Int) := by simp [IntKind.wrap, IntKind.bits, IntKind.signed]; omega
            have hu2 : IntKind.u16.wrap ((i : Int) + 1) = (i : Int) + 1 := by simp [IntKind.wrap, IntKind.bits, IntKind.signed]; omega
            clear hk hki hs hcs
            go_wp2_with (at_builtin; refine wpList_append_own_at _ rfl (.tmp 39) (.tmp 45) 49 rfl w.heap.size 58 i0 _ 2 4 Try.underlying49 hi0 hz0 hz1 hz2 rfl (by omega) (.slice a n cap) L.length (gcells L) rfl (HOW.out.alloc _) ⟨wr.heap.size, 0, none⟩ 1 1 [.int .u16 ((i : Int) + 1), .int .u16 ((i : Int) + 1)] rfl rfl (World.news_of_block (cs := #[.int .u16 ((i : Int) + 1), .int .u16 ((i : Int) + 1)]) (t := 58) (fr := (0, 0)) (heap_alloc_new wr _)) (by simp [Value.oneCell']) (by simp only [maxLen]; omega) (by omega) (by simp; omega) ?_; intro v1 w1 hown1 hgrow1 _ _)
            obtain ⟨a1, cap1, rfl⟩ := own_slice hown1
            have HN : Hid (cn + 1 = cnt (L ++ [(i + 1, i + 1)]) ∧ L.length + 1 = (L ++ [(i + 1, i + 1)]).length ∧ Upto rs (i + 1 + 1) (L ++ [(i + 1, i + 1)]) ∧ w1.ownsRow w.heap.size 58 2 (.slice a1 (L.length + 1) cap1) (L ++ [(i + 1, i + 1)]).length (gcells (L ++ [(i + 1, i + 1)]))) :=
              ⟨HCS.out.symm, by simp, HU.out, by rw [gcells_append, List.length_append]; exact hown1⟩
            have HB1 : Hid (Below w.heap.size w w1) := (hb.out.alloc hwb _).grown hgrow1 (Nat.le_trans hwb (by simp)) (fun b e => (HOW.out.lt b e).1)
            clear hown1 hgrow1 hu1 hu2
            go_wp2
            go_roundw
            case rel => exact ⟨i + 1 + 1, L ++ [(i + 1, i + 1)], a1, L.length + 1, cap1, cn + 1, by omega, by omega, by go_num, by go_num, rfl, by omega, HN, HB1⟩
            case measure => (simp [intOf]; try omega)
          · rw [hki] at c1
            have hu0 := hH.out.2.2.1
            obtain ⟨L0, a0, rfl, ha0⟩ := upto_last hu0 hki
            obtain ⟨m0, hm0⟩ : ∃ m0, m0 = L0.length := ⟨_, rfl⟩
            have hnn : n = m0 + 1 := by rw [hH.out.2.1, hm0]; simp
            subst hnn
            have HU := Lib.hid (upto_grow hu0 ha0 hlt hk)
            have how := hH.out.2.2.2
            obtain ⟨g, cp, hv, hgb, hgl⟩ := how.form (by simp)
            injection hv with e1 e2 e3
            subst e1
            have hcl := cnt_le HU.out.1
            have hcs : cnt (L0 ++ [(a0, i + 1)]) = cn + 1 := by rw [hH.out.1, cnt_snoc, cnt_snoc]; simp; omega
            rw [hcs] at hcl
            have HCS := Lib.hid hcs
            have hll : (L0 ++ [(a0, i)]).length = m0 + 1 := by simp [hm0]
            rw [hll] at how
            have hnl : m0 + 1 ≤ 4097 := by rw [← hll]; exact gp_len hu0.1
            obtain ⟨u, hu⟩ : ∃ u, (gcells (L0 ++ [(a0, i)]))[m0 * 2 + 1]? = some u := ⟨_, List.getElem?_eq_getElem (by rw [gcells_length, hll]; omega)⟩
            have k1 := how.cellAt (m0 * 2 + 1) (by omega)
            rw [hu] at k1
            have k2 := how.frozenAt (m0 * 2 + 1)
            have st := how.stored (m0 * 2 + 1) (.int .u16 ((i + 1 : Nat) : Int))
            rw [hm0, gcells_set2, ← hm0] at st
            have HN : Hid (cn + 1 = cnt (L0 ++ [(a0, i + 1)]) ∧ m0 + 1 = (L0 ++ [(a0, i + 1)]).length ∧ Upto rs (i + 1 + 1) (L0 ++ [(a0, i + 1)]) ∧ (wr.setCell ⟨g, m0 * 2 + 1, none⟩ (.int .u16 ((i + 1 : Nat) : Int))).ownsRow w.heap.size 58 2 (.slice (some ⟨g, 0, none⟩) (m0 + 1) cap) (L0 ++ [(a0, i + 1)]).length (gcells (L0 ++ [(a0, i + 1)]))) :=
              ⟨hcs.symm, by simp [hm0], HU.out, by rw [show (L0 ++ [(a0, i + 1)]).length = m0 + 1 by simp [hm0]]; exact st.1⟩
            have HB1 : Hid (Below w.heap.size w (wr.setCell ⟨g, m0 * 2 + 1, none⟩ (.int .u16 ((i + 1 : Nat) : Int)))) := hb.out.setCell hgb _
            have hu1 : IntKind.u16.wrap (((i + 1 : Nat)) : Int) = ((i + 1 : Nat) : Int) := by simp [IntKind.wrap, IntKind.bits, IntKind.signed]; omega
            have hu2 : IntKind.u16.wrap ((i : Int) + 1) = (i : Int) + 1 := by simp [IntKind.wrap, IntKind.bits, IntKind.signed]; omega
            clear hk hki hs hcs how hu st hu0 hm0 hll e2 e3
            go_wp2
            go_roundw
            case rel => exact ⟨i + 1 + 1, L0 ++ [(a0, i + 1)], some ⟨g, 0, none⟩, m0 + 1, cap, cn + 1, by omega, by omega, by go_num, by go_num, rfl, by omega, HN, HB1⟩
            case measure => (simp [intOf]; try omega)
    · obtain rfl : j = 4097 := by omega
      have hL := upto_end HG.out hH.out.2.2.1
      have H : Hid (RGaps w rs (.returned (.tuple #[.slice a n cap, .int .i64 (cn : Int)])) wr) := by
        refine ⟨_, by rw [hH.out.1, hL], ?_, hb.out⟩
        have := hH.out.2.2.2
        rwa [hL] at this
      clear hL
      go_wp2
      go_ret2
      exact H.out
end Go.Proofs.Ytgbkmnmkejcogaa.Span
