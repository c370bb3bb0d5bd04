/-
  Contracts of package span's search: find's closure, sort.Search over it, find, covers, ahead.
-/
import Derived.Test.YtgbkmnmkejcogaaSpanMem
set_option linter.unusedVariables false
set_option linter.unusedSimpArgs false
namespace Go.Proofs.Ytgbkmnmkejcogaa.Span
open Go.ChangeShapes Go.WideShapes Go.ChangeAt Go.RowKit Go.Proofs.Ytgbkmnmkejcogaa.Ser

theorem dist_at (M : Int) (x : Nat) (hM : 0 ≤ M ∧ M ≤ 4294967295) (hx : x < 4294967296) (w : World) :
    Calls Try.prog 42 #[.int .u32 M, .int .u32 (adr M x)] w fun e w' => e = .returned (.int .u32 (x : Int)) ∧ w' = w :=
  (dist_any _ _ w).mono fun e w' ⟨he, hw⟩ => ⟨by rw [he, dist_adr M x hM hx], hw.symm⟩

theorem SetAt.at_ {w : World} {B p : Nat} {v : Value} {M : Int} {rs : List (Nat × Nat)} (h : SetAt w B p v M rs) {k : Nat} (hk : k < rs.length) :
    ∃ g cap, v = .slice (some ⟨g, 0, none⟩) rs.length cap ∧ B ≤ g ∧ g < w.heap.size ∧ w.cell? ⟨g, k * 2, none⟩ = some (.int .u32 (adr M rs[k].1)) ∧ w.cell? ⟨g, k * 2 + 1, none⟩ = some (.int .u32 (adr M rs[k].2)) := by
  obtain ⟨g, cap, hv, hb, hg⟩ := h.own.form (by omega)
  have hc := h.own
  rw [hv] at hc
  have c0 := hc.cellAt (k * 2) (by omega)
  have c1 := hc.cellAt (k * 2 + 1) (by omega)
  have hf := flat_get M rs k hk
  rw [Nat.mul_comm] at hf
  exact ⟨g, cap, hv, hb, hg, c0.trans hf.1, c1.trans hf.2⟩

set_option maxHeartbeats 400000 in
theorem fc_any {w : World} {B p ps pt d : Nat} {v : Value} {M : Int} {rs : List (Nat × Nat)} {lo : Nat} (h : SetAt w B p v M rs) (hg : Gp lo rs) (hd : d < 4294967296) (k : Nat) (hk : k < rs.length)
    (hps : w.cell? ⟨ps, 0, none⟩ = some (ptr p)) (hpt : w.cell? ⟨pt, 0, none⟩ = some (.int .u32 (adr M d))) :
    Calls Try.prog 45 #[.int .i64 (k : Int), ptr ps, ptr pt] w fun e w' => e = .returned (.bool (decide (d ≤ rs[k].2))) ∧ ∃ n, w' = w.drewN n := by
  have hM := h.hM
  have h0 := h.mark
  have h1 := h.rows
  obtain ⟨g, cap, rfl, hb, hgl, c0, c1⟩ := h.at_ hk
  have hr := hg.2 _ (List.getElem_mem hk)
  obtain ⟨x, hx⟩ : ∃ x, x = rs[k].2 := ⟨_, rfl⟩
  rw [← hx] at c1 hr ⊢
  obtain ⟨n, hn⟩ : ∃ n, n = rs.length := ⟨_, rfl⟩
  rw [← hn] at h1 hk
  have hl := gp_len hg
  rw [← hn] at hl
  clear hx hn hg h c0 hb hgl
  go_enter Try.func45, Try.ntmps45
  go_wp2
  go_quiet ((go_at_call 42; exact Calls.quiet_of_same (dist_at M _ hM (by omega) _)))
  go_wp2
  go_ret
  exact ⟨rfl, _, rfl⟩

theorem SetAt.drewN {w : World} {B p : Nat} {v : Value} {M : Int} {rs : List (Nat × Nat)} (h : SetAt w B p v M rs) (n : Nat) : SetAt (w.drewN n) B p v M rs := ⟨h.hp, h.hM, h.blk, h.own⟩

/-- How far the search has come. -/
def Sought (rs : List (Nat × Nat)) (d a b : Nat) : Prop := a ≤ b ∧ b ≤ rs.length ∧ (∀ k (h : k < rs.length), k < a → rs[k].2 < d) ∧ ∀ k (h : k < rs.length), b ≤ k → d ≤ rs[k].2
theorem sought_no {lo : Nat} {rs : List (Nat × Nat)} {d a b h : Nat} (hg : Gp lo rs) (hs : Sought rs d a b) (h1 : a ≤ h) (h2 : h < b) (hl : h < rs.length) (hd : ¬ d ≤ rs[h].2) : Sought rs d (h + 1) b := by
  refine ⟨by omega, hs.2.1, fun k hk hkh => ?_, hs.2.2.2⟩
  rcases Nat.lt_or_ge k h with hlt | hge
  · have h3 := List.pairwise_iff_getElem.1 hg.1 k h hk hl hlt
    have h4 := hg.2 _ (List.getElem_mem hl)
    omega
  · obtain rfl : k = h := by omega
    omega
theorem sought_yes {lo : Nat} {rs : List (Nat × Nat)} {d a b h : Nat} (hg : Gp lo rs) (hs : Sought rs d a b) (h1 : a ≤ h) (h2 : h < b) (hl : h < rs.length) (hd : d ≤ rs[h].2) : Sought rs d a h := by
  refine ⟨by omega, by omega, hs.2.2.1, fun k hk hkh => ?_⟩
  rcases Nat.lt_or_ge h k with hlt | hge
  · have h3 := List.pairwise_iff_getElem.1 hg.1 h k hl hk hlt
    have h4 := hg.2 _ (List.getElem_mem hk)
    omega
  · obtain rfl : k = h := by omega
    omega
theorem sought_end {rs : List (Nat × Nat)} {d a : Nat} (hs : Sought rs d a a) : Split rs (rs.take a) (rs.drop a) d := by
  obtain ⟨_, h1, h2, h3⟩ := hs
  refine ⟨by simp, fun r hr => ?_, fun r hr => ?_⟩
  · obtain ⟨i, hi, rfl⟩ := List.getElem_of_mem hr
    simp only [List.length_take] at hi
    rw [List.getElem_take]
    exact h2 i (by omega) (by omega)
  · obtain ⟨i, hi, rfl⟩ := List.getElem_of_mem hr
    simp only [List.length_drop] at hi
    rw [List.getElem_drop]
    exact h3 _ (by omega) (by omega)

/-- What find's search leaves. -/
def Found (rs : List (Nat × Nat)) (d : Nat) (e : Ending) : Prop := ∃ A B, Split rs A B d ∧ e = .returned (.int .i64 (A.length : Int))

set_option maxHeartbeats 400000 in
theorem search_any {w : World} {B p ps pt d : Nat} {v : Value} {M : Int} {rs : List (Nat × Nat)} {lo : Nat} (h : SetAt w B p v M rs) (hg : Gp lo rs) (hd : d < 4294967296)
    (hps : w.cell? ⟨ps, 0, none⟩ = some (ptr p)) (hpt : w.cell? ⟨pt, 0, none⟩ = some (.int .u32 (adr M d))) :
    Calls Try.prog 44 #[.int .i64 rs.length, .func (.func 45) #[] #[ptr ps, ptr pt]] w fun e w' => Found rs d e ∧ ∃ n, w' = w.drewN n := by
  have hl := gp_len hg
  have start : Sought rs d 0 rs.length := ⟨Nat.zero_le _, Nat.le_refl _, fun k _ h => absurd h (Nat.not_lt_zero k), fun k h h' => by omega⟩
  have HS : Hid (SetAt w B p v M rs) := Lib.hid h
  have HG : Hid (Gp lo rs) := Lib.hid hg
  have H1 := Lib.hid hps
  have H2 := Lib.hid hpt
  have H3 := Lib.hid start
  clear h hg hps hpt start
  go_enter Try.func44, Try.ntmps44
  go_wp2
  go_loopw [5, 6] (fun i j wr => ∃ a b : Nat, Hid (Sought rs d a b) ∧ a ≤ b ∧ b ≤ 4097 ∧ i = .int .i64 a ∧ j = .int .i64 b ∧ ∃ q, wr = w.drewN q) (fun i j _ => ((intOf j).toNat - (intOf i).toNat))
  case atStart => exact ⟨0, rs.length, H3, Nat.zero_le _, hl, rfl, rfl, 0, rfl⟩
  case round =>
    obtain ⟨a, b, hs, hab, hb, rfl, rfl, q, rfl⟩ := hrel
    by_cases hlt : a < b
    · have hh : (a + b) / 2 < rs.length := by have := hs.out.2.1; omega
      have C := fc_any (HS.out.drewN q) HG.out hd ((a + b) / 2) hh H1.out H2.out
      rw [show (((a + b) / 2 : Nat) : Int) = ((a : Int) + (b : Int)) / 2 by omega] at C
      cases hq : decide (d ≤ rs[(a + b) / 2].2)
      · rw [hq] at C
        have HC := Lib.hid C
        have HQ := Lib.hid hq
        clear hq C
        go_wp2_with (go_at_call 45; refine (HC.out).mono ?_; rintro e w' ⟨rfl, q', rfl⟩)
        go_roundw
        case rel => exact ⟨(a + b) / 2 + 1, b, Lib.hid (sought_no HG.out hs.out (by omega) (by omega) hh (of_decide_eq_false HQ.out)), by omega, hb, by go_num, rfl, _, rfl⟩
        case measure => simp [intOf]; omega
      · rw [hq] at C
        have HC := Lib.hid C
        have HQ := Lib.hid hq
        clear hq C
        go_wp2_with (go_at_call 45; refine (HC.out).mono ?_; rintro e w' ⟨rfl, q', rfl⟩)
        go_roundw
        case rel => exact ⟨a, (a + b) / 2, Lib.hid (sought_yes HG.out hs.out (by omega) (by omega) hh (of_decide_eq_true HQ.out)), by omega, by omega, rfl, by go_num, _, rfl⟩
        case measure => simp [intOf]; omega
    · go_wp2
      go_ret
      obtain rfl : a = b := by omega
      refine ⟨⟨_, _, sought_end hs.out, ?_⟩, q, rfl⟩
      have := hs.out.2.1
      exact ret_int (by simp; omega)

theorem own_slice {w : World} {B : Nat} {e : TypeId} {size n : Nat} {v : Value} {xs : List Value} (h : w.ownsRow B e size v n xs) : ∃ a cap, v = .slice a n cap := by
  rcases h.2 with ⟨rfl, rfl⟩ | ⟨g, cap, cur, rfl, _⟩
  · exact ⟨_, _, rfl⟩
  · exact ⟨_, _, rfl⟩
theorem SetAt.below {w w' : World} {B p : Nat} {v : Value} {M : Int} {rs : List (Nat × Nat)} (h : SetAt w B p v M rs) (hb : Below w.heap.size w w') : SetAt w' B p v M rs :=
  ⟨h.hp, h.hM, h.blk.below hb h.blk.lt, h.own.kept (row := none) ⟨hb.os, hb.tape, hb.output, hb.size, fun k hk _ => hb.block k hk⟩ (by cases hv : v.ownBlock <;> simp)⟩
theorem below_drewN {B : Nat} {a w : World} (h : Below B a w) (n : Nat) : Below B a (w.drewN n) := ⟨h.os, h.tape, h.output, h.size, h.block⟩

set_option maxHeartbeats 400000 in
theorem find_any {w : World} {B p d : Nat} {v : Value} {M : Int} {rs : List (Nat × Nat)} {lo : Nat} (h : SetAt w B p v M rs) (hg : Gp lo rs) (hd : d < 4294967296) :
    Calls Try.prog 33 #[ptr p, .int .u32 (adr M d)] w fun e w' => Found rs d e ∧ Below w.heap.size w w' := by
  have h1 := h.rows
  have hpl := h.blk.lt
  have HB := Lib.hid (((Below.refl w.heap.size w).alloc (Nat.le_refl _) (.cells #[ptr p] 40)).alloc (by simp) (.cells #[.int .u32 (adr M d)] 25))
  have hc1 : ((w.alloc (.cells #[ptr p] 40)).alloc (.cells #[.int .u32 (adr M d)] 25)).cell? ⟨w.heap.size, 0, none⟩ = some (ptr p) := by go_simp
  have hc2 : ((w.alloc (.cells #[ptr p] 40)).alloc (.cells #[.int .u32 (adr M d)] 25)).cell? ⟨w.heap.size + 1, 0, none⟩ = some (.int .u32 (adr M d)) := by go_simp
  have C := search_any (h.below HB.out) hg hd hc1 hc2
  obtain ⟨a, cap, rfl⟩ := own_slice h.own
  have HC := Lib.hid C
  clear hc1 hc2 C h hg
  go_enter Try.func33, Try.ntmps33
  go_wp2_with (go_at_call 44; refine HC.out.mono ?_; rintro e w' ⟨⟨A, B, hs, rfl⟩, q, rfl⟩)
  go_ret
  exact ⟨⟨A, B, hs, rfl⟩, below_drewN HB.out q⟩

theorem in_at (M : Int) (d a b : Nat) (hab : a ≤ b) (hd : d ≤ b) (hb : b < 2147483648) (w : World) :
    Calls Try.prog 46 #[.int .u32 (adr M d), .int .u32 (adr M a), .int .u32 (adr M b)] w fun e w' => e = .returned (.bool (decide (a ≤ d))) ∧ w' = w :=
  (in_any _ _ _ w).mono fun e w' ⟨he, hw⟩ => ⟨by rw [he]; apply ret_bool; unfold inB dist adr; rw [Bool.eq_iff_iff]; simp; omega, hw.symm⟩

set_option maxHeartbeats 400000 in
theorem covers_any {w : World} {B p d d' : Nat} {v : Value} {M : Int} {rs X Y : List (Nat × Nat)} {lo : Nat} (h : SetAt w B p v M rs) (hg : Gp lo rs) (hs : Split rs X Y d') (hd : d ≤ d') :
    Calls Try.prog 34 #[ptr p, .int .i64 (X.length : Int), .int .u32 (adr M d)] w fun e w' => e = .returned (.bool (covB Y d)) ∧ Below w.heap.size w w' := by
  have h1 := h.rows
  have hl := gp_len hg
  have el : rs.length = X.length + Y.length := by rw [hs.1, List.length_append]
  cases Y with
  | nil =>
    obtain ⟨a, cap, rfl⟩ := own_slice h.own
    have hc : decide (X.length < rs.length) = false := by simp [el]
    clear h hg hs el
    go_enter Try.func34, Try.ntmps34
    go_wp2
    go_quiet (fail)
    go_wp2
    go_ret
    exact ⟨rfl, below_drewN (Below.refl _ _) _⟩
  | cons y Y =>
    simp only [List.length_cons] at el
    have hk : X.length < rs.length := by omega
    have hgy : rs[X.length] = y := by have := hs.1; subst this; simp
    obtain ⟨g, cap, rfl, hb, hgl, c0, c1⟩ := h.at_ hk
    have hr := hg.2 _ (List.getElem_mem hk)
    rw [hgy] at c0 c1 hr
    have hy := hs.2.2 y (by simp)
    have hc : decide (X.length < rs.length) = true := by simp [el]
    have HC := Lib.hid (in_at M d y.1 y.2 (by omega) (by omega) (by omega))
    clear h hg hs hgy
    have HE := Lib.hid el
    clear el hb hgl
    go_enter Try.func34, Try.ntmps34
    go_wp2
    go_quiet ((go_at_call 46; exact Calls.quiet_of_same (HC.out _)))
    go_wp2
    go_ret
    exact ⟨rfl, below_drewN (Below.refl _ _) _⟩

set_option maxHeartbeats 400000 in
theorem ahead_any {w : World} {B p d : Nat} {v : Value} {M : Int} {rs : List (Nat × Nat)} {lo : Nat} (h : SetAt w B p v M rs) (hg : Gp lo rs) (hd : d < 4294967296) :
    Calls Try.prog 41 #[ptr p, .int .u32 (adr M d)] w fun e w' => e = .returned (.bool (knB rs d)) ∧ Below w.heap.size w w' := by
  have HS := Lib.hid h
  have HG := Lib.hid hg
  clear h hg
  go_enter Try.func41, Try.ntmps41
  go_wp2_with (first
    | (go_at_call 33; refine (find_any HS.out HG.out hd).mono ?_; rintro e w1 ⟨⟨X, Y, hs, rfl⟩, hb1⟩; have HX := Lib.hid hs; clear hs)
    | (go_at_call 34; refine (covers_any (HS.out.below hb1) HG.out HX.out (Nat.le_refl _)).mono ?_; rintro e w2 ⟨rfl, hb2⟩))
  go_ret
  exact ⟨ret_bool (cov_knB HG.out HX.out).symm, hb1.trans (hb2.mono hb1.size)⟩

/-- What Has answers of a number 'd' ahead of the mark. -/
def hasB (rs : List (Nat × Nat)) (d : Nat) : Bool := decide (d = 0 ∨ 2147483648 < d) || knB rs d

theorem less_to (M : Int) (d : Nat) (hM : 0 ≤ M ∧ M ≤ 4294967295) (hd : d < 4294967296) (w : World) :
    Calls Try.prog 32 #[.int .u32 (adr M d), .int .u32 M] w fun e w' => e = .returned (.bool (decide (2147483648 < d))) ∧ w = w' :=
  (less_any _ _ w).mono fun e w' ⟨he, hw⟩ => ⟨by rw [he]; apply ret_bool; unfold lessB dist adr; rw [Bool.eq_iff_iff]; simp; omega, hw⟩
theorem less_from (M : Int) (d : Nat) (hM : 0 ≤ M ∧ M ≤ 4294967295) (hd : d < 4294967296) (w : World) :
    Calls Try.prog 32 #[.int .u32 M, .int .u32 (adr M d)] w fun e w' => e = .returned (.bool (decide (1 ≤ d ∧ d < 2147483648))) ∧ w = w' :=
  (less_any _ _ w).mono fun e w' ⟨he, hw⟩ => ⟨by rw [he]; apply ret_bool; unfold lessB dist adr; rw [Bool.eq_iff_iff]; simp; omega, hw⟩

set_option maxHeartbeats 400000 in
theorem has_any {w : World} {B p d : Nat} {v : Value} {M : Int} {rs : List (Nat × Nat)} {lo : Nat} (h : SetAt w B p v M rs) (hg : Gp lo rs) (hd : d < 4294967296) :
    Calls Try.prog 24 #[ptr p, .int .u32 (adr M d)] w fun e w' => e = .returned (.bool (hasB rs d)) ∧ Below w.heap.size w w' := by
  have hM := h.hM
  have h0 := h.mark
  have HS := Lib.hid h
  have HG := Lib.hid hg
  clear h hg
  by_cases d0 : d = 0
  · have ea : (adr M d == M) = true := by subst d0; rw [adr_zero M hM]; simp
    have HE := Lib.hid d0
    clear d0
    go_enter Try.func24, Try.ntmps24
    go_wp2
    go_ret
    exact ⟨ret_bool (by unfold hasB; rw [HE.out]; rfl), Below.refl _ _⟩
  · have ea : (adr M d == M) = false := by
      rw [beq_eq_false_iff_ne]; unfold adr; omega
    cases hl : decide (2147483648 < d)
    · have C := less_to M d hM hd w
      rw [hl] at C
      have HC := Lib.hid C
      have HL := Lib.hid hl
      have HD := Lib.hid d0
      clear C hl d0
      go_enter Try.func24, Try.ntmps24
      go_wp2_with (first
        | (go_at_call 32; refine HC.out.mono ?_; rintro e w1 ⟨rfl, rfl⟩)
        | (go_at_call 41; refine (ahead_any HS.out HG.out hd).mono ?_; rintro e w2 ⟨rfl, hb2⟩))
      go_ret
      have hl := HL.out
      have hd := HD.out
      exact ⟨ret_bool (by unfold hasB; rw [show decide (d = 0 ∨ 2147483648 < d) = false by simpa [hd] using hl]; rfl), hb2⟩
    · have C := less_to M d hM hd w
      rw [hl] at C
      have HC := Lib.hid C
      have HL := Lib.hid hl
      clear C hl d0
      go_enter Try.func24, Try.ntmps24
      go_wp2_with (first
        | (go_at_call 32; refine HC.out.mono ?_; rintro e w1 ⟨rfl, rfl⟩))
      go_ret
      have hl := HL.out
      exact ⟨ret_bool (by unfold hasB; rw [show decide (d = 0 ∨ 2147483648 < d) = true by simp at hl ⊢; omega]; rfl), Below.refl _ _⟩
end Go.Proofs.Ytgbkmnmkejcogaa.Span
