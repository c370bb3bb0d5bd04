/-
  The document's set (flumeref02): Add, Skip, Has.
-/
import Derived.Test.YtgbkmnmkejcogaaSpanRef2
set_option linter.unusedVariables false
set_option linter.unusedSimpArgs false
namespace Go.Proofs.Ytgbkmnmkejcogaa.Span
open Go.ChangeShapes Go.WideShapes Go.ChangeAt Go.RowKit Go.Proofs.Ytgbkmnmkejcogaa.Ser

theorem rless_from (M : Int) (d : Nat) (hM : 0 ≤ M ∧ M ≤ 4294967295) (hd : d < 4294967296) (w : World) :
    Calls Try.prog 37 #[.int .u32 M, .int .u32 (adr M d)] w fun e w' => e = .returned (.bool (okB d)) ∧ w = w' :=
  (rless_any _ _ hM (adr_bd M d) w).mono fun e w' ⟨he, hw⟩ => ⟨by rw [he]; apply ret_bool; unfold lessB dist adr okB; rw [Bool.eq_iff_iff]; simp; omega, hw⟩
theorem rless_to (M : Int) (d : Nat) (hM : 0 ≤ M ∧ M ≤ 4294967295) (hd : d < 4294967296) (w : World) :
    Calls Try.prog 37 #[.int .u32 (adr M d), .int .u32 M] w fun e w' => e = .returned (.bool (decide (2147483648 < d))) ∧ w = w' :=
  (rless_any _ _ (adr_bd M d) hM w).mono fun e w' ⟨he, hw⟩ => ⟨by rw [he]; apply ret_bool; unfold lessB dist adr; rw [Bool.eq_iff_iff]; simp; omega, hw⟩
theorem rdist_from (M : Int) (d : Nat) (hM : 0 ≤ M ∧ M ≤ 4294967295) (hd : d < 4294967296) (w : World) :
    Calls Try.prog 39 #[.int .u32 M, .int .u32 (adr M d)] w fun e w' => e = .returned (.int .u64 (d : Int)) ∧ w = w' :=
  (rdist_any _ _ hM (adr_bd M d) w).mono fun e w' ⟨he, hw⟩ => ⟨by rw [he, dist_adr M d hM hd], hw⟩

theorem within_kn {rs : List (Nat × Nat)} (hg : Gp 2 rs) : Within (knB rs) := fun d h => by have := kn_bd hg h; omega
/-- What a call on the document's set leaves, the numbers ahead being K before the mark goes on. -/
def RLeft (w w' : World) (B q : Nat) (M : Int) (s : Nat) (K : Nat → Bool) : Prop := ∃ k K', RefAt w' B q (adr M (s + k)) K' ∧ Within K' ∧ Adv K k K' ∧ OnlyQ q w w'
theorem rleft_not {w : World} {B q : Nat} {M : Int} {rs : List (Nat × Nat)} {K : Nat → Bool} (h : RefAt w B q M (knB rs)) (hg : Gp 2 rs) (hK : ∀ x, 1 ≤ x → knB rs x = K x) : RLeft w w B q M 0 K :=
  ⟨0, knB rs, by rw [adr_zero M h.hM]; exact h, within_kn hg, adv_congr ⟨fun j h1 h2 => by omega, kn_far hg (by omega), fun x _ => rfl⟩ hK, OnlyQ.refl q w⟩
theorem add_same {rs : List (Nat × Nat)} {d : Nat} (h : newsOf rs d ≠ 0) (x : Nat) (_ : 1 ≤ x) : knB rs x = addK rs d x := by unfold addK; simp [h]
theorem RefAt.set {w : World} {B q d : Nat} {M : Int} {K : Nat → Bool} (h : RefAt w B q M K) (hd : d < 4097) : RefAt (w.setCell ⟨q, 1 + d, none⟩ (.bool true)) B q M (fun x => K x || decide (x = d)) ∧ OnlyQ q w (w.setCell ⟨q, 1 + d, none⟩ (.bool true)) := by
  obtain ⟨h1, h2, cs, h3, h4⟩ := h
  refine ⟨⟨h1, h2, _, h3.set_ (1 + d) _, by simpa using h4.size, ?_, fun x hx => ?_⟩, grownBy_set w q _ _⟩
  · rw [Array.getElem?_setIfInBounds, if_neg (by omega)]; exact h4.mark
  · rw [Array.getElem?_setIfInBounds]
    by_cases e : 1 + d = x + 1
    · have e2 : x = d := by omega
      rw [if_pos e, if_pos (by rw [h4.size]; omega)]
      simp [e2]
    · have e2 : ¬ x = d := by omega
      rw [if_neg e, h4.known x hx]
      simp [e2]

set_option maxHeartbeats 1000000 in
theorem radd_any {w : World} {B q d : Nat} {M : Int} {rs : List (Nat × Nat)} (h : RefAt w B q M (knB rs)) (hg : Gp 2 rs) (hd : d < 4294967296) :
    Calls Try.prog 20 #[ptr q, .int .u32 (adr M d)] w fun e w' => e = .returned (.int .i64 (newsOf rs d)) ∧ Hid (RLeft w w' B q M 0 (addK rs d)) := by
  have hM := h.hM
  have h0 := h.mark
  have HS := Lib.hid h
  have HG := Lib.hid hg
  have hf := rless_from M d hM hd w
  have HD := Lib.hid (rdist_from M d hM hd w)
  cases hok : okB d
  · have hn : newsOf rs d = 1 := by unfold newsOf; rw [hok]; simp
    have HR : Hid (RLeft w w B q M 0 (addK rs d)) := rleft_not h hg (add_same (d := d) (by rw [hn]; omega))
    rw [hok] at hf
    rw [hn]
    have HL := Lib.hid hf
    clear h hg hf hok hn
    go_enter Try.func20, Try.ntmps20
    go_wp2_with (go_at_call 37; refine HL.out.mono ?_; rintro e w1 ⟨rfl, rfl⟩)
    go_ret
    exact ⟨rfl, HR⟩
  · rw [hok] at hf
    have HL := Lib.hid hf
    have hd1 : 1 ≤ d := by unfold okB at hok; simp at hok; omega
    by_cases hfar : 4096 < d
    · have hk : knB rs d = false := kn_far hg (by omega)
      have hn : newsOf rs d = 2 := by unfold newsOf; rw [hok, hk]; simp [hfar]
      have HR : Hid (RLeft w w B q M 0 (addK rs d)) := rleft_not h hg (add_same (d := d) (by rw [hn]; omega))
      rw [hn]
      have ht : decide ((4096 : Int) < (d : Int)) = true := decide_eq_true (by omega)
      have ht2 : decide (4096 < d) = true := decide_eq_true hfar
      clear h hg hf hok hn hk
      go_enter Try.func20, Try.ntmps20
      go_wp2_with (first
        | (go_at_call 37; refine HL.out.mono ?_; rintro e w1 ⟨rfl, rfl⟩)
        | (go_at_call 39; refine HD.out.mono ?_; rintro e w1 ⟨rfl, rfl⟩))
      go_ret
      exact ⟨rfl, HR⟩
    · have ht : decide ((4096 : Int) < (d : Int)) = false := decide_eq_false (by omega)
      have ht2 : decide (4096 < d) = false := decide_eq_false hfar
      have c0 := h.cell d (by omega)
      have f0 : w.frozen? ⟨q, 1 + d, none⟩ = false := by obtain ⟨_, _, cs, h3, _⟩ := h; exact h3.frozen _
      have hdl : d ≤ 4096 := by omega
      cases hk : knB rs d
      · rw [hk] at c0
        have hn : newsOf rs d = 0 := by unfold newsOf; rw [hok, hk]; simp [hfar]
        have hst := h.set (d := d) (by omega)
        have hwi : Within (fun x => knB rs x || decide (x = d)) := fun x hx => by
          replace hx : (knB rs x || decide (x = d)) = true := hx
          cases e : knB rs x
          · rw [e] at hx; simp at hx; omega
          · have := kn_bd hg e; omega
        have HC := Lib.hid (settle_any hst.1 hwi)
        have HO := Lib.hid hst.2
        have HA : Hid (∀ x, (knB rs x || decide (x = d)) = addK rs d x) := fun x => by unfold addK; rw [hn]; simp
        rw [hn]
        clear h hg hf hok hn hk hfar hst hwi
        go_enter Try.func20, Try.ntmps20
        go_wp2_with (first
          | (go_at_call 37; refine HL.out.mono ?_; rintro e w1 ⟨rfl, rfl⟩)
          | (go_at_call 39; refine HD.out.mono ?_; rintro e w1 ⟨rfl, rfl⟩)
          | (go_at_call 40; refine HC.out.mono ?_; rintro e w1 ⟨rfl, hse⟩))
        go_ret
        obtain ⟨k, hr, ha, ho⟩ := hse.out
        have H : RLeft w w1 B q M 0 (addK rs d) := ⟨k, _, by rw [Nat.zero_add]; exact hr, within_moved _ k, adv_congr ha (fun x _ => HA.out x), HO.out.trans ho⟩
        exact ⟨rfl, H⟩
      · rw [hk] at c0
        have hn : newsOf rs d = 1 := by unfold newsOf; rw [hk]; simp
        have HR : Hid (RLeft w w B q M 0 (addK rs d)) := rleft_not h hg (add_same (d := d) (by rw [hn]; omega))
        rw [hn]
        clear h hg hf hok hn hk hfar
        go_enter Try.func20, Try.ntmps20
        go_wp2_with (first
          | (go_at_call 37; refine HL.out.mono ?_; rintro e w1 ⟨rfl, rfl⟩)
          | (go_at_call 39; refine HD.out.mono ?_; rintro e w1 ⟨rfl, rfl⟩))
        go_ret
        exact ⟨rfl, HR⟩

set_option maxHeartbeats 1000000 in
theorem rskip_any {w : World} {B q d : Nat} {M : Int} {rs : List (Nat × Nat)} (h : RefAt w B q M (knB rs)) (hg : Gp 2 rs) (hd : d < 4294967296) :
    Calls Try.prog 18 #[ptr q, .int .u32 (adr M d)] w fun e w' => e = .returned (.bool (okB d)) ∧ Hid (RLeft w w' B q M (skipS d) (fun x => knB rs (x + skipS d))) := by
  have hM := h.hM
  have h0 := h.mark
  have hf := rless_from M d hM hd w
  have HD := Lib.hid (rdist_from M d hM hd w)
  cases hok : okB d
  · have hs : skipS d = 0 := by unfold skipS; rw [hok]; rfl
    have HR : Hid (RLeft w w B q M (skipS d) (fun x => knB rs (x + skipS d))) := by rw [hs]; exact rleft_not h hg (fun x _ => rfl)
    rw [hok] at hf
    have HL := Lib.hid hf
    clear h hg hf hok hs
    go_enter Try.func18, Try.ntmps18
    go_wp2_with (go_at_call 37; refine HL.out.mono ?_; rintro e w1 ⟨rfl, rfl⟩)
    go_ret
    exact ⟨rfl, HR⟩
  · rw [hok] at hf
    have HL := Lib.hid hf
    have hd1 : 1 ≤ d := by unfold okB at hok; simp at hok; omega
    have hs : skipS d = d := by unfold skipS; rw [hok]; rfl
    have HS := Lib.hid hs
    have HC := Lib.hid (move_any (b := d) h ⟨hd1, hd⟩)
    have HW := Lib.hid (within_kn hg)
    clear h hg hf hok hs
    go_enter Try.func18, Try.ntmps18
    go_wp2_with (first
      | (go_at_call 37; refine HL.out.mono ?_; rintro e w1 ⟨rfl, rfl⟩)
      | (go_at_call 39; refine HD.out.mono ?_; rintro e w1 ⟨rfl, rfl⟩)
      | (go_at_call 38; refine HC.out.mono ?_; rintro e w1 ⟨rfl, hr1, ho1⟩; have HR1 := Lib.hid hr1; have HO1 := Lib.hid ho1; clear hr1 ho1)
      | (go_at_call 40; refine (settle_any HR1.out (within_moved _ _)).mono ?_; rintro e w2 ⟨rfl, hse⟩))
    go_ret
    obtain ⟨k, hr, ha, ho⟩ := hse.out
    have H : RLeft w w2 B q M (skipS d) (fun x => knB rs (x + skipS d)) := by
      rw [HS.out]
      exact ⟨k, _, by rw [← adr_adr]; exact hr, within_moved _ k, adv_congr ha (fun x hx => moved_get HW.out hx), HO1.out.trans ho⟩
    exact ⟨rfl, H⟩

set_option maxHeartbeats 1000000 in
theorem rhas_any {w : World} {B q d : Nat} {M : Int} {rs : List (Nat × Nat)} (h : RefAt w B q M (knB rs)) (hg : Gp 2 rs) (hd : d < 4294967296) :
    Calls Try.prog 25 #[ptr q, .int .u32 (adr M d)] w fun e w' => e = .returned (.bool (hasB rs d)) ∧ w = w' := by
  have hM := h.hM
  have h0 := h.mark
  have HT := rless_to M d hM hd w
  have HF := rless_from M d hM hd w
  have HD := Lib.hid (rdist_from M d hM hd w)
  by_cases d0 : d = 0
  · have ea : (adr M d == M) = true := by subst d0; rw [adr_zero M hM]; simp
    have hr : hasB rs d = true := by unfold hasB; rw [d0]; rfl
    rw [hr]
    clear d0 h hg hr HT HF
    go_enter Try.func25, Try.ntmps25
    go_wp2
    go_ret
    exact ⟨rfl, rfl⟩
  · have ea : (adr M d == M) = false := by rw [beq_eq_false_iff_ne]; unfold adr; omega
    cases hl : decide (2147483648 < d)
    · rw [hl] at HT
      have HT' := Lib.hid HT
      have hl' := of_decide_eq_false hl
      have hr : hasB rs d = knB rs d := by
        unfold hasB
        have : ¬ (d = 0 ∨ 2147483648 < d) := by omega
        simp [this]
      rw [hr]
      cases hok : okB d
      · have hk : knB rs d = false := by unfold okB at hok; simp at hok; exact kn_far hg (by omega)
        rw [hok] at HF
        rw [hk]
        have HF' := Lib.hid HF
        clear h hg hr hk hok HT HF hl hl' d0
        go_enter Try.func25, Try.ntmps25
        go_wp2_with (first
          | (go_at_call 37; (with_reducible refine HT'.out.mono ?_); rintro e w1 ⟨rfl, rfl⟩)
          | (go_at_call 37; (with_reducible refine HF'.out.mono ?_); rintro e w1 ⟨rfl, rfl⟩)
          | (go_at_call 39; refine HD.out.mono ?_; rintro e w1 ⟨rfl, rfl⟩))
        go_ret
        exact ⟨rfl, rfl⟩
      · rw [hok] at HF
        have HF' := Lib.hid HF
        by_cases hfar : d ≤ 4096
        · have c0 := h.cell d (by omega)
          clear h hg hr hok HT HF hl hl' d0
          go_enter Try.func25, Try.ntmps25
          go_wp2_with (first
            | (go_at_call 37; (with_reducible refine HT'.out.mono ?_); rintro e w1 ⟨rfl, rfl⟩)
            | (go_at_call 37; (with_reducible refine HF'.out.mono ?_); rintro e w1 ⟨rfl, rfl⟩)
            | (go_at_call 39; refine HD.out.mono ?_; rintro e w1 ⟨rfl, rfl⟩))
          go_ret
          exact ⟨rfl, rfl⟩
        · have hk : knB rs d = false := kn_far hg (by omega)
          rw [hk]
          have hfar2 : decide (d ≤ 4096) = false := decide_eq_false hfar
          have hfar3 : decide ((d : Int) ≤ 4096) = false := decide_eq_false (by omega)
          clear h hg hr hk hok HT HF hl hl' d0
          go_enter Try.func25, Try.ntmps25
          go_wp2_with (first
            | (go_at_call 37; (with_reducible refine HT'.out.mono ?_); rintro e w1 ⟨rfl, rfl⟩)
            | (go_at_call 37; (with_reducible refine HF'.out.mono ?_); rintro e w1 ⟨rfl, rfl⟩)
            | (go_at_call 39; refine HD.out.mono ?_; rintro e w1 ⟨rfl, rfl⟩))
          go_ret
          exact ⟨rfl, rfl⟩
    · rw [hl] at HT
      have HT' := Lib.hid HT
      have hr : hasB rs d = true := by unfold hasB; simp at hl; simp [hl]
      rw [hr]
      clear h hg hr HT HF hl d0
      go_enter Try.func25, Try.ntmps25
      go_wp2_with (go_at_call 37; (with_reducible refine HT'.out.mono ?_); rintro e w1 ⟨rfl, rfl⟩)
      go_ret
      exact ⟨rfl, rfl⟩
end Go.Proofs.Ytgbkmnmkejcogaa.Span
