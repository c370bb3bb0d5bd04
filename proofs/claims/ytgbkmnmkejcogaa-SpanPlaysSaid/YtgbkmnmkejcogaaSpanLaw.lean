/-
  What the laws of layer 2 need of package span: contracts by number, two sets side by side, flumelaw02.first, flumeref02.Same.
-/
import Derived.Test.YtgbkmnmkejcogaaSpanSkip
import Derived.Test.YtgbkmnmkejcogaaSpanLen
set_option linter.unusedVariables false
set_option linter.unusedSimpArgs false
namespace Go.Proofs.Ytgbkmnmkejcogaa.Span
open Go.ChangeShapes Go.WideShapes Go.ChangeAt Go.RowKit Go.Proofs.Ytgbkmnmkejcogaa.Ser

/-- How far a number is ahead of the mark. -/
def dN (M t : Int) : Nat := (dist M t).toNat
theorem dN_lt (M t : Int) : dN M t < 4294967296 := by unfold dN; have := dist_bd M t; omega
theorem adr_dN (M t : Int) (hM : 0 ≤ M ∧ M ≤ 4294967295) (ht : 0 ≤ t ∧ t ≤ 4294967295) : adr M (dN M t) = t := by unfold dN adr dist; omega
theorem dN_adr (M : Int) (d : Nat) (hM : 0 ≤ M ∧ M ≤ 4294967295) (hd : d < 4294967296) : dN M (adr M d) = d := by unfold dN; rw [dist_adr M d hM hd]; rfl

theorem add_t {w : World} {B p : Nat} {v : Value} {M t : Int} {rs : List (Nat × Nat)} (h : SetAt w B p v M rs) (hg : Gp 2 rs) (ht : 0 ≤ t ∧ t ≤ 4294967295) (hB : B ≤ w.heap.size) :
    Calls Try.prog 19 #[ptr p, .int .u32 t] w (Added w B p v M rs (dN M t)) := by
  have := add_any h hg (dN_lt M t) hB
  rwa [adr_dN M t h.hM ht] at this
theorem skip_t {w : World} {B p : Nat} {v : Value} {M t : Int} {rs : List (Nat × Nat)} (h : SetAt w B p v M rs) (hg : Gp 2 rs) (ht : 0 ≤ t ∧ t ≤ 4294967295) :
    Calls Try.prog 17 #[ptr p, .int .u32 t] w (Skipped w B p v M rs (dN M t)) := by
  have := skip_any h hg (dN_lt M t)
  rwa [adr_dN M t h.hM ht] at this
theorem has_t {w : World} {B p : Nat} {v : Value} {M t : Int} {rs : List (Nat × Nat)} (h : SetAt w B p v M rs) (hg : Gp 2 rs) (ht : 0 ≤ t ∧ t ≤ 4294967295) :
    Calls Try.prog 24 #[ptr p, .int .u32 t] w fun e w' => e = .returned (.bool (hasB rs (dN M t))) ∧ Below w.heap.size w w' := by
  have := has_any h hg (dN_lt M t)
  rwa [adr_dN M t h.hM ht] at this

/-- What a change of the set leaves as it was: all that lies below the sets' base. -/
theorem SetAt.below_of {w w' : World} {B p : Nat} {v v' : Value} {M : Int} {rs : List (Nat × Nat)} (h : SetAt w B p v M rs) (T : Turned w w' p v v') : Below B w w' := by
  have hlt := h.blk.lt
  have hp := h.hp
  refine ⟨T.os, T.tape, T.output, T.size, fun k hk => T.block k (by omega) (by omega) (fun e => ?_)⟩
  have := (h.own.lt k e.symm).1
  omega

theorem gp_one (d : Nat) (h : 2 ≤ d ∧ d ≤ 4096) : Gp 2 [(d, d)] := gp_cons.2 ⟨by simp; omega, by simp, gp_nil 2⟩

/-- Add where it is known what becomes of the set. -/
theorem add_known {w : World} {B p k0 d : Nat} {v : Value} {M M' t n : Int} {rs rs0 : List (Nat × Nat)} (h : SetAt w B p v M rs) (hg : Gp 2 rs) (hd : d < 4294967296) (ht : t = adr M d) (hB : B ≤ w.heap.size)
    (hn : newsOf rs d = n) (hA : Adv (addK rs d) k0 (knB rs0)) (hg0 : Gp 2 rs0) (hM' : M' = adr M k0) :
    Calls Try.prog 19 #[ptr p, .int .u32 t] w fun e w' => e = .returned (.int .i64 n) ∧ Hid (∃ v', SetAt w' B p v' M' rs0 ∧ Below B w w' ∧ B ≤ w'.heap.size) := by
  subst ht
  refine (add_any h hg hd hB).mono ?_
  rintro e w' ⟨v', k, rs', rfl, hs, hg', ha, hk, T⟩
  obtain ⟨rfl, hK⟩ := adv_unique ha hA
  have : rs' = rs0 := canon hg' hg0 (fun x => by
    rcases Nat.eq_zero_or_pos x with rfl | hx
    · rw [kn_far hg' (by omega), kn_far hg0 (by omega)]
    · exact hK x hx)
  subst this
  rw [hn, hM']
  exact ⟨rfl, v', hs, h.below_of T, Nat.le_trans hB T.size⟩
theorem skip_known {w : World} {B p k0 d : Nat} {v : Value} {M M' t : Int} {b : Bool} {rs rs0 : List (Nat × Nat)} (h : SetAt w B p v M rs) (hg : Gp 2 rs) (hd : d < 4294967296) (ht : t = adr M d) (hB : B ≤ w.heap.size)
    (hb : okB d = b) (hA : Adv (fun x => knB rs (x + skipS d)) k0 (knB rs0)) (hg0 : Gp 2 rs0) (hM' : M' = adr M (skipS d + k0)) :
    Calls Try.prog 17 #[ptr p, .int .u32 t] w fun e w' => e = .returned (.bool b) ∧ Hid (∃ v', SetAt w' B p v' M' rs0 ∧ Below B w w' ∧ B ≤ w'.heap.size) := by
  subst ht
  refine (skip_any h hg hd).mono ?_
  rintro e w' ⟨v', k, rs', rfl, hs, hg', ha, hk, T⟩
  obtain ⟨rfl, hK⟩ := adv_unique ha hA
  have : rs' = rs0 := canon hg' hg0 (fun x => by
    rcases Nat.eq_zero_or_pos x with rfl | hx
    · rw [kn_far hg' (by omega), kn_far hg0 (by omega)]
    · exact hK x hx)
  subst this
  rw [hb, hM']
  exact ⟨rfl, v', hs, h.below_of T, Nat.le_trans hB T.size⟩

theorem one_kn (a b x : Nat) : knB [(a, b)] x = (decide (a ≤ x) && decide (x ≤ b)) := by simp [knB]

theorem adv_f1 : Adv (addK [] 2) 0 (knB [(2, 2)]) := by
  have e : ∀ x, addK [] 2 x = decide (x = 2) := fun x => by unfold addK; rw [show decide (newsOf [] 2 = 0) = true by decide]; simp [knB_nil]
  refine ⟨fun j h1 h2 => by omega, by rw [e]; rfl, fun x hx => ?_⟩
  rw [e, one_kn, Bool.eq_iff_iff]; simp; omega
theorem adv_f2 : Adv (addK [(2, 2)] 2) 0 (knB [(2, 2)]) := by
  have e : ∀ x, addK [(2, 2)] 2 x = decide (x = 2) := fun x => by unfold addK; rw [show decide (newsOf [(2, 2)] 2 = 0) = false by decide, one_kn, Bool.eq_iff_iff]; simp; omega
  refine ⟨fun j h1 h2 => by omega, by rw [e]; rfl, fun x hx => ?_⟩
  rw [e, one_kn, Bool.eq_iff_iff]; simp; omega
theorem adv_f3 : Adv (addK [(2, 2)] 1) 2 (knB []) := by
  have e : ∀ x, addK [(2, 2)] 1 x = decide (x = 1 ∨ x = 2) := fun x => by unfold addK; rw [show decide (newsOf [(2, 2)] 1 = 0) = true by decide, one_kn, Bool.eq_iff_iff]; simp; omega
  refine ⟨fun j h1 h2 => by rw [e]; simp; omega, by rw [e]; rfl, fun x hx => ?_⟩
  rw [e, knB_nil, Bool.eq_iff_iff]; simp; omega
theorem adv_nil (s : Nat) : Adv (fun x => knB [] (x + s)) 0 (knB []) := ⟨fun j h1 h2 => by omega, rfl, fun x hx => rfl⟩

set_option maxHeartbeats 2000000 in
theorem first_span (w : World) : Calls Try.prog 15 #[] w fun e w' => e = .returned (.bool true) ∧ Below w.heap.size w w' := by
  go_enter Try.func15, Try.ntmps15
  go_wp2_with fail
  refine (new_any 7 (by omega) w.heap.size w (Nat.le_refl _)).mono ?_
  rintro e w1 ⟨rfl, hs, hb⟩
  obtain ⟨p, hp⟩ : ∃ p, p = w.heap.size := ⟨_, rfl⟩
  have HP := Lib.hid hp
  have C1 := Lib.hid (add_known (d := 2) (t := 9) (n := 0) (k0 := 0) (rs0 := [(2, 2)]) (M' := 7) hs (gp_nil 2) (by omega) rfl hb.size (by decide) adv_f1 (gp_one 2 (by omega)) rfl)
  have HB1 := Lib.hid hb
  clear hs hb hp
  go_wp2_with fail
  refine C1.out.mono ?_
  rintro e w2 ⟨rfl, v2, hs, hb, hB⟩
  have C2 := Lib.hid (add_known (d := 2) (t := 9) (n := 1) (k0 := 0) (rs0 := [(2, 2)]) (M' := 7) hs (gp_one 2 (by omega)) (by omega) rfl hB (by decide) adv_f2 (gp_one 2 (by omega)) rfl)
  have HB2 := Lib.hid (HB1.out.trans hb)
  clear hs hb hB C1
  go_wp2_with fail
  refine C2.out.mono ?_
  rintro e w3 ⟨rfl, v3, hs, hb, hB⟩
  have C3 := Lib.hid (len_any hs (gp_one 2 (by omega)))
  have HS3 := Lib.hid hs
  have HB3 := Lib.hid (HB2.out.trans hb)
  clear hs hb hB C2
  go_wp2_with fail
  refine C3.out.mono ?_
  rintro e w4 ⟨rfl, hb⟩
  have hcn : ((cnt [(2, 2)] : Nat) : Int) = 1 := rfl
  rw [hcn]
  have hs := HS3.out.below hb
  have C4 := Lib.hid (add_known (d := 1) (t := 8) (n := 0) (k0 := 2) (rs0 := []) (M' := 9) hs (gp_one 2 (by omega)) (by omega) rfl (Nat.le_trans HB3.out.size hb.size) (by decide) adv_f3 (gp_nil 2) rfl)
  have HB4 := Lib.hid (HB3.out.trans (hb.mono HB3.out.size))
  clear hs hb C3 hcn
  go_wp2_with fail
  refine C4.out.mono ?_
  rintro e w5 ⟨rfl, v5, hs, hb, hB⟩
  have HS5 := Lib.hid hs
  have HB5 := Lib.hid (HB4.out.trans hb)
  have hB5 := hB
  clear hs hb hB C4
  go_wp2_with fail
  refine (mark_any HS5.out).mono ?_
  rintro e w6 ⟨rfl, rfl⟩
  go_wp2_with fail
  refine (has_any (d := 4294967290) HS5.out (gp_nil 2) (by omega)).mono ?_
  rintro e w6 ⟨rfl, hb⟩
  have hh : hasB [] 4294967290 = true := by decide
  rw [hh]
  have HS6 := Lib.hid (HS5.out.below hb)
  have HB6 := Lib.hid (HB5.out.trans (hb.mono hB5))
  have hB6 := Nat.le_trans hB5 hb.size
  clear hb hh
  go_wp2_with fail
  refine (has_any (d := 1) HS6.out (gp_nil 2) (by omega)).mono ?_
  rintro e w7 ⟨rfl, hb⟩
  have hh : hasB [] 1 = false := by decide
  rw [hh]
  have HS7 := Lib.hid (HS6.out.below hb)
  have HB7 := Lib.hid (HB6.out.trans (hb.mono hB6))
  have hB7 := Nat.le_trans hB6 hb.size
  clear hb hh
  have C7 := Lib.hid (skip_known (d := 2) (t := 11) (k0 := 0) (b := true) (rs0 := []) (M' := 11) HS7.out (gp_nil 2) (by omega) rfl hB7 (by decide) (adv_nil _) (gp_nil 2) rfl)
  go_wp2_with fail
  refine C7.out.mono ?_
  rintro e w8 ⟨rfl, v8, hs, hb, hB⟩
  have HB8 := Lib.hid (HB7.out.trans hb)
  have C8 := Lib.hid (skip_known (d := 0) (t := 11) (k0 := 0) (b := false) (rs0 := []) (M' := 11) hs (gp_nil 2) (by omega) rfl hB (by decide) (adv_nil _) (gp_nil 2) rfl)
  clear hs hb hB C7
  go_wp2_with fail
  refine C8.out.mono ?_
  rintro e w9 ⟨rfl, v9, hs, hb, hB⟩
  have HS9 := Lib.hid hs
  have HB9 := Lib.hid (HB8.out.trans hb)
  clear hs hb hB C8
  go_wp2_with fail
  refine (mark_any HS9.out).mono ?_
  rintro e w10 ⟨rfl, rfl⟩
  go_wp2
  go_ret
  exact ⟨rfl, HB9.out⟩
end Go.Proofs.Ytgbkmnmkejcogaa.Span
