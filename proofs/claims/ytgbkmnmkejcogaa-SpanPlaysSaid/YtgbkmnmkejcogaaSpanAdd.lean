import Derived.Test.YtgbkmnmkejcogaaSpanPut
set_option linter.unusedVariables false
set_option linter.unusedSimpArgs false
namespace Go.Proofs.Ytgbkmnmkejcogaa.Span
open Go.ChangeShapes Go.WideShapes Go.ChangeAt Go.RowKit Go.Proofs.Ytgbkmnmkejcogaa.Ser

/-- Is a distance one of a number after the mark? -/
def okB (d : Nat) : Bool := decide (1 ≤ d ∧ d < 2147483648)
/-- What Add answers. -/
def newsOf (rs : List (Nat × Nat)) (d : Nat) : Int := if okB d = true ∧ knB rs d = false then (if 4096 < d then 2 else 0) else 1
/-- What is known behind Add, ahead of the mark's going on. -/
def addK (rs : List (Nat × Nat)) (d x : Nat) : Bool := knB rs x || (decide (x = d) && decide (newsOf rs d = 0))
/-- What Add leaves. -/
def Added (w : World) (B p : Nat) (v : Value) (M : Int) (rs : List (Nat × Nat)) (d : Nat) (e : Ending) (w' : World) : Prop :=
  ∃ v' k rs', e = .returned (.int .i64 (newsOf rs d)) ∧ SetAt w' B p v' (adr M k) rs' ∧ Gp 2 rs' ∧ Adv (addK rs d) k (knB rs') ∧ k ≤ 4096 ∧ Turned w w' p v v'

theorem added_not {w w' : World} {B p d : Nat} {v : Value} {M : Int} {rs : List (Nat × Nat)} {n : Int} (h : SetAt w B p v M rs) (hg : Gp 2 rs) (hb : Below w.heap.size w w') (hn : newsOf rs d = n) (hn0 : n ≠ 0) :
    Added w B p v M rs d (.returned (.int .i64 n)) w' := by
  refine ⟨v, 0, rs, by rw [hn], by rw [adr_zero M h.hM]; exact h.below hb, hg, ?_, by omega, Turned.of_below hb p v⟩
  have e : ∀ x, addK rs d x = knB rs x := fun x => by unfold addK; rw [hn]; simp [hn0]
  exact ⟨fun j h1 h2 => by omega, by rw [e]; exact kn_far hg (by omega), fun x _ => (e x).symm⟩

set_option maxHeartbeats 1000000 in
theorem add_any {w : World} {B p d : Nat} {v : Value} {M : Int} {rs : List (Nat × Nat)} (h : SetAt w B p v M rs) (hg : Gp 2 rs) (hd : d < 4294967296) (hB : B ≤ w.heap.size) :
    Calls Try.prog 19 #[ptr p, .int .u32 (adr M d)] w (Added w B p v M rs d) := by
  have hM := h.hM
  have h0 := h.mark
  have HS := Lib.hid h
  have HG := Lib.hid hg
  have hf := less_from M d hM hd w
  cases hok : decide (1 ≤ d ∧ d < 2147483648)
  · have HR : Hid (Added w B p v M rs d (.returned (.int .i64 1)) w) := added_not h hg (Below.refl _ _) (by unfold newsOf okB; rw [hok]; simp) (by omega)
    rw [hok] at hf
    have HL := Lib.hid hf
    clear h hg hf hok hB
    go_enter Try.func19, Try.ntmps19
    go_wp2_with (go_at_call 32; refine HL.out.mono ?_; rintro e w1 ⟨rfl, rfl⟩)
    go_ret
    exact HR.out
  · rw [hok] at hf
    have HL := Lib.hid hf
    have hokd := of_decide_eq_true hok
    cases hk : knB rs d
    · by_cases hfar : 4096 < d
      · have HR : Hid (∀ w', Below w.heap.size w w' → Added w B p v M rs d (.returned (.int .i64 2)) w') := fun w' hb => added_not h hg hb (by unfold newsOf okB; rw [hok, hk]; simp [hfar]) (by omega)
        have C := ahead_any h hg hd
        rw [hk] at C
        have HA := Lib.hid C
        have ht : decide ((4096 : Int) < (d : Int)) = true := decide_eq_true (by omega)
        have ht2 : decide (4096 < d) = true := by simpa using hfar
        have HD : Hid (∀ w', Calls Try.prog 42 #[.int .u32 M, .int .u32 (adr M d)] w' fun e w'' => e = .returned (.int .u32 (d : Int)) ∧ w'' = w') := dist_at M d hM hd
        clear h hg hf hok hB hk C hfar
        go_enter Try.func19, Try.ntmps19
        go_wp2_with fail
        refine HL.out.mono ?_
        rintro e w1 ⟨rfl, rfl⟩
        go_wp2_with fail
        refine HA.out.mono ?_
        rintro e w1 ⟨rfl, hb1⟩
        have m1 := (HS.out.below hb1).mark
        have HB1 := Lib.hid hb1
        clear hb1
        go_wp2_with fail
        refine (HD.out w1).mono ?_
        rintro e w2 ⟨rfl, rfl⟩
        go_wp2
        go_ret
        exact HR.out _ HB1.out
      · have C := ahead_any h hg hd
        rw [hk] at C
        have HA := Lib.hid C
        have hn0 : newsOf rs d = 0 := by unfold newsOf okB; rw [hok, hk]; simp [hfar]
        have HN := Lib.hid hn0
        have HK := Lib.hid hk
        have hfl : d ≤ 4096 := by omega
        have ht : decide ((4096 : Int) < (d : Int)) = false := decide_eq_false (by omega)
        have ht2 : decide (4096 < d) = false := by simpa using hfl
        have HD : Hid (∀ w', Calls Try.prog 42 #[.int .u32 M, .int .u32 (adr M d)] w' fun e w'' => e = .returned (.int .u32 (d : Int)) ∧ w'' = w') := dist_at M d hM hd
        clear h hg hf hok hk C hfar hn0
        go_enter Try.func19, Try.ntmps19
        go_wp2_with fail
        refine HL.out.mono ?_
        rintro e w1 ⟨rfl, rfl⟩
        go_wp2_with fail
        refine HA.out.mono ?_
        rintro e w1 ⟨rfl, hb1⟩
        have hs1 := HS.out.below hb1
        have m1 := hs1.mark
        have HS1 := Lib.hid hs1
        have hB1 : B ≤ w1.heap.size := Nat.le_trans hB hb1.size
        have HB1 := Lib.hid hb1
        clear hb1 hs1
        go_wp2_with fail
        refine (HD.out w1).mono ?_
        rintro e w2 ⟨rfl, rfl⟩
        go_wp2_with fail
        refine (put_any HS1.out HG.out ⟨hokd.1, hfl⟩ HK.out hB1).mono ?_
        rintro e w3 ⟨v', rs', rfl, hs3, hg3, hk3, ht3⟩
        have HS3 := Lib.hid hs3
        have HG3 := Lib.hid hg3
        have HK3 := Lib.hid hk3
        have HT3 := Lib.hid ht3
        clear hs3 hg3 hk3 ht3
        go_wp2_with fail
        refine (advance_any HS3.out HG3.out).mono ?_
        rintro e w4 ⟨k, v4, rs4, rfl, hs4, hg4, ha4, hk4, ht4⟩
        go_wp2
        go_ret
        have HR : Added w B p v M rs d (.returned (.int .i64 0)) w4 := ⟨v4, k, rs4, by rw [HN.out], hs4, hg4, adv_congr ha4 (fun x _ => by rw [HK3.out]; unfold addK; rw [HN.out]; simp), hk4, ((Turned.of_below HB1.out p v).trans HT3.out).trans ht4⟩
        exact HR
    · have HR : Hid (∀ w', Below w.heap.size w w' → Added w B p v M rs d (.returned (.int .i64 1)) w') := fun w' hb => added_not h hg hb (by unfold newsOf; rw [hk]; simp) (by omega)
      have C := ahead_any h hg hd
      rw [hk] at C
      have HA := Lib.hid C
      clear h hg hf hok hB hk C
      go_enter Try.func19, Try.ntmps19
      go_wp2_with fail
      refine HL.out.mono ?_
      rintro e w1 ⟨rfl, rfl⟩
      go_wp2_with fail
      refine HA.out.mono ?_
      rintro e w1 ⟨rfl, hb1⟩
      go_wp2
      go_ret
      exact HR.out _ hb1
end Go.Proofs.Ytgbkmnmkejcogaa.Span
