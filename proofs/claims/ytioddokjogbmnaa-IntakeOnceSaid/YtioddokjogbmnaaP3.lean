/-
  Of the texts SpanAdd, SpanSkip, SpanLen, SpanLaw, SpanTwo, Words, OctPlain, ParPlain: what the laws reach.
-/
import Derived.Test.YtioddokjogbmnaaP2
import Derived.Test.YtioddokjogbmnaaP1
import Derived.Maps.AppendAt
import Derived.Deep.RegionHeld3
import Derived.Deep.AppendLies
import Derived.Test.YtioddokjogbmnaaRows
import Derived.WalkKit
import Derived.ProofKit
import Derived.Below
import Derived.Lib.Hide
import Derived.Laws.OwnMore
import Derived.Laws.Rows
import Derived.Laws.IdiomStrings
import Derived.Laws.BytesArg
import Derived.Laws.BitsAllLaws
import Derived.Lib.SlBytesConst
import Derived.Deep.Draws
import Derived.Deep.QuietTactic
import Derived.BigQuiet
import Derived.RegionTactic
import Derived.OwnWalk
import Derived.StillTailTactics
import Derived.WalkSpells
import Derived.Deep.CutRange
import Derived.Laws.MakeOwn
import Derived.Deep.OwnRows
import Derived.Deep.DeepCutAuto

set_option linter.unusedVariables false
set_option linter.unusedSimpArgs false
set_option maxRecDepth 100000
namespace Go.Proofs.Ytioddokjogbmnaa.Span
open Go.ChangeShapes Go.WideShapes Go.ChangeAt Go.RowKit Go.Proofs.Ytioddokjogbmnaa.Ser
/-- Is a distance one of a number after the mark? -/
def okB (d : Nat) : Bool := decide (1 ≤ d ∧ d < 2147483648)
/-- What Add answers. -/
def newsOf (rs : List (Nat × Nat)) (d : Nat) : Int := if okB d = true ∧ knB rs d = false then (if 4096 < d then 2 else 0) else 1
/-- What is known behind Add, ahead of the mark's going on. -/
def addK (rs : List (Nat × Nat)) (d x : Nat) : Bool := knB rs x || (decide (x = d) && decide (newsOf rs d = 0))
/-- What Add leaves. -/
def Added (w : World) (B p : Nat) (v : Value) (M : Int) (rs : List (Nat × Nat)) (d : Nat) (e : Ending) (w' : World) : Prop :=
  ∃ v' k rs', e = .returned (.int .i64 (newsOf rs d)) ∧ SetAt w' B p v' (adr M k) rs' ∧ Gp 2 rs' ∧ Adv (addK rs d) k (knB rs') ∧ k ≤ 4096 ∧ Turned w w' p v v'
theorem added_not {w w' : World} {B p d : Nat} {v : Value} {M : Int} {rs : List (Nat × Nat)} {n : Int} (h : SetAt w B p v M rs) (hg : Gp 2 rs) (hb : Below w.heap.size w w') (hn : newsOf rs d = n) (hn0 : n ≠ 0) :
    Added w B p v M rs d (.returned (.int .i64 n)) w' := by
  refine ⟨v, 0, rs, by rw [hn], by rw [adr_zero M h.hM]; exact h.below hb, hg, ?_, by omega, Turned.of_below hb p v⟩
  have e : ∀ x, addK rs d x = knB rs x := fun x => by unfold addK; rw [hn]; simp [hn0]
  exact ⟨fun j h1 h2 => by omega, by rw [e]; exact kn_far hg (by omega), fun x _ => (e x).symm⟩
set_option maxHeartbeats 1000000 in
theorem add_any {w : World} {B p d : Nat} {v : Value} {M : Int} {rs : List (Nat × Nat)} (h : SetAt w B p v M rs) (hg : Gp 2 rs) (hd : d < 4294967296) (hB : B ≤ w.heap.size) :
    Calls Try.prog 51 #[ptr p, .int .u32 (adr M d)] w (Added w B p v M rs d) := by
  have hM := h.hM
  have h0 := h.mark
  have HS := Lib.hid h
  have HG := Lib.hid hg
  have hf := less_from M d hM hd w
  cases hok : decide (1 ≤ d ∧ d < 2147483648)
  · have HR : Hid (Added w B p v M rs d (.returned (.int .i64 1)) w) := added_not h hg (Below.refl _ _) (by unfold newsOf okB; rw [hok]; simp) (by omega)
    rw [hok] at hf
    have HL := Lib.hid hf
    clear h hg hf hok hB
    go_enter Try.func51, Try.ntmps51
    go_wp2_with (go_at_call 54; refine HL.out.mono ?_; rintro e w1 ⟨rfl, rfl⟩)
    go_ret
    exact HR.out
  · rw [hok] at hf
    have HL := Lib.hid hf
    have hokd := of_decide_eq_true hok
    cases hk : knB rs d
    · by_cases hfar : 4096 < d
      · have HR : Hid (∀ w', Below w.heap.size w w' → Added w B p v M rs d (.returned (.int .i64 2)) w') := fun w' hb => added_not h hg hb (by unfold newsOf okB; rw [hok, hk]; simp [hfar]) (by omega)
        have C := ahead_any h hg hd
        rw [hk] at C
        have HA := Lib.hid C
        have ht : decide ((4096 : Int) < (d : Int)) = true := decide_eq_true (by omega)
        have ht2 : decide (4096 < d) = true := by simpa using hfar
        have HD : Hid (∀ w', Calls Try.prog 58 #[.int .u32 M, .int .u32 (adr M d)] w' fun e w'' => e = .returned (.int .u32 (d : Int)) ∧ w'' = w') := dist_at M d hM hd
        clear h hg hf hok hB hk C hfar
        go_enter Try.func51, Try.ntmps51
        go_wp2_with fail
        refine HL.out.mono ?_
        rintro e w1 ⟨rfl, rfl⟩
        go_wp2_with fail
        refine HA.out.mono ?_
        rintro e w1 ⟨rfl, hb1⟩
        have m1 := (HS.out.below hb1).mark
        have HB1 := Lib.hid hb1
        clear hb1
        go_wp2_with fail
        refine (HD.out w1).mono ?_
        rintro e w2 ⟨rfl, rfl⟩
        go_wp2
        go_ret
        exact HR.out _ HB1.out
      · have C := ahead_any h hg hd
        rw [hk] at C
        have HA := Lib.hid C
        have hn0 : newsOf rs d = 0 := by unfold newsOf okB; rw [hok, hk]; simp [hfar]
        have HN := Lib.hid hn0
        have HK := Lib.hid hk
        have hfl : d ≤ 4096 := by omega
        have ht : decide ((4096 : Int) < (d : Int)) = false := decide_eq_false (by omega)
        have ht2 : decide (4096 < d) = false := by simpa using hfl
        have HD : Hid (∀ w', Calls Try.prog 58 #[.int .u32 M, .int .u32 (adr M d)] w' fun e w'' => e = .returned (.int .u32 (d : Int)) ∧ w'' = w') := dist_at M d hM hd
        clear h hg hf hok hk C hfar hn0
        go_enter Try.func51, Try.ntmps51
        go_wp2_with fail
        refine HL.out.mono ?_
        rintro e w1 ⟨rfl, rfl⟩
        go_wp2_with fail
        refine HA.out.mono ?_
        rintro e w1 ⟨rfl, hb1⟩
        have hs1 := HS.out.below hb1
        have m1 := hs1.mark
        have HS1 := Lib.hid hs1
        have hB1 : B ≤ w1.heap.size := Nat.le_trans hB hb1.size
        have HB1 := Lib.hid hb1
        clear hb1 hs1
        go_wp2_with fail
        refine (HD.out w1).mono ?_
        rintro e w2 ⟨rfl, rfl⟩
        go_wp2_with fail
        refine (put_any HS1.out HG.out ⟨hokd.1, hfl⟩ HK.out hB1).mono ?_
        rintro e w3 ⟨v', rs', rfl, hs3, hg3, hk3, ht3⟩
        have HS3 := Lib.hid hs3
        have HG3 := Lib.hid hg3
        have HK3 := Lib.hid hk3
        have HT3 := Lib.hid ht3
        clear hs3 hg3 hk3 ht3
        go_wp2_with fail
        refine (advance_any HS3.out HG3.out).mono ?_
        rintro e w4 ⟨k, v4, rs4, rfl, hs4, hg4, ha4, hk4, ht4⟩
        go_wp2
        go_ret
        have HR : Added w B p v M rs d (.returned (.int .i64 0)) w4 := ⟨v4, k, rs4, by rw [HN.out], hs4, hg4, adv_congr ha4 (fun x _ => by rw [HK3.out]; unfold addK; rw [HN.out]; simp), hk4, ((Turned.of_below HB1.out p v).trans HT3.out).trans ht4⟩
        exact HR
    · have HR : Hid (∀ w', Below w.heap.size w w' → Added w B p v M rs d (.returned (.int .i64 1)) w') := fun w' hb => added_not h hg hb (by unfold newsOf; rw [hk]; simp) (by omega)
      have C := ahead_any h hg hd
      rw [hk] at C
      have HA := Lib.hid C
      clear h hg hf hok hB hk C
      go_enter Try.func51, Try.ntmps51
      go_wp2_with fail
      refine HL.out.mono ?_
      rintro e w1 ⟨rfl, rfl⟩
      go_wp2_with fail
      refine HA.out.mono ?_
      rintro e w1 ⟨rfl, hb1⟩
      go_wp2
      go_ret
      exact HR.out _ hb1
end Go.Proofs.Ytioddokjogbmnaa.Span

set_option linter.unusedVariables false
set_option linter.unusedSimpArgs false
set_option maxRecDepth 100000
namespace Go.Proofs.Ytioddokjogbmnaa.Span
open Go.ChangeShapes Go.WideShapes Go.ChangeAt Go.RowKit Go.Proofs.Ytioddokjogbmnaa.Ser
/-- How far Skip moves the mark by itself. -/
def skipS (d : Nat) : Nat := if okB d = true then d else 0
/-- What Skip leaves. -/
def Skipped (w : World) (B p : Nat) (v : Value) (M : Int) (rs : List (Nat × Nat)) (d : Nat) (e : Ending) (w' : World) : Prop :=
  ∃ v' k rs', e = .returned (.bool (okB d)) ∧ SetAt w' B p v' (adr M (skipS d + k)) rs' ∧ Gp 2 rs' ∧ Adv (fun x => knB rs (x + skipS d)) k (knB rs') ∧ k ≤ 4096 ∧ Turned w w' p v v'
theorem find_succ {w : World} {B p d : Nat} {v : Value} {M : Int} {rs : List (Nat × Nat)} {lo : Nat} (h : SetAt w B p v M rs) (hg : Gp lo rs) (hd : d + 1 < 4294967296) :
    Calls Try.prog 74 #[ptr p, .int .u32 ((adr M d + 1) % 4294967296)] w fun e w' => Found rs (d + 1) e ∧ Below w.heap.size w w' := by
  rw [adr_succ]
  exact find_any h hg hd
/-- Behind Delete and the two stores: the set, seen from the new mark. -/
theorem skip_set {w w3 : World} {B p d : Nat} {v v' : Value} {M : Int} {Z : List (Nat × Nat)} {W : World} (HT : Turned w W p v v) (hp : B ≤ p) (hb : Blk W p 132 #[.int .u32 M, v]) (hne : v.ownBlock ≠ some p)
    (own3 : w3.ownsRow B 134 2 v' Z.length (flat M Z)) (hg3 : W.grownBy w3 v.ownBlock) (hv3 : v'.ownBlock = v.ownBlock) (hG : Gp (d + 1) Z) :
    SetAt ((w3.setCell ⟨p, 1, none⟩ v').setCell ⟨p, 0, none⟩ (.int .u32 (adr M d))) B p v' (adr M d) (shl d Z) ∧ Gp 1 (shl d Z) ∧ (∀ x, knB (shl d Z) x = knB Z (x + d)) ∧ Turned w ((w3.setCell ⟨p, 1, none⟩ v').setCell ⟨p, 0, none⟩ (.int .u32 (adr M d))) p v v' := by
  refine ⟨⟨hp, adr_bd _ _, ((hb.grown hg3 (fun e => hne e.symm)).set_ 1 v').set_ 0 _, ?_⟩, gp_shl (lo := 1) hG, fun x => knB_shl (lo := 1) hG x (Nat.le_refl _), ((HT.trans (Turned.of_grown hg3 (.inl hv3))).trans (Turned.of_set _ p 1 _ _)).trans (Turned.of_set _ p 0 _ _)⟩
  rw [shl_length, flat_shl M d Z (fun s hs => by have := hG.2 s hs; omega)]
  have o1 : (w3.setCell ⟨p, 1, none⟩ v').ownsRow B 134 2 v' Z.length (flat M Z) := own3.kept (grownBy_set _ p 1 _) (.inr (by rw [hv3]; exact hne))
  exact o1.kept (grownBy_set _ p 0 _) (.inr (by rw [hv3]; exact hne))
theorem del_head {w1 : World} {B i : Nat} {v : Value} {M : Int} {X Y : List (Nat × Nat)} (own : w1.ownsRow B 134 2 v (X ++ Y).length (flat M (X ++ Y))) (hi : i = X.length) (hl : (X ++ Y).length ≤ 4097) :
    Calls Try.prog 76 #[v, .int .i64 0, .int .i64 (i : Int)] w1 (Deleted w1 B v Y.length (flat M Y)) := by
  subst hi
  exact delete_core (i := 0) (j := X.length) own (flat_one M _) (by omega) (by simp) (by omega) ⟨by simp, by rw [flat_drop]; simp⟩
set_option maxHeartbeats 1000000 in
theorem skip_any {w : World} {B p d : Nat} {v : Value} {M : Int} {rs : List (Nat × Nat)} (h : SetAt w B p v M rs) (hg : Gp 2 rs) (hd : d < 4294967296) :
    Calls Try.prog 56 #[ptr p, .int .u32 (adr M d)] w (Skipped w B p v M rs d) := by
  have hM := h.hM
  have h0 := h.mark
  have HS := Lib.hid h
  have HG := Lib.hid hg
  have hf := less_from M d hM hd w
  cases hok : decide (1 ≤ d ∧ d < 2147483648)
  · have HR : Hid (Skipped w B p v M rs d (.returned (.bool false)) w) := by
      have e : okB d = false := hok
      refine ⟨v, 0, rs, by rw [e], ?_, hg, ?_, by omega, Turned.refl w p v⟩
      · unfold skipS; rw [e]; simp; rw [adr_zero M hM]; exact h
      · unfold skipS; rw [e]; simp; exact ⟨fun j h1 h2 => by omega, kn_far hg (by omega), fun x _ => rfl⟩
    rw [hok] at hf
    have HL := Lib.hid hf
    clear h hg hf hok
    go_enter Try.func56, Try.ntmps56
    go_wp2_with (go_at_call 54; refine HL.out.mono ?_; rintro e w1 ⟨rfl, rfl⟩)
    go_ret
    exact HR.out
  · rw [hok] at hf
    have HL := Lib.hid hf
    have hokd := of_decide_eq_true hok
    have HOK : Hid (okB d = true) := hok
    obtain ⟨a0, n, cap, rfl, hn⟩ := h.form
    have hl := gp_len hg
    rw [← hn] at hl
    have HN := Lib.hid hn
    clear h hg hf hok hn
    go_enter Try.func56, Try.ntmps56
    go_wp2_with fail
    refine HL.out.mono ?_
    rintro e w0 ⟨rfl, rfl⟩
    go_wp2_with fail
    refine (find_succ HS.out HG.out (by omega)).mono ?_
    rintro e w1 ⟨⟨X, Y, hs, rfl⟩, hb1⟩
    have HS1 := Lib.hid (HS.out.below hb1)
    have HT1 := Lib.hid (Turned.of_below hb1 p (.slice a0 n cap))
    have HX := Lib.hid hs
    clear hb1 hs
    go_wp2_with fail
    refine (covers_any HS1.out HG.out HX.out (Nat.le_succ d)).mono ?_
    rintro e w2 ⟨rfl, hb2⟩
    have HS2 := Lib.hid (HS1.out.below hb2)
    have HT2 := Lib.hid (HT1.out.trans (Turned.of_below hb2 p (.slice a0 n cap)))
    clear hb2
    have h1 := HS2.out.rows
    have hf0 := HS2.out.blk.frozen 0
    have hf1 := HS2.out.blk.frozen 1
    have hrs := HX.out.1
    subst hrs
    obtain ⟨i, hi⟩ : ∃ i, i = X.length := ⟨_, rfl⟩
    rw [← hi]
    have hne := HS2.out.ne
    have HNE := Lib.hid hne
    clear hne
    cases hcv : covB Y d
    · have hsk := skip_plain HG.out HX.out hcv
      have HSK := Lib.hid hsk
      have C := Lib.hid (del_head HS2.out.own hi (by rw [← HN.out]; exact hl))
      clear hi hcv hsk
      go_wp2_with fail
      refine C.out.mono ?_
      rintro e w3 ⟨v', rfl, own3, hg3, hv3⟩
      obtain ⟨a', cap', rfl⟩ := own_slice own3
      obtain ⟨n', hn'⟩ : ∃ n', n' = Y.length := ⟨_, rfl⟩
      have hss := skip_set HT2.out HS2.out.hp HS2.out.blk HNE.out own3 hg3 hv3 HSK.out.1
      rw [← hn'] at hss ⊢
      have hbx := HS2.out.blk.grown hg3 (fun e => HNE.out e.symm)
      have k1 := hbx.cell 1
      have k2 := hbx.frozen 1
      have k3 := hbx.cell 0
      have k4 := hbx.frozen 0
      have HSS := Lib.hid hss
      clear own3 hg3 hv3 hn' hbx hss
      go_wp2_with fail
      refine (advance_any HSS.out.1 HSS.out.2.1).mono ?_
      rintro e w4 ⟨k, v4, rs4, rfl, hs4, hg4, ha4, hk4, ht4⟩
      have HR : Hid (Skipped w B p (.slice a0 n cap) M (X ++ Y) d (.returned (.bool true)) w4) := by
        have es : skipS d = d := by unfold skipS; rw [HOK.out]; rfl
        refine ⟨v4, k, rs4, by rw [HOK.out], by rw [es, ← adr_adr]; exact hs4, hg4, ?_, hk4, HSS.out.2.2.2.trans ht4⟩
        rw [es]
        exact adv_congr ha4 (fun x hx => by rw [HSS.out.2.2.1]; exact HSK.out.2 x hx)
      clear hs4 hg4 ha4 hk4 ht4
      go_wp2
      go_ret
      exact HR.out
    · cases Y with
      | nil => cases hcv
      | cons y Y =>
        have hyd : y.1 ≤ d := by simpa [covB] using hcv
        have hsk := skip_cut HG.out HX.out hyd hokd.1
        have HSK := Lib.hid hsk
        have hin : i < (X ++ y :: Y).length := by rw [hi]; simp
        obtain ⟨g, rfl, hbg, hgl, c0, c1⟩ := HS2.out.atn hin
        have hgy : (X ++ y :: Y)[i] = y := by subst hi; simp
        rw [hgy] at c0 c1
        rw [← HN.out] at hin
        have hgp : ¬ g = p := fun e => HNE.out (by simp [Value.ownBlock, e])
        have hpg : ¬ p = g := fun e => hgp e.symm
        have own2 := HS2.out.own
        rw [← HN.out] at own2
        have f1 := own2.frozenAt (i * 2)
        have st := own2.stored (i * 2) (.int .u32 ((adr M d + 1) % 4294967296))
        rw [adr_succ, hi, flat_set1, ← hi, ← adr_succ] at st
        have hlen : n = (X ++ (d + 1, y.2) :: Y).length := by rw [HN.out]; simp
        have hs3 : SetAt (w2.setCell ⟨g, i * 2, none⟩ (.int .u32 ((adr M d + 1) % 4294967296))) B p (.slice (some ⟨g, 0, none⟩) n cap) M (X ++ (d + 1, y.2) :: Y) :=
          ⟨HS2.out.hp, hM, HS2.out.blk.far hpg _, by rw [← hlen]; exact st.1⟩
        have HS3 := Lib.hid hs3
        have C := Lib.hid (del_head hs3.own hi (by rw [← hlen]; exact hl))
        have HTW : Hid (Turned w (w2.setCell ⟨g, i * 2, none⟩ (.int .u32 ((adr M d + 1) % 4294967296))) p (.slice (some ⟨g, 0, none⟩) n cap) (.slice (some ⟨g, 0, none⟩) n cap)) := HT2.out.trans (Turned.of_grown (grownBy_set w2 g (i * 2) _) (.inl rfl))
        clear hi hcv hsk hyd hgy own2 st hlen hs3
        go_wp2_with fail
        refine C.out.mono ?_
        rintro e w3 ⟨v', rfl, own3, hg3, hv3⟩
        obtain ⟨a', cap', rfl⟩ := own_slice own3
        obtain ⟨n', hn'⟩ : ∃ n', n' = ((d + 1, y.2) :: Y).length := ⟨_, rfl⟩
        have hss := skip_set HTW.out HS3.out.hp HS3.out.blk HNE.out own3 hg3 hv3 HSK.out.1
        rw [← hn'] at hss ⊢
        have hbx := HS3.out.blk.grown hg3 (fun e => HNE.out e.symm)
        have k1 := hbx.cell 1
        have k2 := hbx.frozen 1
        have k3 := hbx.cell 0
        have k4 := hbx.frozen 0
        have HSS := Lib.hid hss
        clear own3 hg3 hv3 hn' hbx hss
        go_wp2_with fail
        refine (advance_any HSS.out.1 HSS.out.2.1).mono ?_
        rintro e w4 ⟨k, v4, rs4, rfl, hs4, hg4, ha4, hk4, ht4⟩
        have HR : Hid (Skipped w B p (.slice (some ⟨g, 0, none⟩) n cap) M (X ++ y :: Y) d (.returned (.bool true)) w4) := by
          have es : skipS d = d := by unfold skipS; rw [HOK.out]; rfl
          refine ⟨v4, k, rs4, by rw [HOK.out], by rw [es, ← adr_adr]; exact hs4, hg4, ?_, hk4, HSS.out.2.2.2.trans ht4⟩
          rw [es]
          exact adv_congr ha4 (fun x hx => by rw [HSS.out.2.2.1]; exact HSK.out.2 x hx)
        clear hs4 hg4 ha4 hk4 ht4
        go_wp2
        go_ret
        exact HR.out
end Go.Proofs.Ytioddokjogbmnaa.Span

set_option linter.unusedVariables false
set_option linter.unusedSimpArgs false
set_option maxRecDepth 100000
namespace Go.Proofs.Ytioddokjogbmnaa.Span
open Go.ChangeShapes Go.WideShapes Go.ChangeAt Go.RowKit Go.Proofs.Ytioddokjogbmnaa.Ser
/-- The cells of a list of gaps. -/
def gcells : List (Nat × Nat) → List Value
  | [] => []
  | r :: rs => .int .u16 (r.1 : Int) :: .int .u16 (r.2 : Int) :: gcells rs
theorem gcells_append : ∀ (a b : List (Nat × Nat)), gcells (a ++ b) = gcells a ++ gcells b
  | [], _ => rfl
  | r :: a, b => by simp [gcells, gcells_append a b]
theorem gcells_take (rs : List (Nat × Nat)) (k : Nat) (h : k < rs.length) : gcells (rs.take (k + 1)) = gcells (rs.take k) ++ [.int .u16 (rs[k].1 : Int), .int .u16 (rs[k].2 : Int)] := by
  rw [List.take_succ_eq_append_getElem h, gcells_append]; rfl
theorem gap_info : (Try.prog.info? 136).map (fun i => (i.zero, i.size, i.bytes)) = some (some (.agg #[.int .u16 0, .int .u16 0]), 2, 4) := by kernel_rfl
/-- How many gaps are told. -/
def told (rs : List (Nat × Nat)) (most : Int) : Nat := min rs.length most.toNat
/-- What Gaps leaves. -/
def Gapsd (w : World) (rs : List (Nat × Nat)) (most : Int) (e : Ending) (w' : World) : Prop :=
  ∃ v, e = .returned v ∧ w'.ownsRow w.heap.size 136 2 v (told rs most) (gcells (rs.take (told rs most))) ∧ Below w.heap.size w w'
set_option maxHeartbeats 1000000 in
theorem gaps_any {w : World} {B p : Nat} {v : Value} {M : Int} {rs : List (Nat × Nat)} {lo : Nat} (h : SetAt w B p v M rs) (hg : Gp lo rs) (most : Int) (hmo : -9223372036854775808 ≤ most ∧ most ≤ 9223372036854775807) :
    Calls Try.prog 53 #[ptr p, .int .i64 most] w (Gapsd w rs most) := by
  have hM := h.hM
  have h1 := h.rows
  have hl := gp_len hg
  have HS := Lib.hid h
  have HG := Lib.hid hg
  obtain ⟨a0, cap, rfl⟩ := own_slice h.own
  obtain ⟨n, hn⟩ : ∃ n, n = rs.length := ⟨_, rfl⟩
  rw [← hn] at h1 hl
  have HN := Lib.hid hn
  clear h hg hn
  obtain ⟨i0, hi0, hz0, hz1, hz2⟩ := info_parts gap_info
  go_enter Try.func53, Try.ntmps53
  go_wp2
  go_loopw [5, 13] (fun c i wr => ∃ (k : Nat) (a : Option Addr) (q : Nat), k ≤ n ∧ (k : Int) ≤ max most 0 ∧ i = .int .i64 k ∧ c = .slice a k q ∧ Hid (wr.ownsRow w.heap.size 136 2 (.slice a k q) k (gcells (rs.take k))) ∧ Below w.heap.size w wr) (fun _ i _ => n - (intOf i).toNat)
  case atStart => exact ⟨0, none, 0, Nat.zero_le _, by omega, rfl, rfl, World.ownsRow_nil _ _ _ _, Below.refl _ _⟩
  case round =>
    obtain ⟨k, a, q, hk, hkm, rfl, rfl, ho, hb⟩ := hrel
    by_cases hlt : k < n
    · have hk2 : k < rs.length := by rw [← HN.out]; exact hlt
      have hs := HS.out.below hb
      obtain ⟨g, cap', hv, _, hgl, c0, c1⟩ := hs.at_ hk2
      injection hv with hv1 hv2 hv3
      subst hv1
      subst hv3
      have hr := HG.out.2 _ (List.getElem_mem hk2)
      have hgt := gcells_take rs k hk2
      obtain ⟨x, hx⟩ : ∃ x, x = rs[k] := ⟨_, rfl⟩
      rw [← hx] at c0 c1 hr hgt
      have m1 := hs.mark
      have hpl := hs.blk.lt
      have HT := Lib.hid hgt
      have HB := Lib.hid hb
      clear hb hs hx hgt
      by_cases hm : most ≤ k
      · have hmk : decide (most ≤ (k : Int)) = true := decide_eq_true hm
        go_wp2
        go_ret
        have e : told rs most = k := by unfold told; rw [← HN.out]; simp only [Nat.min_def]; split <;> omega
        exact ⟨_, rfl, by rw [e]; exact ho.out.alloc _, HB.out.alloc HB.out.size _⟩
      · have hmk : decide (most ≤ (k : Int)) = false := decide_eq_false hm
        go_wp2_with fail
        obtain ⟨wo, hwo⟩ : ∃ wo, wo = wr.alloc (.cells #[.int .u32 (adr M x.1), .int .u32 (adr M x.2)] 134) := ⟨_, rfl⟩
        have m2 : wo.cell? ⟨p, 0, none⟩ = some (.int .u32 M) := by rw [hwo]; go_simp
        have d0 : wo.cell? ⟨wr.heap.size, 0, none⟩ = some (.int .u32 (adr M x.1)) := by rw [hwo]; go_simp
        have d1 : wo.cell? ⟨wr.heap.size, 1, none⟩ = some (.int .u32 (adr M x.2)) := by rw [hwo]; go_simp
        have HB2 : Hid (Below w.heap.size w wo) := by rw [hwo]; exact HB.out.alloc HB.out.size _
        have ho2 : wo.ownsRow w.heap.size 136 2 (.slice a k q) k (gcells (rs.take k)) := by rw [hwo]; exact ho.out.alloc _
        have HO2 := Lib.hid ho2
        rw [← hwo]
        have l1 : wr.heap.size < wo.heap.size := by rw [hwo]; simp
        have l2 : p < wo.heap.size := by omega
        have hwb := HB2.out.size
        have ag : (Value.slice a k q).ownBlock ≠ some p := fun e => by have := (ho.out.lt p e).1; have := HS.out.blk.lt; omega
        have ah : (Value.slice a k q).ownBlock ≠ some wr.heap.size := fun e => by have := (ho.out.lt _ e).2; omega
        have hu1 : IntKind.u16.wrap (x.1 : Int) = (x.1 : Int) := by simp [IntKind.wrap, IntKind.bits, IntKind.signed]; omega
        have hu2 : IntKind.u16.wrap (x.2 : Int) = (x.2 : Int) := by simp [IntKind.wrap, IntKind.bits, IntKind.signed]; omega
        clear hwo m1 c0 c1 ho2 ho HB
        go_region_held3 (fun w' => w'.cell? ⟨p, 0, none⟩ = some (.int .u32 M) ∧ w'.cell? ⟨wr.heap.size, 0, none⟩ = some (.int .u32 (adr M x.1)) ∧ w'.cell? ⟨wr.heap.size, 1, none⟩ = some (.int .u32 (adr M x.2)))
          (first
            | go_keep
            | (go_split_ands
               refine ⟨?_, ?_, ?_⟩
               · (rw [hgrow.cell_far _ (by simp; omega) (Ne.symm ag)]; assumption)
               · (rw [hgrow.cell_far _ (by simp; omega) (Ne.symm ah)]; assumption)
               · (rw [hgrow.cell_far _ (by simp; omega) (Ne.symm ah)]; assumption)))
          (first
            | (go_at_call 58; (with_reducible refine (dist_at M x.1 hM (by omega) _).mono ?_); rintro e w' ⟨rfl, rfl⟩)
            | (go_at_call 58; (with_reducible refine (dist_at M x.2 hM (by omega) _).mono ?_); rintro e w' ⟨rfl, rfl⟩)
            | (refine step_append_lies _ (by rfl) _ _ _ (by rfl) w.heap.size 136 i0 _ 2 4 Try.underlying35 hi0 hz0 hz1 hz2 rfl (by omega) (.slice a k q) k (gcells (rs.take k)) (by rfl) ((HO2.out.alloc _).drew)
                ⟨wo.heap.size, 0, none⟩ 1 1 [.int .u16 x.1, .int .u16 x.2] (by rfl) (by rfl) (World.news_of_block (cs := #[.int .u16 x.1, .int .u16 x.2]) (t := 136) (fr := (0, 0)) (heap_alloc_new wo _)) (by simp [Value.oneCell'])
                (by omega) (by simp only [maxLen]; omega) (by omega) (by simp; omega) (wo.heap.size + 1) (by simp) ?_; intro gg gcap w1 hown1 hgrow hat hgl1))
        have HO3 := Lib.hid hown1
        have HB3 : Hid (Below w.heap.size w w1) := by
          refine ((HB2.out.alloc HB2.out.size _).drew).grown hgrow (Nat.le_trans hwb (by simp)) (fun b e => ?_)
          exact (HO2.out.lt b e).1
        clear hown1 hgrow hat hgl1 hu1 hu2 ag ah
        go_wp2
        go_roundw
        case rel =>
          refine ⟨k + 1, some ⟨gg, 0, none⟩, gcap, by omega, by omega, by go_num, rfl, ?_, HB3.out⟩
          rw [HT.out]
          exact HO3.out
        case measure => simp [intOf]; omega
    · obtain rfl : k = n := by omega
      have HB := Lib.hid hb
      clear hb
      go_wp2
      go_ret
      have e : told rs most = k := by unfold told; rw [← HN.out]; simp only [Nat.min_def]; split <;> omega
      exact ⟨_, rfl, by rw [e]; exact ho.out, HB.out⟩
end Go.Proofs.Ytioddokjogbmnaa.Span

set_option linter.unusedVariables false
set_option linter.unusedSimpArgs false
set_option maxRecDepth 100000
namespace Go.Proofs.Ytioddokjogbmnaa.Span
open Go.ChangeShapes Go.WideShapes Go.ChangeAt Go.RowKit Go.Proofs.Ytioddokjogbmnaa.Ser
/-- How far a number is ahead of the mark. -/
def dN (M t : Int) : Nat := (dist M t).toNat
theorem dN_lt (M t : Int) : dN M t < 4294967296 := by unfold dN; have := dist_bd M t; omega
theorem adr_dN (M t : Int) (hM : 0 ≤ M ∧ M ≤ 4294967295) (ht : 0 ≤ t ∧ t ≤ 4294967295) : adr M (dN M t) = t := by unfold dN adr dist; omega
theorem add_t {w : World} {B p : Nat} {v : Value} {M t : Int} {rs : List (Nat × Nat)} (h : SetAt w B p v M rs) (hg : Gp 2 rs) (ht : 0 ≤ t ∧ t ≤ 4294967295) (hB : B ≤ w.heap.size) :
    Calls Try.prog 51 #[ptr p, .int .u32 t] w (Added w B p v M rs (dN M t)) := by
  have := add_any h hg (dN_lt M t) hB
  rwa [adr_dN M t h.hM ht] at this
theorem skip_t {w : World} {B p : Nat} {v : Value} {M t : Int} {rs : List (Nat × Nat)} (h : SetAt w B p v M rs) (hg : Gp 2 rs) (ht : 0 ≤ t ∧ t ≤ 4294967295) :
    Calls Try.prog 56 #[ptr p, .int .u32 t] w (Skipped w B p v M rs (dN M t)) := by
  have := skip_any h hg (dN_lt M t)
  rwa [adr_dN M t h.hM ht] at this
theorem has_t {w : World} {B p : Nat} {v : Value} {M t : Int} {rs : List (Nat × Nat)} (h : SetAt w B p v M rs) (hg : Gp 2 rs) (ht : 0 ≤ t ∧ t ≤ 4294967295) :
    Calls Try.prog 83 #[ptr p, .int .u32 t] w fun e w' => e = .returned (.bool (hasB rs (dN M t))) ∧ Below w.heap.size w w' := by
  have := has_any h hg (dN_lt M t)
  rwa [adr_dN M t h.hM ht] at this
theorem gp_one (d : Nat) (h : 2 ≤ d ∧ d ≤ 4096) : Gp 2 [(d, d)] := gp_cons.2 ⟨by simp; omega, by simp, gp_nil 2⟩
theorem one_kn (a b x : Nat) : knB [(a, b)] x = (decide (a ≤ x) && decide (x ≤ b)) := by simp [knB]
end Go.Proofs.Ytioddokjogbmnaa.Span

set_option linter.unusedVariables false
set_option linter.unusedSimpArgs false
set_option maxRecDepth 100000
namespace Go.Proofs.Ytioddokjogbmnaa.Span
open Go.ChangeShapes Go.WideShapes Go.ChangeAt Go.RowKit Go.Proofs.Ytioddokjogbmnaa.Ser
/-- A slice of gaps, to be read. -/
def GapsAt (w : World) (v : Value) (l : List (Nat × Nat)) : Prop :=
  ∃ a cap, v = .slice a l.length cap ∧ (l = [] ∨ ∃ g, a = some ⟨g, 0, none⟩ ∧ g < w.heap.size ∧ ∀ k (h : k < l.length), w.cell? ⟨g, k * 2, none⟩ = some (.int .u16 (l[k].1 : Int)) ∧ w.cell? ⟨g, k * 2 + 1, none⟩ = some (.int .u16 (l[k].2 : Int)))
theorem gcells_get : ∀ (l : List (Nat × Nat)) (k : Nat) (h : k < l.length), (gcells l)[k * 2]? = some (.int .u16 (l[k].1 : Int)) ∧ (gcells l)[k * 2 + 1]? = some (.int .u16 (l[k].2 : Int))
  | r :: l, 0, _ => ⟨rfl, rfl⟩
  | r :: l, k + 1, h => by
    have := gcells_get l k (by simpa using h)
    rw [show (k + 1) * 2 = k * 2 + 1 + 1 by omega]
    simpa [gcells] using this
theorem GapsAt.of_own {w : World} {B : Nat} {v : Value} {l : List (Nat × Nat)} (h : w.ownsRow B 136 2 v l.length (gcells l)) : GapsAt w v l := by
  obtain ⟨a, cap, rfl⟩ := own_slice h
  refine ⟨a, cap, rfl, ?_⟩
  rcases Nat.eq_zero_or_pos l.length with h0 | h0
  · exact .inl (List.eq_nil_of_length_eq_zero h0)
  · right
    obtain ⟨g, c, hv, _, hg⟩ := h.form h0
    injection hv with e1 _ e3
    subst e1 e3
    refine ⟨g, rfl, hg, fun k hk => ?_⟩
    have := gcells_get l k hk
    exact ⟨(h.cellAt _ (by omega)).trans this.1, (h.cellAt _ (by omega)).trans this.2⟩
theorem GapsAt.below {w w' : World} {v : Value} {l : List (Nat × Nat)} (h : GapsAt w v l) (hb : Below w.heap.size w w') : GapsAt w' v l := by
  obtain ⟨a, cap, hv, h⟩ := h
  refine ⟨a, cap, hv, h.imp_right ?_⟩
  rintro ⟨g, ha, hg, hc⟩
  exact ⟨g, ha, Nat.lt_of_lt_of_le hg hb.size, fun k hk => ⟨(hb.cell (p := ⟨g, _, none⟩) hg).trans (hc k hk).1, (hb.cell (p := ⟨g, _, none⟩) hg).trans (hc k hk).2⟩⟩
/-- Two sets side by side. -/
structure Two (w : World) (B pa : Nat) (va : Value) (Ma : Int) (ra : List (Nat × Nat)) (pb : Nat) (vb : Value) (Mb : Int) (rb : List (Nat × Nat)) : Prop where
  sa : SetAt w B pa va Ma ra
  sb : SetAt w B pb vb Mb rb
  ne : pa ≠ pb
  row : ∀ g, va.ownBlock = some g → vb.ownBlock ≠ some g
theorem SetAt.row_ne {w : World} {B p q : Nat} {v u : Value} {M N : Int} {rs qs : List (Nat × Nat)} (h : SetAt w B p v M rs) (k : SetAt w B q u N qs) : u.ownBlock ≠ some p := by
  intro e
  rcases k.own.2 with ⟨rfl, _⟩ | ⟨g, cap, cur, rfl, _, hh, _⟩
  · simp [Value.ownBlock] at e
  · have e2 : g = p := by simpa [Value.ownBlock] using e
    subst e2
    have hb := h.blk
    unfold Blk at hb
    rw [hh] at hb
    injection hb with hb
    injection hb with _ ht
    cases ht
theorem SetAt.turned {w w' : World} {B p q : Nat} {v u v' : Value} {M N : Int} {rs qs : List (Nat × Nat)} (hb : SetAt w B q u N qs) (ha : SetAt w B p v M rs) (T : Turned w w' p v v') (hne : p ≠ q) (hr : ∀ g, v.ownBlock = some g → u.ownBlock ≠ some g) : SetAt w' B q u N qs := by
  have hqb := hb.blk
  refine ⟨hb.hp, hb.hM, (T.block q hqb.lt (fun e => hne e.symm) (fun e => ?_)).trans hqb, ?_⟩
  · exact hb.row_ne ha e.symm
  · rcases hb.own.2 with hn | ⟨g, cap, cur, rfl, h1, h2, rest⟩
    · exact ⟨hb.own.1, .inl hn⟩
    · refine ⟨hb.own.1, .inr ⟨g, cap, cur, rfl, h1, (T.block g ?_ ?_ ?_).trans h2, rest⟩⟩
      · rcases Nat.lt_or_ge g w.heap.size with hlt | hge
        · exact hlt
        · rw [Array.getElem?_eq_none hge] at h2; cases h2
      · intro e; exact ha.row_ne hb (by simp [Value.ownBlock, e])
      · intro e; exact hr g e.symm (by simp [Value.ownBlock])
theorem Two.symm {w : World} {B pa pb : Nat} {va vb : Value} {Ma Mb : Int} {ra rb : List (Nat × Nat)} (h : Two w B pa va Ma ra pb vb Mb rb) : Two w B pb vb Mb rb pa va Ma ra :=
  ⟨h.sb, h.sa, fun e => h.ne e.symm, fun g e1 e2 => h.row g e2 e1⟩
theorem Two.left {w w' : World} {B pa pb : Nat} {va vb va' : Value} {Ma Mb Ma' : Int} {ra rb ra' : List (Nat × Nat)} (h : Two w B pa va Ma ra pb vb Mb rb) (T : Turned w w' pa va va') (s : SetAt w' B pa va' Ma' ra') : Two w' B pa va' Ma' ra' pb vb Mb rb := by
  refine ⟨s, h.sb.turned h.sa T h.ne h.row, h.ne, fun g e1 e2 => ?_⟩
  rcases T.row with e | e | ⟨g', e, hg⟩
  · exact h.row g (e ▸ e1) e2
  · rw [e] at e1; cases e1
  · rw [e] at e1
    injection e1 with e1
    have := (h.sb.own.lt g e2).2
    omega
theorem Two.right {w w' : World} {B pa pb : Nat} {va vb vb' : Value} {Ma Mb Mb' : Int} {ra rb rb' : List (Nat × Nat)} (h : Two w B pa va Ma ra pb vb Mb rb) (T : Turned w w' pb vb vb') (s : SetAt w' B pb vb' Mb' rb') : Two w' B pa va Ma ra pb vb' Mb' rb' :=
  (h.symm.left T s).symm
theorem Two.below {w w' : World} {B pa pb : Nat} {va vb : Value} {Ma Mb : Int} {ra rb : List (Nat × Nat)} (h : Two w B pa va Ma ra pb vb Mb rb) (hb : Below w.heap.size w w') : Two w' B pa va Ma ra pb vb Mb rb :=
  ⟨h.sa.below hb, h.sb.below hb, h.ne, h.row⟩
/-- Is the number 'x' ahead of the first mark known, the mark being 'k' ahead of it? -/
def absB (k : Nat) (rs : List (Nat × Nat)) (x : Nat) : Bool := decide (x ≤ k) || knB rs (x - k)
theorem abs_end {k : Nat} {rs : List (Nat × Nat)} (hg : Gp 2 rs) : absB k rs (k + 1) = false := by
  unfold absB
  rw [show k + 1 - k = 1 by omega, kn_far hg (by omega)]
  simp
theorem abs_le {k x : Nat} {rs : List (Nat × Nat)} (h : x ≤ k) : absB k rs x = true := by unfold absB; simp [h]
theorem abs_inj {k k' : Nat} {rs rs' : List (Nat × Nat)} (hg : Gp 2 rs) (hg' : Gp 2 rs') (h : ∀ x, 1 ≤ x → absB k rs x = absB k' rs' x) : k = k' ∧ rs = rs' := by
  have hk : k = k' := by
    rcases Nat.lt_trichotomy k k' with hl | he | hl
    · have := h (k + 1) (by omega); rw [abs_end hg, abs_le (by omega)] at this; cases this
    · exact he
    · have := h (k' + 1) (by omega); rw [abs_end hg', abs_le (by omega)] at this; cases this
  subst hk
  refine ⟨rfl, canon hg hg' (fun x => ?_)⟩
  rcases Nat.eq_zero_or_pos x with rfl | hx
  · rw [kn_far hg (by omega), kn_far hg' (by omega)]
  · have := h (x + k) (by omega)
    unfold absB at this
    have e : ¬ (x + k ≤ k) := by omega
    simpa [e] using this
theorem dist_abs (M : Int) (k x : Nat) (hM : 0 ≤ M ∧ M ≤ 4294967295) (hk : k ≤ 1000000) (hx : x ≤ 1000000) : dN (adr M k) (adr M x) = if k ≤ x then x - k else 4294967296 - (k - x) := by
  unfold dN dist adr
  split <;> omega
/-- Add, seen from the first mark. -/
theorem add_abs {M : Int} {k x kk : Nat} {rs rs' : List (Nat × Nat)} (hM : 0 ≤ M ∧ M ≤ 4294967295) (hk : k ≤ 1000000) (hx : x ≤ 1000000) (hg : Gp 2 rs) (hA : Adv (addK rs (dN (adr M k) (adr M x))) kk (knB rs')) :
    (∀ y, 1 ≤ y → absB (k + kk) rs' y = (absB k rs y || (decide (y = x) && decide (x ≤ k + 4096)))) ∧
    (newsOf rs (dN (adr M k) (adr M x)) = 0 ↔ absB k rs x = false ∧ x ≤ k + 4096) := by
  have hd := dist_abs M k x hM hk hx
  obtain ⟨d, ed⟩ : ∃ d, d = dN (adr M k) (adr M x) := ⟨_, rfl⟩
  rw [← ed] at hd hA ⊢
  have hnews : newsOf rs d = 0 ↔ absB k rs x = false ∧ x ≤ k + 4096 := by
    unfold newsOf okB absB
    by_cases hkx : k < x
    · rw [if_pos (by omega)] at hd
      subst hd
      have e : ¬ x ≤ k := by omega
      cases hkn : knB rs (x - k)
      · by_cases hf : 4096 < x - k
        · simp [e, hf]
          rw [if_pos (by omega)]; simp; omega
        · simp [e, hf]
          omega
      · simp [e]
    · have e : x ≤ k := by omega
      have hno : ¬ (1 ≤ d ∧ d < 2147483648) := by split at hd <;> omega
      simp only [hno, decide_false, e, decide_true, Bool.true_or]
      simp
  refine ⟨fun y hy => ?_, hnews⟩
  have hrhs : ∀ z, y = k + z → 1 ≤ z → addK rs d z = (absB k rs y || (decide (y = x) && decide (x ≤ k + 4096))) := by
    intro z hz h1
    unfold addK
    have e1 : absB k rs y = knB rs z := by
      unfold absB
      have : ¬ y ≤ k := by omega
      rw [show y - k = z by omega]
      simp [this]
    rw [e1]
    cases hkn : knB rs z
    · simp only [Bool.false_or]
      rw [← Bool.decide_and, ← Bool.decide_and, decide_eq_decide, hnews]
      constructor
      · rintro ⟨h2, h3, h4⟩
        refine ⟨?_, h4⟩
        have : k < x := by
          rcases Nat.lt_or_ge k x with h | h
          · exact h
          · rw [abs_le h] at h3; cases h3
        split at hd <;> omega
      · rintro ⟨h2, h4⟩
        refine ⟨?_, ?_, h4⟩
        · split at hd <;> omega
        · rw [← h2, e1]; exact hkn
    · simp
  rcases Nat.lt_or_ge k y with hl | hl
  · have := hrhs (y - k) (by omega) (by omega)
    rw [← this]
    rcases Nat.lt_or_ge (k + kk) y with h2 | h2
    · unfold absB
      have e : ¬ y ≤ k + kk := by omega
      simp only [e, decide_false, Bool.false_or]
      rw [hA.2.2 _ (by omega), show y - (k + kk) + kk = y - k by omega]
    · rw [abs_le h2, hA.1 _ (by omega) (by omega)]
  · rw [abs_le (by omega), abs_le (by omega), Bool.true_or]
end Go.Proofs.Ytioddokjogbmnaa.Span

set_option linter.unusedVariables false
set_option linter.unusedSimpArgs false
namespace Go.Proofs.Ytioddokjogbmnaa.Words
open Go.ChangeShapes Go.WideShapes Go.ChangeAt Go.RowKit
theorem ret_int {k : IntKind} {a b : Int} (h : a = b) : Ending.returned (.int k a) = .returned (.int k b) := by rw [h]
theorem ret_bool {a b : Bool} (h : a = b) : Ending.returned (.bool a) = .returned (.bool b) := by rw [h]
theorem block_of_add (a : Addr) (n : Nat) : (a.add n).block = a.block := by unfold Addr.add; split <;> rfl
theorem add_of_add (a : Addr) (i j : Nat) : (a.add i).add j = a.add (i + j) := by
  unfold Addr.add
  by_cases hi : i = 0 <;> by_cases hj : j = 0 <;> simp [hi, hj, Nat.add_assoc]
def Reads (w : World) (B size : Nat) (A : Option Addr) (n : Nat) (xs : List Value) : Prop :=
  xs.length = n * size ∧ (0 < n → ∃ ad, A = some ad ∧ ad.block < B ∧ ∀ j u, xs[j]? = some u → w.cell? (ad.add j) = some u)
section
variable {w w' : World} {B B' size n : Nat} {A : Option Addr} {xs : List Value}
theorem Reads.none_ : Reads w B size A 0 [] := ⟨by simp, fun h => absurd h (by omega)⟩
theorem Reads.at_ {k : Nat} (h : Reads w B 1 A n xs) (hk : k < n) : ∃ ad u, A = some ad ∧ ad.block < B ∧ xs[k]? = some u ∧ w.cell? (ad.add k) = some u := by
  obtain ⟨ad, e, hb, hc⟩ := h.2 (by omega)
  have hl : k < xs.length := by have := h.1; omega
  exact ⟨ad, xs[k], e, hb, List.getElem?_eq_getElem hl, hc k _ (List.getElem?_eq_getElem hl)⟩
theorem Reads.keep (h : Reads w B size A n xs) (hk : ∀ p : Addr, p.block < B → w'.cell? p = w.cell? p) : Reads w' B size A n xs :=
  ⟨h.1, fun hn => by
    obtain ⟨ad, e, hb, hc⟩ := h.2 hn
    exact ⟨ad, e, hb, fun j u hu => (hk _ (by rw [block_of_add]; exact hb)).trans (hc j u hu)⟩⟩
theorem Reads.more (h : Reads w B size A n xs) (hB : B ≤ B') : Reads w B' size A n xs :=
  ⟨h.1, fun hn => by
    obtain ⟨ad, e, hb, hc⟩ := h.2 hn
    exact ⟨ad, e, by omega, hc⟩⟩
theorem Reads.below (h : Reads w B size A n xs) (hb : Below B w w') : Reads w' B size A n xs := h.keep fun _ hp => hb.cell hp
theorem Reads.drew (h : Reads w B size A n xs) : Reads w.drew B size A n xs := h
theorem Reads.drewN (h : Reads w B size A n xs) (k : Nat) : Reads (w.drewN k) B size A n xs := h
theorem Reads.alloc (h : Reads w B size A n xs) (hB : B ≤ w.heap.size) (o : Obj) : Reads (w.alloc o) B size A n xs := h.keep fun p hp => World.cell?_alloc_lt w o p (by omega)
theorem Reads.setCell (h : Reads w B size A n xs) {p : Addr} (hB : B ≤ p.block) (u : Value) : Reads (w.setCell p u) B size A n xs :=
  h.keep fun q hq => World.cell?_setCell_other w p q u (fun e => by subst e; omega)
theorem Reads.grown (h : Reads w B size A n xs) {row : Option Nat} (hg : w.grownBy w' row) (hB : B ≤ w.heap.size) (hr : ∀ g, row = some g → B ≤ g) : Reads w' B size A n xs :=
  h.keep fun p hp => World.cell?_of_block (hg.block p.block (by omega) (fun e => by have := hr _ e.symm; omega))
theorem Reads.cut (h : Reads w B size A n xs) {k cap : Nat} (hk : k ≤ n) (hc : n ≤ cap) :
    Reads w B size (if cap = k then A else A.map (·.add (k * size))) (n - k) (xs.drop (k * size)) := by
  refine ⟨by rw [List.length_drop, h.1, Nat.sub_mul], fun hn => ?_⟩
  obtain ⟨ad, rfl, hb, hcell⟩ := h.2 (by omega)
  rw [if_neg (by omega)]
  refine ⟨ad.add (k * size), rfl, by rw [block_of_add]; exact hb, fun j u hu => ?_⟩
  rw [add_of_add]
  exact hcell _ u (by rw [← hu, List.getElem?_drop])
theorem Reads.of_own {base : Nat} {e : TypeId} {c : Nat} (h : w.ownsRow base e size (.slice A n c) n xs) : Reads w w.heap.size size A n xs := by
  refine ⟨h.1, fun hn => ?_⟩
  obtain ⟨g, cap, hv, _, hlt⟩ := h.form hn
  have hA : A = some ⟨g, 0, none⟩ := by injection hv
  subst hA
  exact ⟨_, rfl, hlt, h.cells (g := g) rfl⟩
end
def Blk (w : World) (g : Nat) (t : TypeId) (cs : Array Value) : Prop := w.heap[g]? = some (.cells cs t (0, 0))
section
variable {w w' : World} {g : Nat} {t : TypeId} {cs : Array Value}
theorem Blk.lt (h : Blk w g t cs) : g < w.heap.size := by
  rcases Nat.lt_or_ge g w.heap.size with hlt | hge
  · exact hlt
  · unfold Blk at h; rw [Array.getElem?_eq_none hge] at h; cases h
theorem Blk.cell (h : Blk w g t cs) (i : Nat) : w.cell? ⟨g, i, none⟩ = cs[i]? := cell_of_row w g i cs t (0, 0) h
theorem Blk.frozen (h : Blk w g t cs) (i : Nat) : w.frozen? ⟨g, i, none⟩ = false := by
  unfold Blk at h
  simp [World.frozen?, h]
theorem Blk.new (w : World) (t : TypeId) (cs : Array Value) : Blk (w.alloc (.cells cs t)) w.heap.size t cs := heap_alloc_new w _
theorem Blk.drew (h : Blk w g t cs) : Blk w.drew g t cs := h
theorem Blk.drewN (h : Blk w g t cs) (n : Nat) : Blk (w.drewN n) g t cs := h
theorem Blk.alloc (h : Blk w g t cs) (o : Obj) : Blk (w.alloc o) g t cs := (Below.heap_alloc w o g h.lt).trans h
theorem Blk.set_ (h : Blk w g t cs) (i : Nat) (u : Value) : Blk (w.setCell ⟨g, i, none⟩ u) g t (cs.setIfInBounds i u) := by
  unfold Blk at h ⊢
  simp [World.setCell, Array.getElem?_modify, h]
theorem Blk.far (h : Blk w g t cs) {p : Addr} (hp : g ≠ p.block) (u : Value) : Blk (w.setCell p u) g t cs := (Below.heap_setCell w p u g hp).trans h
theorem Blk.below {B : Nat} (h : Blk w g t cs) (hb : Below B w w') (hg : g < B) : Blk w' g t cs := (hb.block g hg).trans h
theorem Blk.grown {row : Option Nat} (h : Blk w g t cs) (hb : w.grownBy w' row) (hg : some g ≠ row) : Blk w' g t cs := (hb.block g h.lt hg).trans h
theorem Blk.ne_ {g' : Nat} {t' : TypeId} {cs' : Array Value} (h : Blk w g t cs) (h' : Blk w g' t' cs') (hne : t ≠ t') : g ≠ g' := by
  rintro rfl
  unfold Blk at h h'
  rw [h] at h'
  injection h' with h'
  injection h' with _ ht
  exact hne ht
theorem own_blk_ne {base : Nat} {e : TypeId} {size n : Nat} {v : Value} {xs : List Value} (h : w.ownsRow base e size v n xs) (hg : Blk w g t cs) (hne : e ≠ t) : v.ownBlock ≠ some g := by
  rcases h.2 with ⟨rfl, _⟩ | ⟨g', cap, cur, rfl, _, hh, _⟩
  · simp [Value.ownBlock]
  · intro he
    have : g' = g := by simpa [Value.ownBlock] using he
    subst this
    exact Blk.ne_ (t := e) hh hg hne rfl
end
section
variable {P : Program} (w : World)
theorem run_append_of_nil (base : Nat) (t ty e : TypeId) (i : TypeInfo) (size : Nat) (ht : P.underlying t = some (.slice e)) (hi : P.info? e = some i)
    (v : Value) (n : Nat) (xs : List Value) (hown : w.ownsRow base e size v n xs) (c : Nat) : (Builtin.append_ #[t, t] ty #[v, .slice none 0 c]).run P w = .ok v w := by
  rcases hown.2 with ⟨rfl, rfl⟩ | ⟨g, cap, cur, rfl, _, _, hnc, _⟩
  · simp [Builtin.append_, run_underlying ht, sizeOf, typeInfo, hi, Builtin.lenOf, Builtin.firstCells]
  · simp [Builtin.append_, run_underlying ht, sizeOf, typeInfo, hi, Builtin.lenOf, Builtin.firstCells, hnc, storeCells]
theorem run_append_any (base : Nat) (t ty e : TypeId) (i : TypeInfo) (z : Value) (size bytes : Nat) (ht : P.underlying t = some (.slice e)) (hi : P.info? e = some i) (hz : i.zero = some z)
    (hsize : i.size = size) (hby : i.bytes = bytes) (hzs : z.cells.size = size) (hsz : 0 < size)
    (v : Value) (n : Nat) (xs : List Value) (hown : w.ownsRow base e size v n xs)
    (B : Nat) (A : Option Addr) (m c : Nat) (news : List Value) (hr : Reads w B size A m news) (h1 : ∀ u ∈ news, u.oneCell' = true)
    (h63 : n + m ≤ maxLen) (hbytes : (n + m) * bytes ≤ 140737488355328) (hbase : base ≤ w.heap.size) :
    ∃ v' w', (Builtin.append_ #[t, t] ty #[v, .slice A m c]).run P w = .ok v' w' ∧ w'.ownsRow base e size v' (n + m) (xs ++ news) ∧ w.grownBy w' v.ownBlock ∧
      (v'.ownBlock = v.ownBlock ∨ v'.ownBlock = some w.heap.size) := by
  rcases A with _ | ad
  · have hm : m = 0 := by
      rcases Nat.eq_zero_or_pos m with h0 | h0
      · exact h0
      · obtain ⟨ad, h, _⟩ := hr.2 h0
        cases h
    subst hm
    have hn : news = [] := List.eq_nil_of_length_eq_zero (by simpa using hr.1)
    subst hn
    exact ⟨v, w, run_append_of_nil w base t ty e i size ht hi v n xs hown c, by simpa using hown, World.grownBy.refl w _, .inl rfl⟩
  · have hcells : ∀ j u, news[j]? = some u → w.cell? (ad.add j) = some u := by
      intro j u hu
      rcases Nat.eq_zero_or_pos m with h0 | h0
      · subst h0
        have hn : news = [] := List.eq_nil_of_length_eq_zero (by simpa using hr.1)
        subst hn
        simp at hu
      · obtain ⟨ad', h, _, hc⟩ := hr.2 h0
        injection h with h
        subst h
        exact hc j u hu
    obtain ⟨v', w', hrun, h2, h3, _, h5⟩ := run_append_own_at (P := P) w base t ty e i z size bytes ht hi hz hsize hby hzs hsz v n xs hown ad m c news hr.1 hcells h1 h63 hbytes hbase
    exact ⟨v', w', hrun, h2, h3, h5⟩
theorem wp_append_any {o : Oper} {a : Act} {K : Act → World → Prop} {Q : Exit → Act → World → Prop} (s x : Operand) (t : TypeId)
    (ho : o.op = .call { callee := .builtin .append, args := #[s, x], argTypes := #[t, t] })
    (base : Nat) (e : TypeId) (i : TypeInfo) (z : Value) (size bytes : Nat) (ht : P.underlying t = some (.slice e)) (hi : P.info? e = some i) (hz : i.zero = some z)
    (hsize : i.size = size) (hby : i.bytes = bytes) (hzs : z.cells.size = size) (hsz : 0 < size)
    (v : Value) (n : Nat) (xs : List Value) (hs : a.eval s = v) (hown : w.ownsRow base e size v n xs)
    (B : Nat) (A : Option Addr) (m c : Nat) (news : List Value) (hx : a.eval x = .slice A m c) (hr : Reads w B size A m news) (h1 : ∀ u ∈ news, u.oneCell' = true)
    (h63 : n + m ≤ maxLen) (hbytes : (n + m) * bytes ≤ 140737488355328) (hbase : base ≤ w.heap.size)
    (h : ∀ v' w', w'.ownsRow base e size v' (n + m) (xs ++ news) → w.grownBy w' v.ownBlock → (v'.ownBlock = v.ownBlock ∨ v'.ownBlock = some w.heap.size) → K (a.put o.dst v') w') : o.wp P a w K Q := by
  obtain ⟨v', w', hrun, h2, h3, h4⟩ := run_append_any (P := P) w base t o.type e i z size bytes ht hi hz hsize hby hzs hsz v n xs hown B A m c news hr h1 h63 hbytes hbase
  unfold Oper.wp execOp
  simp only [ho, resolve, invoke, builtin, Sem.run_bind, Sem.run_pure, Result.andThen_ok, List.map_toArray, List.map_cons, List.map_nil, hs, hx, hrun]
  exact h v' w' h2 h3 h4
theorem wpList_append_any {ops : Array Oper} {rest : List Oper} {o : Oper} {a : Act} {Q : Exit → Act → World → Prop} (hgd : o.guard = none) (s x : Operand) (t : TypeId)
    (ho : o.op = .call { callee := .builtin .append, args := #[s, x], argTypes := #[t, t] })
    (base : Nat) (e : TypeId) (i : TypeInfo) (z : Value) (size bytes : Nat) (ht : P.underlying t = some (.slice e)) (hi : P.info? e = some i) (hz : i.zero = some z)
    (hsize : i.size = size) (hby : i.bytes = bytes) (hzs : z.cells.size = size) (hsz : 0 < size)
    (v : Value) (n : Nat) (xs : List Value) (hs : a.eval s = v) (hown : w.ownsRow base e size v n xs)
    (B : Nat) (A : Option Addr) (m c : Nat) (news : List Value) (hx : a.eval x = .slice A m c) (hr : Reads w B size A m news) (h1 : ∀ u ∈ news, u.oneCell' = true)
    (h63 : n + m ≤ maxLen) (hbytes : (n + m) * bytes ≤ 140737488355328) (hbase : base ≤ w.heap.size)
    (h : ∀ v' w', w'.ownsRow base e size v' (n + m) (xs ++ news) → w.grownBy w' v.ownBlock → (v'.ownBlock = v.ownBlock ∨ v'.ownBlock = some w.heap.size) → wpList P ops Q rest (a.put o.dst v') w') : wpList P ops Q (o :: rest) a w :=
  wpList_plain hgd fun _ hK => wp_append_any w s x t ho base e i z size bytes ht hi hz hsize hby hzs hsz v n xs hs hown B A m c news hx hr h1 h63 hbytes hbase fun v' w' h2 h3 h4 => hK _ _ (h v' w' h2 h3 h4)
end
/-- The cells of bytes. -/
def u8s (l : List UInt8) : List Value := l.map fun b => .int .u8 (b.toNat : Int)
theorem u8s_length (l : List UInt8) : (u8s l).length = l.length := by simp [u8s]
theorem u8s_get (l : List UInt8) (i : Nat) : (u8s l)[i]? = l[i]?.map fun b => .int .u8 (b.toNat : Int) := by simp [u8s]
theorem u8s_drop (l : List UInt8) (i : Nat) : u8s (l.drop i) = (u8s l).drop i := by simp [u8s, List.map_drop]
theorem u8s_take (l : List UInt8) (i : Nat) : u8s (l.take i) = (u8s l).take i := by simp [u8s, List.map_take]
theorem u8s_one (l : List UInt8) : ∀ u ∈ u8s l, u.oneCell' = true := by
  intro u hu
  simp only [u8s, List.mem_map] at hu
  obtain ⟨b, _, rfl⟩ := hu
  rfl
theorem bounds_u8' {n : Int} (h : (Lit.int .u8 n).wf = true) : 0 ≤ n ∧ n ≤ 255 := by
  simp [Lit.wf, IntKind.min, IntKind.max, IntKind.signed, IntKind.bits] at h
  omega
/-- A slice of bytes that reads as the list l, below block B. -/
abbrev Byt (w : World) (B : Nat) (A : Option Addr) (l : List UInt8) : Prop := Reads w B 1 A l.length (u8s l)
theorem Reads.at_byte {w : World} {B : Nat} {A : Option Addr} {l : List UInt8} (h : Byt w B A l) {k : Nat} (hk : k < l.length) :
    ∃ ad, A = some ad ∧ ad.block < B ∧ w.cell? (ad.add k) = some (.int .u8 (l[k].toNat : Int)) := by
  obtain ⟨ad, u, e, hb, hx, hc⟩ := h.at_ hk
  rw [u8s_get, List.getElem?_eq_getElem hk] at hx
  simp only [Option.map_some, Option.some.injEq] at hx
  exact ⟨ad, e, hb, by rw [hc, ← hx]⟩
theorem Reads.take_ {w : World} {B : Nat} {A : Option Addr} {l : List UInt8} (h : Byt w B A l) (k : Nat) : Byt w B A (l.take k) := by
  refine ⟨by simp [u8s_length], fun hn => ?_⟩
  obtain ⟨ad, e, hb, hc⟩ := h.2 (by simp at hn; omega)
  refine ⟨ad, e, hb, fun j u hu => hc j u ?_⟩
  rw [u8s_take, List.getElem?_take] at hu
  split at hu
  · exact hu
  · cases hu
theorem Reads.cut_ {w : World} {B : Nat} {A : Option Addr} {l : List UInt8} (h : Byt w B A l) {k cap : Nat} (hk : k ≤ l.length) (hc : l.length ≤ cap) :
    Byt w B (if cap = k then A else A.map (·.add k)) (l.drop k) := by
  have := h.cut hk hc
  unfold Byt
  rw [u8s_drop, List.length_drop]
  simpa using this
theorem Blk.cellAdd {w : World} {g : Nat} {t : TypeId} {cs : Array Value} (h : Blk w g t cs) (i : Nat) : w.cell? ((⟨g, 0, none⟩ : Addr).add i) = cs[i]? := by
  rw [← h.cell i]
  unfold Addr.add
  split
  · rename_i e; rw [e]
  · simp
theorem Blk.byt {w : World} {B g : Nat} {t : TypeId} {cs : Array Value} (h : Blk w g t cs) (hB : g < B) {l : List UInt8} (hl : cs.toList.take l.length = u8s l) : Byt w B (some ⟨g, 0, none⟩) l := by
  refine ⟨by simp [u8s_length], fun _ => ⟨_, rfl, hB, fun j u hu => ?_⟩⟩
  rw [h.cellAdd, ← hu, ← hl, List.getElem?_take]
  have hj : j < l.length := by
    have := (List.getElem?_eq_some_iff.1 hu).1
    simpa [u8s_length] using this
  rw [if_pos hj]
  simp
theorem add_lit (x : Addr) {k : Nat} (hk : 0 < k) : x.add k = ⟨x.block, x.off + k, none⟩ := by unfold Addr.add; rw [if_neg (by omega)]
/-- What the shell tells of a slice of bytes that came in. -/
theorem bytes_of {w : World} {a : Option Addr} {len cap : Nat} {z : List Int}
    (h : (a = none ∧ len = 0 ∧ cap = 0 ∧ z = []) ∨ ∃ x, a = some x ∧ len ≤ cap ∧ cap ≤ maxLen ∧ z.length = cap ∧ (∀ i, i < z.length → w.cell? (x.add i) = some (.int .u8 (z.getD i 0))) ∧ ∀ n ∈ z, (Lit.int .u8 n).wf = true) :
    ∃ l : List UInt8, len = l.length ∧ l.length ≤ cap ∧ cap ≤ 9223372036854775807 ∧ Byt w w.heap.size a l := by
  rcases h with ⟨rfl, rfl, rfl, rfl⟩ | ⟨x, rfl, h1, h2, h3, h4, h5⟩
  · exact ⟨[], rfl, Nat.le_refl _, by omega, by unfold Byt; exact Reads.none_⟩
  · refine ⟨(z.take len).map fun n => UInt8.ofNat n.toNat, by simp; omega, by simp; omega, by unfold maxLen at h2; omega, ⟨by simp [u8s_length], fun hn => ⟨x, rfl, ?_, ?_⟩⟩⟩
    · have hl : 0 < z.length := by simp at hn; omega
      have := World.block_lt_of_cell? w _ (h4 0 hl)
      rwa [block_of_add] at this
    · intro j u hu
      rw [u8s_get, List.getElem?_map] at hu
      by_cases hj : j < len
      · have hj2 : j < z.length := by omega
        have hw := h5 z[j] (List.getElem_mem _)
        have hb : 0 ≤ z[j] ∧ z[j] ≤ 255 := bounds_u8' hw
        rw [List.getElem?_take, if_pos hj, List.getElem?_eq_getElem hj2] at hu
        simp only [Option.map_some, Option.some.injEq] at hu
        rw [h4 j hj2, ← hu, List.getD_eq_getElem?_getD, List.getElem?_eq_getElem hj2]
        simp only [Option.getD_some, UInt8.toNat_ofNat', Option.some.injEq, Value.int.injEq, true_and]
        omega
      · rw [List.getElem?_take, if_neg hj] at hu
        cases hu
/-- 'string(b)'. -/
theorem run_str {P : Program} {w : World} {B : Nat} {A : Option Addr} {l : List UInt8} (h : Byt w B A l) (src dst e : TypeId) (hs : P.underlying src = some (.slice e)) (he : P.underlying e = some (.int .u8)) (hd : P.underlying dst = some .string) (n c : Nat) (hn : n = l.length) :
    (convert src dst (.slice A n c)).run P w = .ok (.string ⟨l.toArray⟩) w := by
  subst hn
  rcases A with _ | ad
  · have hl : l = [] := by
      rcases Nat.eq_zero_or_pos l.length with h0 | h0
      · exact List.eq_nil_of_length_eq_zero h0
      · obtain ⟨ad, e, _⟩ := h.2 h0
        cases e
    subst hl
    exact run_convert_bytes_nil w src e hs he _ _ dst hd
  · refine run_convert_bytes_back w src dst e ad c l hs he hd (fun j hj => ?_)
    obtain ⟨ad', e1, _, hc⟩ := h.at_byte hj
    injection e1 with e1
    subst e1
    exact hc
/-- A row of bytes of the call's own. -/
theorem own_empty (w : World) (e : TypeId) : (w.alloc (.cells #[] e)).ownsRow w.heap.size e 1 (.slice (some ⟨w.heap.size, 0, none⟩) 0 0) 0 [] := by
  have := World.ownsRow_made (base := w.heap.size) (e := e) (size := 1) w #[] 0 (Nat.le_refl _) (by unfold maxLen; omega) rfl
  simpa using this
theorem own_slice {w : World} {B : Nat} {e : TypeId} {size n : Nat} {v : Value} {xs : List Value} (h : w.ownsRow B e size v n xs) : ∃ A c, v = .slice A n c ∧ n ≤ c ∧ c ≤ 9223372036854775807 := by
  rcases h.2 with ⟨rfl, rfl⟩ | ⟨g, cap, cur, rfl, _, _, h1, h2, _⟩
  · exact ⟨_, _, rfl, Nat.le_refl _, by omega⟩
  · exact ⟨_, _, rfl, h1, by unfold maxLen at h2; omega⟩
theorem info_parts3 {P : Program} {e : TypeId} {z : Value} {s b : Nat} (h : (P.info? e).map (fun i => (i.zero, i.size, i.bytes)) = some (some z, s, b)) : ∃ i, P.info? e = some i ∧ i.zero = some z ∧ i.size = s ∧ i.bytes = b := by
  cases hp : P.info? e with
  | none => rw [hp] at h; cases h
  | some i => rw [hp] at h; simp at h; exact ⟨i, rfl, h.1, h.2.1, h.2.2⟩
theorem quiet_left {P : Program} {f : FuncId} {args : Array Value} {w : World} {n : Nat} {v : Value}
    (h : Calls P f args (w.drewN n) fun e w' => e = .returned v ∧ w.drewN n = w') : Calls P f args (w.drewN n) fun e w'' => e = .returned v ∧ ∃ m, w'' = w.drewN m :=
  h.mono fun _ _ ⟨he, hm⟩ => ⟨he, n, hm.symm⟩
theorem below_drewN {B : Nat} {a w : World} (h : Below B a w) (n : Nat) : Below B a (w.drewN n) := ⟨h.os, h.tape, h.output, h.size, h.block⟩
theorem run_make_rowN {P : Program} (t e : TypeId) (i : TypeInfo) (z : Value) (ht : P.underlying t = some (.slice e)) (hi : P.info? e = some i) (hz : i.zero = some z)
    (kl kc : IntKind) (n c : Nat) (hnc : n ≤ c) (hbytes : i.bytes * c ≤ 281474976710656) (h63 : c ≤ 9223372036854775807) (w : World) :
    (Instr.makeSlice t (.int kl (n : Int)) (.int kc (c : Int))).run P w = .ok (.slice (some ⟨w.heap.size, 0, none⟩) n c) (w.alloc (.cells (madeCells z.cells (c * i.size)) e)) := by
  have hb : (i.bytes : Int) * (c : Int) ≤ 281474976710656 := by
    have h : ((i.bytes * c : Nat) : Int) ≤ 281474976710656 := by omega
    rwa [Int.natCast_mul] at h
  have hr := run_make (P := P) w t e i z ht hi hz kl kc n c (by omega) (by omega) hb (by omega)
  simp only [Int.toNat_natCast] at hr
  exact hr
theorem own_zeros (w : World) (B n : Nat) (e : TypeId) (hB : B ≤ w.heap.size) (hn : n ≤ maxLen) :
    (w.alloc (.cells (madeCells #[.int .u8 0] n) e)).ownsRow B e 1 (.slice (some ⟨w.heap.size, 0, none⟩) n n) n (u8s (List.replicate n 0)) := by
  have h := World.ownsRow_lit (base := B) (e := e) (size := 1) w (madeCells #[.int .u8 0] n) n hB hn (by simp [madeCells])
  rw [toList_madeCells_one] at h
  simpa [u8s] using h
end Go.Proofs.Ytioddokjogbmnaa.Words

set_option linter.unusedVariables false
set_option linter.unusedSimpArgs false
namespace Go.Proofs.Ytioddokjogbmnaa.Oct
open Go.RowKit Go.Proofs.Ytioddokjogbmnaa.Words
def byteAt (v m : Nat) : UInt8 := UInt8.ofNat (v / 2 ^ (8 * m))
/-- The last n bytes of v, the most significant first. -/
def be (v n : Nat) : List UInt8 := (List.range n).map fun d => byteAt v (n - 1 - d)
/-- The number of bytes, the most significant first. -/
def num (l : List UInt8) : Nat := l.foldl (fun v x => 256 * v + x.toNat) 0
end Go.Proofs.Ytioddokjogbmnaa.Oct

set_option linter.unusedVariables false
set_option linter.unusedSimpArgs false
namespace Go.Proofs.Ytioddokjogbmnaa.Par
open Go.RowKit Go.Proofs.Ytioddokjogbmnaa.Words Go.Proofs.Ytioddokjogbmnaa.Oct
/-- A parameter: its kind and its value. -/
abbrev Prm := Nat × List UInt8
def padC (n : Nat) : Nat := (4 - n % 4) % 4
def encP (p : Prm) : List UInt8 := be p.1 2 ++ (be (p.2.length + 4) 2 ++ (p.2 ++ List.replicate (padC p.2.length) 0))
def encL (ls : List Prm) : List UInt8 := (ls.map encP).flatten
/-- How long a list is as bytes, at most. -/
def sizeL (ls : List Prm) : Nat := (ls.map fun p => 4 + p.2.length).sum
/-- The first parameter of bytes, and how many bytes it has. -/
def one (b : List UInt8) : Except Nat (Prm × Nat) :=
  if b.length < 4 then .error 40 else
  if num ((b.drop 2).take 2) < 4 then .error 42 else
  if b.length < (num ((b.drop 2).take 2) + 3) / 4 * 4 then .error 40 else
  if ((b.drop (num ((b.drop 2).take 2))).take ((num ((b.drop 2).take 2) + 3) / 4 * 4 - num ((b.drop 2).take 2))).any (· != 0) then .error 42
  else .ok ((num (b.take 2), (b.drop 4).take (num ((b.drop 2).take 2) - 4)), (num ((b.drop 2).take 2) + 3) / 4 * 4)
end Go.Proofs.Ytioddokjogbmnaa.Par
