import Derived.Test.YtgbkmnmkejcogaaSpanAdd
set_option linter.unusedVariables false
set_option linter.unusedSimpArgs false
namespace Go.Proofs.Ytgbkmnmkejcogaa.Span
open Go.ChangeShapes Go.WideShapes Go.ChangeAt Go.RowKit Go.Proofs.Ytgbkmnmkejcogaa.Ser

/-- How far Skip moves the mark by itself. -/
def skipS (d : Nat) : Nat := if okB d = true then d else 0
/-- What Skip leaves. -/
def Skipped (w : World) (B p : Nat) (v : Value) (M : Int) (rs : List (Nat × Nat)) (d : Nat) (e : Ending) (w' : World) : Prop :=
  ∃ v' k rs', e = .returned (.bool (okB d)) ∧ SetAt w' B p v' (adr M (skipS d + k)) rs' ∧ Gp 2 rs' ∧ Adv (fun x => knB rs (x + skipS d)) k (knB rs') ∧ k ≤ 4096 ∧ Turned w w' p v v'

theorem find_succ {w : World} {B p d : Nat} {v : Value} {M : Int} {rs : List (Nat × Nat)} {lo : Nat} (h : SetAt w B p v M rs) (hg : Gp lo rs) (hd : d + 1 < 4294967296) :
    Calls Try.prog 33 #[ptr p, .int .u32 ((adr M d + 1) % 4294967296)] w fun e w' => Found rs (d + 1) e ∧ Below w.heap.size w w' := by
  rw [adr_succ]
  exact find_any h hg hd

/-- Behind Delete and the two stores: the set, seen from the new mark. -/
theorem skip_set {w w3 : World} {B p d : Nat} {v v' : Value} {M : Int} {Z : List (Nat × Nat)} {W : World} (HT : Turned w W p v v) (hp : B ≤ p) (hb : Blk W p 66 #[.int .u32 M, v]) (hne : v.ownBlock ≠ some p)
    (own3 : w3.ownsRow B 71 2 v' Z.length (flat M Z)) (hg3 : W.grownBy w3 v.ownBlock) (hv3 : v'.ownBlock = v.ownBlock) (hG : Gp (d + 1) Z) :
    SetAt ((w3.setCell ⟨p, 1, none⟩ v').setCell ⟨p, 0, none⟩ (.int .u32 (adr M d))) B p v' (adr M d) (shl d Z) ∧ Gp 1 (shl d Z) ∧ (∀ x, knB (shl d Z) x = knB Z (x + d)) ∧ Turned w ((w3.setCell ⟨p, 1, none⟩ v').setCell ⟨p, 0, none⟩ (.int .u32 (adr M d))) p v v' := by
  refine ⟨⟨hp, adr_bd _ _, ((hb.grown hg3 (fun e => hne e.symm)).set_ 1 v').set_ 0 _, ?_⟩, gp_shl (lo := 1) hG, fun x => knB_shl (lo := 1) hG x (Nat.le_refl _), ((HT.trans (Turned.of_grown hg3 (.inl hv3))).trans (Turned.of_set _ p 1 _ _)).trans (Turned.of_set _ p 0 _ _)⟩
  rw [shl_length, flat_shl M d Z (fun s hs => by have := hG.2 s hs; omega)]
  have o1 : (w3.setCell ⟨p, 1, none⟩ v').ownsRow B 71 2 v' Z.length (flat M Z) := own3.kept (grownBy_set _ p 1 _) (.inr (by rw [hv3]; exact hne))
  exact o1.kept (grownBy_set _ p 0 _) (.inr (by rw [hv3]; exact hne))

theorem del_head {w1 : World} {B i : Nat} {v : Value} {M : Int} {X Y : List (Nat × Nat)} (own : w1.ownsRow B 71 2 v (X ++ Y).length (flat M (X ++ Y))) (hi : i = X.length) (hl : (X ++ Y).length ≤ 4097) :
    Calls Try.prog 35 #[v, .int .i64 0, .int .i64 (i : Int)] w1 (Deleted w1 B v Y.length (flat M Y)) := by
  subst hi
  exact delete_core (i := 0) (j := X.length) own (flat_one M _) (by omega) (by simp) (by omega) ⟨by simp, by rw [flat_drop]; simp⟩

set_option maxHeartbeats 1000000 in
theorem skip_any {w : World} {B p d : Nat} {v : Value} {M : Int} {rs : List (Nat × Nat)} (h : SetAt w B p v M rs) (hg : Gp 2 rs) (hd : d < 4294967296) :
    Calls Try.prog 17 #[ptr p, .int .u32 (adr M d)] w (Skipped w B p v M rs d) := by
  have hM := h.hM
  have h0 := h.mark
  have HS := Lib.hid h
  have HG := Lib.hid hg
  have hf := less_from M d hM hd w
  cases hok : decide (1 ≤ d ∧ d < 2147483648)
  · have HR : Hid (Skipped w B p v M rs d (.returned (.bool false)) w) := by
      have e : okB d = false := hok
      refine ⟨v, 0, rs, by rw [e], ?_, hg, ?_, by omega, Turned.refl w p v⟩
      · unfold skipS; rw [e]; simp; rw [adr_zero M hM]; exact h
      · unfold skipS; rw [e]; simp; exact ⟨fun j h1 h2 => by omega, kn_far hg (by omega), fun x _ => rfl⟩
    rw [hok] at hf
    have HL := Lib.hid hf
    clear h hg hf hok
    go_enter Try.func17, Try.ntmps17
    go_wp2_with (go_at_call 32; refine HL.out.mono ?_; rintro e w1 ⟨rfl, rfl⟩)
    go_ret
    exact HR.out
  · rw [hok] at hf
    have HL := Lib.hid hf
    have hokd := of_decide_eq_true hok
    have HOK : Hid (okB d = true) := hok
    obtain ⟨a0, n, cap, rfl, hn⟩ := h.form
    have hl := gp_len hg
    rw [← hn] at hl
    have HN := Lib.hid hn
    clear h hg hf hok hn
    go_enter Try.func17, Try.ntmps17
    go_wp2_with fail
    refine HL.out.mono ?_
    rintro e w0 ⟨rfl, rfl⟩
    go_wp2_with fail
    refine (find_succ HS.out HG.out (by omega)).mono ?_
    rintro e w1 ⟨⟨X, Y, hs, rfl⟩, hb1⟩
    have HS1 := Lib.hid (HS.out.below hb1)
    have HT1 := Lib.hid (Turned.of_below hb1 p (.slice a0 n cap))
    have HX := Lib.hid hs
    clear hb1 hs
    go_wp2_with fail
    refine (covers_any HS1.out HG.out HX.out (Nat.le_succ d)).mono ?_
    rintro e w2 ⟨rfl, hb2⟩
    have HS2 := Lib.hid (HS1.out.below hb2)
    have HT2 := Lib.hid (HT1.out.trans (Turned.of_below hb2 p (.slice a0 n cap)))
    clear hb2
    have h1 := HS2.out.rows
    have hf0 := HS2.out.blk.frozen 0
    have hf1 := HS2.out.blk.frozen 1
    have hrs := HX.out.1
    subst hrs
    obtain ⟨i, hi⟩ : ∃ i, i = X.length := ⟨_, rfl⟩
    rw [← hi]
    have hne := HS2.out.ne
    have HNE := Lib.hid hne
    clear hne
    cases hcv : covB Y d
    · have hsk := skip_plain HG.out HX.out hcv
      have HSK := Lib.hid hsk
      have C := Lib.hid (del_head HS2.out.own hi (by rw [← HN.out]; exact hl))
      clear hi hcv hsk
      go_wp2_with fail
      refine C.out.mono ?_
      rintro e w3 ⟨v', rfl, own3, hg3, hv3⟩
      obtain ⟨a', cap', rfl⟩ := own_slice own3
      obtain ⟨n', hn'⟩ : ∃ n', n' = Y.length := ⟨_, rfl⟩
      have hss := skip_set HT2.out HS2.out.hp HS2.out.blk HNE.out own3 hg3 hv3 HSK.out.1
      rw [← hn'] at hss ⊢
      have hbx := HS2.out.blk.grown hg3 (fun e => HNE.out e.symm)
      have k1 := hbx.cell 1
      have k2 := hbx.frozen 1
      have k3 := hbx.cell 0
      have k4 := hbx.frozen 0
      have HSS := Lib.hid hss
      clear own3 hg3 hv3 hn' hbx hss
      go_wp2_with fail
      refine (advance_any HSS.out.1 HSS.out.2.1).mono ?_
      rintro e w4 ⟨k, v4, rs4, rfl, hs4, hg4, ha4, hk4, ht4⟩
      have HR : Hid (Skipped w B p (.slice a0 n cap) M (X ++ Y) d (.returned (.bool true)) w4) := by
        have es : skipS d = d := by unfold skipS; rw [HOK.out]; rfl
        refine ⟨v4, k, rs4, by rw [HOK.out], by rw [es, ← adr_adr]; exact hs4, hg4, ?_, hk4, HSS.out.2.2.2.trans ht4⟩
        rw [es]
        exact adv_congr ha4 (fun x hx => by rw [HSS.out.2.2.1]; exact HSK.out.2 x hx)
      clear hs4 hg4 ha4 hk4 ht4
      go_wp2
      go_ret
      exact HR.out
    · cases Y with
      | nil => cases hcv
      | cons y Y =>
        have hyd : y.1 ≤ d := by simpa [covB] using hcv
        have hsk := skip_cut HG.out HX.out hyd hokd.1
        have HSK := Lib.hid hsk
        have hin : i < (X ++ y :: Y).length := by rw [hi]; simp
        obtain ⟨g, rfl, hbg, hgl, c0, c1⟩ := HS2.out.atn hin
        have hgy : (X ++ y :: Y)[i] = y := by subst hi; simp
        rw [hgy] at c0 c1
        rw [← HN.out] at hin
        have hgp : ¬ g = p := fun e => HNE.out (by simp [Value.ownBlock, e])
        have hpg : ¬ p = g := fun e => hgp e.symm
        have own2 := HS2.out.own
        rw [← HN.out] at own2
        have f1 := own2.frozenAt (i * 2)
        have st := own2.stored (i * 2) (.int .u32 ((adr M d + 1) % 4294967296))
        rw [adr_succ, hi, flat_set1, ← hi, ← adr_succ] at st
        have hlen : n = (X ++ (d + 1, y.2) :: Y).length := by rw [HN.out]; simp
        have hs3 : SetAt (w2.setCell ⟨g, i * 2, none⟩ (.int .u32 ((adr M d + 1) % 4294967296))) B p (.slice (some ⟨g, 0, none⟩) n cap) M (X ++ (d + 1, y.2) :: Y) :=
          ⟨HS2.out.hp, hM, HS2.out.blk.far hpg _, by rw [← hlen]; exact st.1⟩
        have HS3 := Lib.hid hs3
        have C := Lib.hid (del_head hs3.own hi (by rw [← hlen]; exact hl))
        have HTW : Hid (Turned w (w2.setCell ⟨g, i * 2, none⟩ (.int .u32 ((adr M d + 1) % 4294967296))) p (.slice (some ⟨g, 0, none⟩) n cap) (.slice (some ⟨g, 0, none⟩) n cap)) := HT2.out.trans (Turned.of_grown (grownBy_set w2 g (i * 2) _) (.inl rfl))
        clear hi hcv hsk hyd hgy own2 st hlen hs3
        go_wp2_with fail
        refine C.out.mono ?_
        rintro e w3 ⟨v', rfl, own3, hg3, hv3⟩
        obtain ⟨a', cap', rfl⟩ := own_slice own3
        obtain ⟨n', hn'⟩ : ∃ n', n' = ((d + 1, y.2) :: Y).length := ⟨_, rfl⟩
        have hss := skip_set HTW.out HS3.out.hp HS3.out.blk HNE.out own3 hg3 hv3 HSK.out.1
        rw [← hn'] at hss ⊢
        have hbx := HS3.out.blk.grown hg3 (fun e => HNE.out e.symm)
        have k1 := hbx.cell 1
        have k2 := hbx.frozen 1
        have k3 := hbx.cell 0
        have k4 := hbx.frozen 0
        have HSS := Lib.hid hss
        clear own3 hg3 hv3 hn' hbx hss
        go_wp2_with fail
        refine (advance_any HSS.out.1 HSS.out.2.1).mono ?_
        rintro e w4 ⟨k, v4, rs4, rfl, hs4, hg4, ha4, hk4, ht4⟩
        have HR : Hid (Skipped w B p (.slice (some ⟨g, 0, none⟩) n cap) M (X ++ y :: Y) d (.returned (.bool true)) w4) := by
          have es : skipS d = d := by unfold skipS; rw [HOK.out]; rfl
          refine ⟨v4, k, rs4, by rw [HOK.out], by rw [es, ← adr_adr]; exact hs4, hg4, ?_, hk4, HSS.out.2.2.2.trans ht4⟩
          rw [es]
          exact adv_congr ha4 (fun x hx => by rw [HSS.out.2.2.1]; exact HSK.out.2 x hx)
        clear hs4 hg4 ha4 hk4 ht4
        go_wp2
        go_ret
        exact HR.out
end Go.Proofs.Ytgbkmnmkejcogaa.Span
