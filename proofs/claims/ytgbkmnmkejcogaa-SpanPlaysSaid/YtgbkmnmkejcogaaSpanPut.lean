import Derived.Test.YtgbkmnmkejcogaaSpanAdv
import Derived.BigRegion
set_option linter.unusedVariables false
set_option linter.unusedSimpArgs false
namespace Go.Proofs.Ytgbkmnmkejcogaa.Span
open Go.ChangeShapes Go.WideShapes Go.ChangeAt Go.RowKit Go.Proofs.Ytgbkmnmkejcogaa.Ser

/-- What put leaves. -/
def Put (w : World) (B p : Nat) (v : Value) (M : Int) (rs : List (Nat × Nat)) (d : Nat) (e : Ending) (w' : World) : Prop :=
  ∃ v' rs', e = .returned (.tuple #[]) ∧ SetAt w' B p v' M rs' ∧ Gp 1 rs' ∧ (∀ x, knB rs' x = (knB rs x || decide (x = d))) ∧ Turned w w' p v v'

theorem put_fin {w W w3 : World} {B p d : Nat} {v v' : Value} {M : Int} {rs rs' : List (Nat × Nat)} (HT : Turned w W p v v) (hp : B ≤ p) (hM : 0 ≤ M ∧ M ≤ 4294967295) (hb : Blk W p 66 #[.int .u32 M, v]) (hne : v.ownBlock ≠ some p)
    (own3 : w3.ownsRow B 71 2 v' rs'.length (flat M rs')) (hg3 : W.grownBy w3 v.ownBlock) (hv3 : v'.ownBlock = v.ownBlock ∨ v'.ownBlock = some W.heap.size)
    (hG : Gp 1 rs' ∧ ∀ x, knB rs' x = (knB rs x || decide (x = d))) : Put w B p v M rs d (.returned (.tuple #[])) (w3.setCell ⟨p, 1, none⟩ v') := by
  refine ⟨v', rs', rfl, ⟨hp, hM, (hb.grown hg3 (fun e => hne e.symm)).set_ 1 v', own3.kept (grownBy_set _ p 1 _) (.inr ?_)⟩, hG.1, hG.2, (HT.trans (Turned.of_grown hg3 hv3)).trans (Turned.of_set _ p 1 _ _)⟩
  rcases hv3 with e | e
  · rw [e]; exact hne
  · rw [e]; intro e2; injection e2 with e2; have := hb.lt; omega

theorem put_fin2 {w w1 : World} {B p d g j n cap : Nat} {u : Value} {M : Int} {rs rs' : List (Nat × Nat)} (HT : Turned w w1 p (.slice (some ⟨g, 0, none⟩) n cap) (.slice (some ⟨g, 0, none⟩) n cap)) (h : SetAt w1 B p (.slice (some ⟨g, 0, none⟩) n cap) M rs)
    (hn : rs.length = n) (hl : rs'.length = n) (hf : (flat M rs).set j u = flat M rs')
    (hG : Gp 1 rs' ∧ ∀ x, knB rs' x = (knB rs x || decide (x = d))) : Put w B p (.slice (some ⟨g, 0, none⟩) n cap) M rs d (.returned (.tuple #[])) (w1.setCell ⟨g, j, none⟩ u) := by
  have own := h.own
  rw [hn] at own
  have st := own.stored j u
  rw [hf, ← hl] at st
  have hgp : p ≠ g := fun e => h.ne (by simp [Value.ownBlock, e])
  refine ⟨_, rs', rfl, ⟨h.hp, h.hM, h.blk.far hgp u, by rw [hl]; rw [hl] at st; exact st.1⟩, hG.1, hG.2, HT.trans (Turned.of_grown ?_ (.inl rfl))⟩
  exact st.2

theorem SetAt.form {w : World} {B p : Nat} {v : Value} {M : Int} {rs : List (Nat × Nat)} (h : SetAt w B p v M rs) : ∃ a n cap, v = .slice a n cap ∧ n = rs.length := by
  obtain ⟨a, cap, rfl⟩ := own_slice h.own
  exact ⟨_, _, _, rfl, rfl⟩
theorem SetAt.atn {w : World} {B p n cap : Nat} {a0 : Option Addr} {M : Int} {rs : List (Nat × Nat)} (h : SetAt w B p (.slice a0 n cap) M rs) {k : Nat} (hk : k < rs.length) :
    ∃ g, a0 = some ⟨g, 0, none⟩ ∧ B ≤ g ∧ g < w.heap.size ∧ w.cell? ⟨g, k * 2, none⟩ = some (.int .u32 (adr M rs[k].1)) ∧ w.cell? ⟨g, k * 2 + 1, none⟩ = some (.int .u32 (adr M rs[k].2)) := by
  obtain ⟨g, c, hv, h1, h2, h3, h4⟩ := h.at_ hk
  injection hv with e _ _
  exact ⟨g, e, h1, h2, h3, h4⟩

theorem nil_or_snoc {α : Type} (X : List α) : X = [] ∨ ∃ X0 a, X = X0 ++ [a] := by
  rcases List.eq_nil_or_concat X with h | ⟨X0, a, h⟩
  · exact .inl h
  · exact .inr ⟨X0, a, by simpa using h⟩

theorem ins_ct {w1 : World} {B p d i : Nat} {v : Value} {M : Int} {X Y : List (Nat × Nat)} (h : SetAt w1 B p v M (X ++ Y)) (hB : B ≤ w1.heap.size) (hi : i = X.length) (hl : (X ++ Y).length ≤ 4097) :
    Calls Try.prog 47 #[v, .int .i64 (i : Int), .slice (some ⟨w1.heap.size, 0, none⟩) 1 1] (w1.alloc (.cells #[.int .u32 (adr M d), .int .u32 (adr M d)] 71))
      (Inserted (w1.alloc (.cells #[.int .u32 (adr M d), .int .u32 (adr M d)] 71)) B v (X ++ (d, d) :: Y).length (flat M (X ++ (d, d) :: Y))) := by
  subst hi
  refine insert_any (T := 71) (h.own.alloc _) (heap_alloc_new w1 _) ?_ (by simp; omega) ⟨rfl, rfl⟩ (flat_one M _) (by omega) (by simp) ⟨by simp; omega, ?_⟩
  · intro e
    have := (h.own.lt _ e).2
    omega
  · rw [flat_take, flat_drop, flat_append]
    simp [flat]

theorem del_ct {w1 : World} {B p d k g n cap : Nat} {M : Int} {X Y : List (Nat × Nat)} {a y : Nat × Nat} (h : SetAt w1 B p (.slice (some ⟨g, 0, none⟩) n cap) M (X ++ [a] ++ y :: Y)) (hk : k = X.length) (hn : n = (X ++ [a] ++ y :: Y).length) (hl : n ≤ 4097) :
    Calls Try.prog 35 #[.slice (some ⟨g, 0, none⟩) n cap, .int .i64 ((k : Int) + 1), .int .i64 ((k : Int) + 1 + 1)] ((w1.setCell ⟨g, k * 2 + 1, none⟩ (.int .u32 (adr M y.2))).drew)
      (Deleted ((w1.setCell ⟨g, k * 2 + 1, none⟩ (.int .u32 (adr M y.2))).drew) B (.slice (some ⟨g, 0, none⟩) n cap) (X ++ (a.1, y.2) :: Y).length (flat M (X ++ (a.1, y.2) :: Y))) := by
  have own := h.own
  rw [← hn] at own
  have st := (own.stored (k * 2 + 1) (.int .u32 (adr M y.2))).1
  have e1 : (flat M (X ++ [a] ++ y :: Y)).set (k * 2 + 1) (.int .u32 (adr M y.2)) = flat M (X ++ (a.1, y.2) :: y :: Y) := by
    subst hk
    have := flat_set2 M y.2 a (y :: Y) X
    simpa using this
  rw [e1] at st
  have := delete_core (w := (w1.setCell ⟨g, k * 2 + 1, none⟩ (.int .u32 (adr M y.2))).drew) (i := k + 1) (j := k + 1 + 1) (m := (X ++ (a.1, y.2) :: Y).length) (ys := flat M (X ++ (a.1, y.2) :: Y)) st (flat_one M _) (by omega) (by rw [hn]; simp only [List.length_append, List.length_cons, List.length_nil]; omega) (by omega) ⟨by rw [hn]; simp only [List.length_append, List.length_cons, List.length_nil]; omega, by
    have f1 := flat_take M (X ++ [(a.1, y.2)]) (y :: Y)
    have f2 := flat_drop M (X ++ [(a.1, y.2), y]) Y
    simp only [List.length_append, List.length_cons, List.length_nil, List.append_assoc, List.cons_append, List.nil_append, ← hk] at f1 f2
    rw [f1, f2, ← flat_append]
    simp⟩
  exact this

set_option maxHeartbeats 2000000 in
theorem put_any {w : World} {B p d : Nat} {v : Value} {M : Int} {rs : List (Nat × Nat)} (h : SetAt w B p v M rs) (hg : Gp 2 rs) (hd : 1 ≤ d ∧ d ≤ 4096) (hk : knB rs d = false) (hB : B ≤ w.heap.size) :
    Calls Try.prog 43 #[ptr p, .int .u32 (adr M d)] w (Put w B p v M rs d) := by
  have HS := Lib.hid h
  have HG := Lib.hid hg
  have HK := Lib.hid hk
  have hl := gp_len hg
  have hM := h.hM
  obtain ⟨a0, n, cap, rfl, hn⟩ := h.form
  have HN := Lib.hid hn
  rw [← hn] at hl
  clear h hg hk hn
  go_enter Try.func43, Try.ntmps43
  go_wp2_with fail
  refine (find_any HS.out HG.out (by omega)).mono ?_
  rintro e w1 ⟨⟨X, Y, hs, rfl⟩, hb1⟩
  have hcov := (cov_knB HG.out hs).symm.trans HK.out
  have hrs := hs.1
  have HS1 := Lib.hid (HS.out.below hb1)
  have HT1 := Lib.hid (Turned.of_below hb1 p (.slice a0 n cap))
  have hB1 : B ≤ w1.heap.size := Nat.le_trans hB hb1.size
  have h1 := HS1.out.rows
  have hf0 := HS1.out.blk.frozen 0
  have hf1 := HS1.out.blk.frozen 1
  clear hb1 HS hB
  have HC := Lib.hid hcov
  clear hcov
  subst hrs
  have hn := HN.out
  have hpl := HS1.out.blk.lt
  rcases nil_or_snoc X with rfl | ⟨X0, a, rfl⟩
  · rcases Y with _ | ⟨y, Y⟩
    · have HP := Lib.hid (put_none HG.out hs HC.out hd (by simp) (by simp))
      obtain rfl : n = 0 := by simpa using hn
      simp only [List.length_nil]
      clear hn
      have C := Lib.hid (ins_ct (d := d) HS1.out hB1 (i := 0) rfl (by simp))
      clear hs
      go_wp2_with fail
      refine C.out.mono ?_
      rintro e w3 ⟨v', rfl, own3, hg3, hv3⟩
      obtain ⟨a', cap', rfl⟩ := own_slice own3
      obtain ⟨n', hn'⟩ : ∃ n', n' = (([] : List (Nat × Nat)) ++ (d, d) :: []).length := ⟨_, rfl⟩
      rw [← hn'] at own3 hv3 ⊢
      have hbb := ((HS1.out.blk : Blk w1 p 66 #[.int .u32 M, (.slice a0 0 cap)]))
      have hbw : Blk (w1.alloc (.cells #[.int .u32 (adr M d), .int .u32 (adr M d)] 71)) p 66 #[.int .u32 M, (.slice a0 0 cap)] := (Below.heap_alloc w1 _ p hpl).trans hbb
      have hbx := hbw.grown hg3 (fun e => HS1.out.ne e.symm)
      have k1 := hbx.cell 1
      have k2 := hbx.frozen 1
      have HO := Lib.hid own3
      have HG3 := Lib.hid hg3
      have HV3 := Lib.hid hv3
      have HN' := Lib.hid hn'
      have HBW := Lib.hid hbw
      clear own3 hg3 hv3 hn' hbw hbb hbx
      go_wp2
      go_end0
      rw [HN'.out] at HO HV3 ⊢
      exact put_fin (HT1.out.trans (Turned.of_below ((Below.refl _ _).alloc (Nat.le_refl _) _) p _)) HS1.out.hp HS1.out.hM HBW.out HS1.out.ne HO.out HG3.out HV3.out HP.out
    · obtain ⟨g, rfl, hbg, hgl, c0, c1⟩ := HS1.out.atn (k := 0) (by simp)
      simp only [List.nil_append, List.getElem_cons_zero, Nat.zero_mul] at c0 c1
      have hn1 : 0 < n := by rw [hn]; simp
      have hnz : decide (0 < n) = true := decide_eq_true hn1
      simp only [List.length_nil]
      by_cases hjn : d + 1 = y.1
      · have HP := Lib.hid (put_next HG.out hs hd (by simp) hjn)
        have e2 : ((adr M d + 1) % 4294967296 == adr M y.1) = true := by rw [← hjn]; simp [adr_succ]
        have HH : Hid (Put w B p (.slice (some ⟨g, 0, none⟩) n cap) M ([] ++ y :: Y) d (.returned (.tuple #[])) (w1.setCell ⟨g, 0, none⟩ (.int .u32 (adr M d)))) :=
          put_fin2 HT1.out HS1.out hn.symm (by rw [hn]; simp) (flat_set1 M d y Y []) HP.out
        have hgp : ¬ g = p := fun e => HS1.out.ne (by simp [Value.ownBlock, e])
        have hpg : ¬ p = g := fun e => hgp e.symm
        have f1 : w1.frozen? ⟨g, 0, none⟩ = false := by have := HS1.out.own; rw [← hn] at this; exact this.frozenAt _
        clear hn hs hjn
        go_wp2
        go_end0
        exact HH.out
      · have HP := Lib.hid (put_none HG.out hs HC.out hd (by simp) (by simpa using hjn))
        have e2 : ((adr M d + 1) % 4294967296 == adr M y.1) = false := by
          have hy := (gp_append.1 HG.out).2.1.2 y (by simp)
          rw [beq_eq_false_iff_ne, adr_succ]
          intro e
          exact hjn (adr_inj M _ _ (by omega) (by omega) e)
        have hlen := hn
        clear hn hjn
        have C := Lib.hid (ins_ct (d := d) HS1.out hB1 (i := 0) rfl (by rw [← HN.out]; exact hl))
        clear hs hlen
        go_wp2_with fail
        refine C.out.mono ?_
        rintro e w3 ⟨v', rfl, own3, hg3, hv3⟩
        obtain ⟨a', cap', rfl⟩ := own_slice own3
        obtain ⟨n', hn'⟩ : ∃ n', n' = (([] : List (Nat × Nat)) ++ (d, d) :: y :: Y).length := ⟨_, rfl⟩
        rw [← hn'] at own3 hv3 ⊢
        have hbb := ((HS1.out.blk : Blk w1 p 66 #[.int .u32 M, (.slice (some ⟨g, 0, none⟩) n cap)]))
        have hbw : Blk (w1.alloc (.cells #[.int .u32 (adr M d), .int .u32 (adr M d)] 71)) p 66 #[.int .u32 M, (.slice (some ⟨g, 0, none⟩) n cap)] := (Below.heap_alloc w1 _ p hpl).trans hbb
        have hbx := hbw.grown hg3 (fun e => HS1.out.ne e.symm)
        have k1 := hbx.cell 1
        have k2 := hbx.frozen 1
        have HO := Lib.hid own3
        have HG3 := Lib.hid hg3
        have HV3 := Lib.hid hv3
        have HN' := Lib.hid hn'
        have HBW := Lib.hid hbw
        clear own3 hg3 hv3 hn' hbw hbb hbx
        go_wp2
        go_end0
        rw [HN'.out] at HO HV3 ⊢
        exact put_fin (HT1.out.trans (Turned.of_below ((Below.refl _ _).alloc (Nat.le_refl _) _) p _)) HS1.out.hp HS1.out.hM HBW.out HS1.out.ne HO.out HG3.out HV3.out HP.out
  · obtain ⟨k, hk⟩ : ∃ k, k = X0.length := ⟨_, rfl⟩
    have hkl : (X0 ++ [a]).length = k + 1 := by simp [hk]
    rw [hkl]
    have hk1 : k < (X0 ++ [a] ++ Y).length := by rw [List.length_append, hkl]; omega
    obtain ⟨g, rfl, hbg, hgl, _, c1⟩ := HS1.out.atn hk1
    have hga : (X0 ++ [a] ++ Y)[k] = a := by subst hk; simp
    rw [hga] at c1
    have ha4 := (gp_append.1 HG.out).1.2 a (by simp)
    rw [← hn] at hk1
    have HKL := Lib.hid hk
    have hgp : ¬ g = p := fun e => HS1.out.ne (by simp [Value.ownBlock, e])
    have hpg : ¬ p = g := fun e => hgp e.symm
    have f1 : w1.frozen? ⟨g, k * 2 + 1, none⟩ = false := by have := HS1.out.own; rw [← hn] at this; exact this.frozenAt _
    have elast : ∀ b : Bool, decide (a.2 + 1 = d) = b → ((adr M a.2 + 1) % 4294967296 == adr M d) = b := by
      intro b hb
      subst hb
      rw [adr_succ, Bool.eq_iff_iff, beq_iff_eq, decide_eq_true_eq]
      exact ⟨fun e => adr_inj M _ _ (by omega) (by omega) e, fun e => by rw [e]⟩
    have EL := Lib.hid elast
    clear elast
    rcases Y with _ | ⟨y, Y⟩
    · have hnk : n = k + 1 := by rw [hn, List.append_nil, hkl]
      have hc2 : decide ((k : Int) + 1 < (n : Int)) = false := by rw [hnk]; simp
      have hc2' : decide (k + 1 < n) = false := by rw [hnk]; simp
      have HNK := Lib.hid hnk
      by_cases hjl : a.2 + 1 = d
      · have HP := Lib.hid (put_last HG.out hs HC.out hd hjl (by simp))
        have e1 := EL.out _ (decide_eq_true hjl)
        have HH : Hid (Put w B p (.slice (some ⟨g, 0, none⟩) n cap) M (X0 ++ [a] ++ []) d (.returned (.tuple #[])) (w1.setCell ⟨g, k * 2 + 1, none⟩ (.int .u32 (adr M d)))) :=
          put_fin2 HT1.out HS1.out hn.symm (by rw [hn]; simp) (by subst hk; simpa using flat_set2 M d a [] X0) HP.out
        clear hn hs hjl hkl hk hga hnk
        go_wp2
        go_end0
        exact HH.out
      · have HP := Lib.hid (put_none HG.out hs HC.out hd (by simpa using hjl) (by simp))
        have e1 := EL.out _ (decide_eq_false hjl)
        clear hn hjl hk hga hnk
        have C := Lib.hid (ins_ct (d := d) HS1.out hB1 (i := k + 1) hkl.symm (by rw [← HN.out]; exact hl))
        clear hs hkl
        go_wp2_with fail
        refine C.out.mono ?_
        rintro e w3 ⟨v', rfl, own3, hg3, hv3⟩
        obtain ⟨a', cap', rfl⟩ := own_slice own3
        obtain ⟨n', hn'⟩ : ∃ n', n' = (X0 ++ [a] ++ (d, d) :: []).length := ⟨_, rfl⟩
        rw [← hn'] at own3 hv3 ⊢
        have hbb := ((HS1.out.blk : Blk w1 p 66 #[.int .u32 M, (.slice (some ⟨g, 0, none⟩) n cap)]))
        have hbw : Blk (w1.alloc (.cells #[.int .u32 (adr M d), .int .u32 (adr M d)] 71)) p 66 #[.int .u32 M, (.slice (some ⟨g, 0, none⟩) n cap)] := (Below.heap_alloc w1 _ p hpl).trans hbb
        have hbx := hbw.grown hg3 (fun e => HS1.out.ne e.symm)
        have k1 := hbx.cell 1
        have k2 := hbx.frozen 1
        have HO := Lib.hid own3
        have HG3 := Lib.hid hg3
        have HV3 := Lib.hid hv3
        have HN' := Lib.hid hn'
        have HBW := Lib.hid hbw
        clear own3 hg3 hv3 hn' hbw hbb hbx
        go_wp2
        go_end0
        rw [HN'.out] at HO HV3 ⊢
        exact put_fin (HT1.out.trans (Turned.of_below ((Below.refl _ _).alloc (Nat.le_refl _) _) p _)) HS1.out.hp HS1.out.hM HBW.out HS1.out.ne HO.out HG3.out HV3.out HP.out
    · have hnk : k + 1 < n := by rw [hn, List.length_append, hkl]; simp
      have hc2 : decide ((k : Int) + 1 < (n : Int)) = true := by simp; omega
      have hc2' : decide (k + 1 < n) = true := decide_eq_true hnk
      obtain ⟨g', hv1, _, _, c2, c3⟩ := HS1.out.atn (k := k + 1) (by rw [← hn]; exact hnk)
      injection hv1 with hv1
      injection hv1 with hv1
      subst hv1
      have hgy : (X0 ++ [a] ++ y :: Y)[k + 1]'(by rw [← hn]; exact hnk) = y := by subst hk; simp
      rw [hgy] at c2 c3
      have hy4 := (gp_append.1 HG.out).2.1.2 y (by simp)
      have enext : ∀ b : Bool, decide (d + 1 = y.1) = b → ((adr M d + 1) % 4294967296 == adr M y.1) = b := by
        intro b hb
        subst hb
        rw [adr_succ, Bool.eq_iff_iff, beq_iff_eq, decide_eq_true_eq]
        exact ⟨fun e => adr_inj M _ _ (by omega) (by omega) e, fun e => by rw [e]⟩
      have f2 : w1.frozen? ⟨g, (k + 1) * 2, none⟩ = false := by have := HS1.out.own; rw [← hn] at this; exact this.frozenAt _
      have EN := Lib.hid enext
      clear enext
      by_cases hjl : a.2 + 1 = d
      · have e1 := EL.out _ (decide_eq_true hjl)
        by_cases hjn : d + 1 = y.1
        · have HP := Lib.hid (put_both HG.out hs hd hjl hjn)
          have e2 := EN.out _ (decide_eq_true hjn)
          have C := Lib.hid (del_ct (d := d) HS1.out hk hn hl)
          have hbw : Blk ((w1.setCell ⟨g, k * 2 + 1, none⟩ (.int .u32 (adr M y.2))).drew) p 66 #[.int .u32 M, .slice (some ⟨g, 0, none⟩) n cap] := HS1.out.blk.far hpg _
          have HBW := Lib.hid hbw
          have HTW : Hid (Turned w ((w1.setCell ⟨g, k * 2 + 1, none⟩ (.int .u32 (adr M y.2))).drew) p (.slice (some ⟨g, 0, none⟩) n cap) (.slice (some ⟨g, 0, none⟩) n cap)) := by
            refine (HT1.out.trans (Turned.of_grown (grownBy_set w1 g (k * 2 + 1) (.int .u32 (adr M y.2))) (.inl rfl))).drewN 1
          clear hn hs hjl hjn hkl hk hga hgy hbw
          go_wp2_with fail
          go_region
          go_wp2_with fail
          refine C.out.mono ?_
          rintro e w3 ⟨v', rfl, own3, hg3, hv3⟩
          obtain ⟨a', cap', rfl⟩ := own_slice own3
          obtain ⟨n', hn'⟩ : ∃ n', n' = (X0 ++ (a.1, y.2) :: Y).length := ⟨_, rfl⟩
          rw [← hn'] at own3 hv3 ⊢
          have hbx := HBW.out.grown hg3 (fun e => HS1.out.ne e.symm)
          have k1 := hbx.cell 1
          have k2 := hbx.frozen 1
          have HO := Lib.hid own3
          have HG3 := Lib.hid hg3
          have HV3 := Lib.hid hv3
          have HN' := Lib.hid hn'
          clear own3 hg3 hv3 hn' hbx
          go_wp2
          go_end0
          rw [HN'.out] at HO HV3 ⊢
          exact put_fin HTW.out HS1.out.hp HS1.out.hM HBW.out HS1.out.ne HO.out HG3.out (.inl HV3.out) HP.out
        · have HP := Lib.hid (put_last HG.out hs HC.out hd hjl (by simpa using hjn))
          have e2 := EN.out _ (decide_eq_false hjn)
          have HH : Hid (Put w B p (.slice (some ⟨g, 0, none⟩) n cap) M (X0 ++ [a] ++ y :: Y) d (.returned (.tuple #[])) (w1.setCell ⟨g, k * 2 + 1, none⟩ (.int .u32 (adr M d)))) :=
            put_fin2 HT1.out HS1.out hn.symm (by rw [hn]; simp) (by subst hk; simpa using flat_set2 M d a (y :: Y) X0) HP.out
          clear hn hs hjl hjn hkl hk hga hgy
          go_wp2
          go_end0
          exact HH.out
      · have e1 := EL.out _ (decide_eq_false hjl)
        by_cases hjn : d + 1 = y.1
        · have HP := Lib.hid (put_next HG.out hs hd (by simpa using hjl) hjn)
          have e2 := EN.out _ (decide_eq_true hjn)
          have HH : Hid (Put w B p (.slice (some ⟨g, 0, none⟩) n cap) M (X0 ++ [a] ++ y :: Y) d (.returned (.tuple #[])) (w1.setCell ⟨g, (k + 1) * 2, none⟩ (.int .u32 (adr M d)))) :=
            put_fin2 HT1.out HS1.out hn.symm (by rw [hn]; simp) (by rw [← hkl]; exact flat_set1 M d y Y (X0 ++ [a])) HP.out
          clear hn hs hjl hjn hkl hk hga hgy
          go_wp2
          go_end0
          exact HH.out
        · have HP := Lib.hid (put_none HG.out hs HC.out hd (by simpa using hjl) (by simpa using hjn))
          have e2 := EN.out _ (decide_eq_false hjn)
          clear hn hjl hjn hk hga hgy
          have C := Lib.hid (ins_ct (d := d) HS1.out hB1 (i := k + 1) hkl.symm (by rw [← HN.out]; exact hl))
          clear hs hkl
          go_wp2_with fail
          refine C.out.mono ?_
          rintro e w3 ⟨v', rfl, own3, hg3, hv3⟩
          obtain ⟨a', cap', rfl⟩ := own_slice own3
          obtain ⟨n', hn'⟩ : ∃ n', n' = (X0 ++ [a] ++ (d, d) :: y :: Y).length := ⟨_, rfl⟩
          rw [← hn'] at own3 hv3 ⊢
          have hbb := ((HS1.out.blk : Blk w1 p 66 #[.int .u32 M, (.slice (some ⟨g, 0, none⟩) n cap)]))
          have hbw : Blk (w1.alloc (.cells #[.int .u32 (adr M d), .int .u32 (adr M d)] 71)) p 66 #[.int .u32 M, (.slice (some ⟨g, 0, none⟩) n cap)] := (Below.heap_alloc w1 _ p hpl).trans hbb
          have hbx := hbw.grown hg3 (fun e => HS1.out.ne e.symm)
          have k1 := hbx.cell 1
          have k2 := hbx.frozen 1
          have HO := Lib.hid own3
          have HG3 := Lib.hid hg3
          have HV3 := Lib.hid hv3
          have HN' := Lib.hid hn'
          have HBW := Lib.hid hbw
          clear own3 hg3 hv3 hn' hbw hbb hbx
          go_wp2
          go_end0
          rw [HN'.out] at HO HV3 ⊢
          exact put_fin (HT1.out.trans (Turned.of_below ((Below.refl _ _).alloc (Nat.le_refl _) _) p _)) HS1.out.hp HS1.out.hM HBW.out HS1.out.ne HO.out HG3.out HV3.out HP.out
end Go.Proofs.Ytgbkmnmkejcogaa.Span
