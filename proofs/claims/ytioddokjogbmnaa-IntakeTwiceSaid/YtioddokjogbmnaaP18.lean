/-
  Of the texts In2, In3: what the laws reach.
-/
import Derived.Test.YtioddokjogbmnaaP11
import Derived.BigQuiet

set_option linter.unusedVariables false
set_option linter.unusedSimpArgs false
set_option maxRecDepth 20000
namespace Go.Proofs.Ytioddokjogbmnaa.In
open Go.ChangeShapes Go.WideShapes Go.ChangeAt Go.RowKit Go.Deep Go.Proofs.Ytioddokjogbmnaa.Words Go.Proofs.Ytioddokjogbmnaa.Oct Go.Proofs.Ytioddokjogbmnaa.Par Go.Proofs.Ytioddokjogbmnaa.Chk
section
variable {JR : World → (Nat → Prop) → Nat → Bool → Jo.JS → Prop} {w w' : World} {G G' Gj Gj' S : Nat → Prop} {p q pj g : Nat} {v v' d d' : Value} {inter : Bool} {s : IS}
theorem less_dN {M t : Int} : Ser.lessB M t = Span.okB (Span.dN M t) := by
  have := Ser.dist_bd M t
  unfold Ser.lessB Span.okB Span.dN
  rw [Bool.eq_iff_iff]
  simp
  omega
/-- Is a number known? -/
def knownB (rs : List (Nat × Nat)) (d : Nat) : Bool := !(Span.okB d) || Span.hasB rs d
theorem knownB_news {rs : List (Nat × Nat)} {d : Nat} : knownB rs d = decide (Span.newsOf rs d = 1) := by
  unfold knownB Span.newsOf Span.hasB
  cases h1 : Span.okB d
  · simp
  · unfold Span.okB at h1
    have h2 := of_decide_eq_true h1
    have n1 : ¬ (d = 0 ∨ 2147483648 < d) := by omega
    cases h3 : Span.knB rs d
    · simp [n1]
      split <;> omega
    · simp
theorem imark_any (k : InP JR w Gj p q pj v d inter s) : Calls Try.prog 26 #[jptr p] w fun e w' => e = .returned (.int .u32 s.mark) ∧ w = w' := by
  have c2 := k.blk.cell 2
  simp only [List.getElem?_toArray, List.getElem?_cons_succ, List.getElem?_cons_zero] at c2
  have hm := Span.mark_any k.set
  clear k
  go_enter Try.func26, Try.ntmps26
  go_wp2_with fail
  refine hm.mono ?_
  rintro e w' ⟨rfl, rfl⟩
  go_wp2
  go_ret
  exact ⟨rfl, rfl⟩
theorem iknown_any (k : InP JR w Gj p q pj v d inter s) {t : Int} (ht : 0 ≤ t ∧ t ≤ 4294967295) : Calls Try.prog 69 #[jptr p, .int .u32 t] w fun e w' => e = .returned (.bool (knownB s.rs (Span.dN s.mark t))) ∧ Below w.heap.size w w' := by
  have c2 := k.blk.cell 2
  simp only [List.getElem?_toArray, List.getElem?_cons_succ, List.getElem?_cons_zero] at c2
  have hm := Span.mark_any k.set
  have hl := Ser.less_any s.mark t w
  have hh := Span.has_t k.set k.gp ht
  rw [less_dN] at hl
  have HKN : Hid (knownB s.rs (Span.dN s.mark t) = (!(Span.okB (Span.dN s.mark t)) || Span.hasB s.rs (Span.dN s.mark t))) := rfl
  generalize Span.okB (Span.dN s.mark t) = ok at hl HKN
  generalize Span.hasB s.rs (Span.dN s.mark t) = hs at hh HKN
  generalize knownB s.rs (Span.dN s.mark t) = kb at HKN ⊢
  generalize s.mark = M at hm hl
  clear k
  cases ok
  · go_enter Try.func69, Try.ntmps69
    go_wp2_with fail
    refine hm.mono ?_
    rintro e w' ⟨rfl, rfl⟩
    go_wp2_with fail
    refine hl.mono ?_
    rintro e w' ⟨rfl, rfl⟩
    go_wp2_with fail
    go_ret
    exact ⟨ret_bool (by rw [HKN.out]; rfl), Below.refl _ _⟩
  · go_enter Try.func69, Try.ntmps69
    go_wp2_with fail
    refine hm.mono ?_
    rintro e w' ⟨rfl, rfl⟩
    go_wp2_with fail
    refine hl.mono ?_
    rintro e w' ⟨rfl, rfl⟩
    go_wp2_with fail
    refine hh.mono ?_
    rintro e w' ⟨rfl, hb⟩
    go_wp2_with fail
    go_ret
    exact ⟨ret_bool (by rw [HKN.out]; cases hs <;> rfl), hb⟩
def fitsB (s : IS) (t : Int) (n : Nat) : Bool := decide (t = (s.mark + 1) % 4294967296) || knownB s.rs (Span.dN s.mark t) || decide (Jo.held s.js + n ≤ 131072)
set_option maxHeartbeats 2000000 in
theorem ifits_any (J : JoinI JR) (k : InP JR w Gj p q pj v d inter s) {cs : Array Value} {c : Ck} (hc : CkAt w w.heap.size cs c) (hz : Jo.held s.js + c.body.length ≤ 2000000000) :
    Calls Try.prog 50 #[jptr p, .agg cs] w fun e w' => e = .returned (.bool (fitsB s (c.tsn : Int) c.body.length)) ∧ Below w.heap.size w w' := by
  obtain ⟨Hg, Hd', Hs, Hp, Hb, hcells, hlists⟩ := hc.parts
  have ht := hc.ok.tsn
  have e5 := hcells.c5
  have e18 := hcells.c18
  have HBL := Lib.hid (Blk.new w 41 cs)
  have HB := Lib.hid (below_one w (.cells cs 41))
  have hbl := hlists.okb
  unfold Hd.okN at hbl
  have HE : Hid (fitsB s (c.tsn : Int) c.body.length = (decide ((c.tsn : Int) = (s.mark + 1) % 4294967296) || knownB s.rs (Span.dN s.mark (c.tsn : Int)) || decide (Jo.held s.js + c.body.length ≤ 131072))) := rfl
  obtain ⟨T, hT⟩ : ∃ T : Nat, T = c.tsn := ⟨_, rfl⟩
  obtain ⟨n, hn⟩ : ∃ n, n = c.body.length := ⟨_, rfl⟩
  rw [← hT] at ht e5 HE ⊢
  rw [← hn] at e18 HE hz hbl ⊢
  have hM := k.set.hM
  clear hc hcells hlists hT hn
  obtain ⟨r, hr⟩ : ∃ r, r = fitsB s (T : Int) n := ⟨_, rfl⟩
  rw [← hr] at HE ⊢
  clear hr
  go_enter Try.func50, Try.ntmps50
  go_upto_region 1 with (fail)
  obtain ⟨W1, hW1⟩ : ∃ W1, W1 = w.alloc (.cells cs 41) := ⟨_, rfl⟩
  obtain ⟨gc, hgc⟩ : ∃ gc, gc = w.heap.size := ⟨_, rfl⟩
  rw [← hW1] at HBL HB ⊢
  rw [← hgc] at HBL ⊢
  have hk1 := k.below J HB.out
  have HK1 := Lib.hid hk1
  have HCK : Hid (∀ V, Below W1.heap.size W1.drew V → V.cell? ⟨gc, 5, none⟩ = some (.int .u32 (T : Int)) ∧ V.cell? ⟨gc, 18, none⟩ = some (.slice Hb.A n Hb.cap) ∧ V.cell? ⟨p, 2, none⟩ = some (Span.ptr q) ∧ V.cell? ⟨p, 3, none⟩ = some (jptr pj) ∧ InP JR V Gj p q pj v d inter s) := fun V hb => by
    have hb' : Below W1.heap.size W1 V := (Below.drew (Below.refl _ _)).trans hb
    have h1 := blk_below HBL.out hb' HBL.out.lt
    have h2 := HK1.out.below J hb'
    have h3 := h2.blk
    exact ⟨(h1.cell 5).trans e5, (h1.cell 18).trans e18, h3.cell 2, h3.cell 3, h2⟩
  have f5 := (HCK.out W1.drew (Below.refl _ _)).1
  have f18 := (HCK.out W1.drew (Below.refl _ _)).2.1
  have HHE := fun (V : World) (hb : Below W1.heap.size W1.drew V) => J.held (HCK.out V hb).2.2.2.2.js
  have HHELD := Lib.hid HHE
  have HSZ : Hid (w.heap.size ≤ W1.heap.size) := HB.out.size
  clear HHE hk1 hW1 hgc e5 e18 f5 f18
  have b5 : W1.cell? ⟨gc, 5, none⟩ = some (.int .u32 (T : Int)) := (HCK.out W1.drew (Below.refl _ _)).1
  have b18 : W1.cell? ⟨gc, 18, none⟩ = some (.slice Hb.A n Hb.cap) := (HCK.out W1.drew (Below.refl _ _)).2.1
  have b2 : W1.cell? ⟨p, 2, none⟩ = some (Span.ptr q) := (HCK.out W1.drew (Below.refl _ _)).2.2.1
  have b3 : W1.cell? ⟨p, 3, none⟩ = some (jptr pj) := (HCK.out W1.drew (Below.refl _ _)).2.2.2.1
  have HM := Lib.hid (fun V (hb : Below W1.heap.size W1.drew V) => Span.mark_any (HCK.out V hb).2.2.2.2.set)
  by_cases h1 : (T : Int) = (s.mark + 1) % 4294967296
  · generalize s.mark = M at *
    have hm : ∀ n, Calls Try.prog 52 #[Span.ptr q] (W1.drewN n) fun e w' => e = .returned (.int .u32 M) ∧ W1.drewN n = w' := fun n => HM.out _ ⟨rfl, rfl, rfl, Nat.le_refl _, fun _ _ => rfl⟩
    go_quiet ((go_at_call 52; exact quiet_left (hm _)))
    go_wp2_with fail
    go_ret
    refine ⟨ret_bool ?_, below_drewN HB.out _⟩
    rw [HE.out]
    simp [h1]
  · have HKN := Lib.hid (fun V (hb : Below W1.heap.size W1.drew V) => iknown_any (HCK.out V hb).2.2.2.2 (t := (T : Int)) (by omega))
    obtain ⟨kb, hkb⟩ : ∃ kb, kb = knownB s.rs (Span.dN s.mark (T : Int)) := ⟨_, rfl⟩
    obtain ⟨M, hMe⟩ : ∃ M, M = s.mark := ⟨_, rfl⟩
    rw [← hkb] at HKN HE
    rw [← hMe] at HM HE h1 hM
    have h1f : (((T : Int) == (M + 1) % 4294967296) : Bool) = false := by simpa using h1
    have HKB := Lib.hid hkb
    have HME := Lib.hid hMe
    clear hkb hMe
    refine wp_region_stage (fun V V' => Below V.heap.size V V') (fun _ V => Hid (Below W1.heap.size W1.drew V)) [(false, .exact (.pointer (some ⟨gc, 5, none⟩))),
        (false, .exact (.int .u32 (T : Int))),
        (false, .exact (jptr p)),
        (false, .exact (jptr p)),
        (false, .exact (.pointer (some ⟨p, 2, none⟩))),
        (false, .exact (Span.ptr q)),
        (false, .exact (.int .u32 M)),
        (false, .exact (.int .u32 ((M + 1) % 4294967296))),
        (false, .exact (.bool false)),
        (false, .exact (.bool false)),
        (false, .exact (jptr p)),
        (false, .exact (.pointer (some ⟨gc, 5, none⟩))),
        (false, .exact (.int .u32 (T : Int))),
        (true, .exact (.bool kb)),
        (false, .exact (.bool kb))] (by kernel_rfl) (by kernel_rfl) (by kernel_rfl) rfl ?lasts ?start ?walk
    case lasts => exact trivial
    case start => exact Below.refl _ _
    case walk =>
      refine stage_pure rfl (fun V => Below.refl _ V) (fun V m hS hl => by go_simp) ?_
      simp only [Act.put, List.setIfInBounds_toArray, List.set_cons_zero, List.set_cons_succ, List.cons_append, List.nil_append]
      refine stage_pure rfl (fun V => Below.refl _ V) (fun V m hS hl => by
          have hc := (HCK.out V hS.out).1
          go_simp) ?_
      simp only [Act.put, List.setIfInBounds_toArray, List.set_cons_zero, List.set_cons_succ, List.cons_append, List.nil_append]
      refine stage_pure rfl (fun V => Below.refl _ V) (fun V m hS hl => by go_simp) ?_
      simp only [Act.put, List.setIfInBounds_toArray, List.set_cons_zero, List.set_cons_succ, List.cons_append, List.nil_append]
      refine stage_pure rfl (fun V => Below.refl _ V) (fun V m hS hl => by go_simp) ?_
      simp only [Act.put, List.setIfInBounds_toArray, List.set_cons_zero, List.set_cons_succ, List.cons_append, List.nil_append]
      refine stage_pure rfl (fun V => Below.refl _ V) (fun V m hS hl => by go_simp) ?_
      simp only [Act.put, List.setIfInBounds_toArray, List.set_cons_zero, List.set_cons_succ, List.cons_append, List.nil_append]
      refine stage_pure rfl (fun V => Below.refl _ V) (fun V m hS hl => by
          have hc := (HCK.out V hS.out).2.2.1
          go_simp) ?_
      simp only [Act.put, List.setIfInBounds_toArray, List.set_cons_zero, List.set_cons_succ, List.cons_append, List.nil_append]
      refine stage_exact rfl (fun V m hS hl => by
          go_simp
          refine Calls.mono (HM.out V hS.out) ?_
          rintro e V' ⟨rfl, rfl⟩
          exact ⟨_, rfl, Below.refl _ _, rfl, hS⟩) ?_
      simp only [Act.put, List.setIfInBounds_toArray, List.set_cons_zero, List.set_cons_succ, List.cons_append, List.nil_append]
      refine stage_pure rfl (fun V => Below.refl _ V) (fun V m hS hl => by
          go_simp
          simp [IntKind.wrap, IntKind.bits, IntKind.signed]) ?_
      simp only [Act.put, List.setIfInBounds_toArray, List.set_cons_zero, List.set_cons_succ, List.cons_append, List.nil_append]
      refine stage_pure rfl (fun V => Below.refl _ V) (fun V m hS hl => by go_simp) ?_
      simp only [Act.put, List.setIfInBounds_toArray, List.set_cons_zero, List.set_cons_succ, List.cons_append, List.nil_append]
      refine stage_pure rfl (fun V => Below.refl _ V) (fun V m hS hl => by go_simp) ?_
      simp only [Act.put, List.setIfInBounds_toArray, List.set_cons_zero, List.set_cons_succ, List.cons_append, List.nil_append]
      refine stage_pure rfl (fun V => Below.refl _ V) (fun V m hS hl => by go_simp) ?_
      simp only [Act.put, List.setIfInBounds_toArray, List.set_cons_zero, List.set_cons_succ, List.cons_append, List.nil_append]
      refine stage_pure rfl (fun V => Below.refl _ V) (fun V m hS hl => by go_simp) ?_
      simp only [Act.put, List.setIfInBounds_toArray, List.set_cons_zero, List.set_cons_succ, List.cons_append, List.nil_append]
      refine stage_pure rfl (fun V => Below.refl _ V) (fun V m hS hl => by
          have hc := (HCK.out V hS.out).1
          go_simp) ?_
      simp only [Act.put, List.setIfInBounds_toArray, List.set_cons_zero, List.set_cons_succ, List.cons_append, List.nil_append]
      refine stage_move rfl (fun V hS hl => by
          go_simp
          refine Calls.mono (HKN.out V hS.out) ?_
          rintro e V' ⟨rfl, hb⟩
          exact ⟨_, rfl, hb, rfl, hS.out.trans (hb.mono hS.out.size)⟩) ?_
      simp only [Act.put, List.setIfInBounds_toArray, List.set_cons_zero, List.set_cons_succ, List.cons_append, List.nil_append]
      refine stage_pure rfl (fun V => Below.refl _ V) (fun V m hS hl => by go_simp) ?_
      simp only [Act.put, List.setIfInBounds_toArray, List.set_cons_zero, List.set_cons_succ, List.cons_append, List.nil_append]
      refine stage_nil (fun V2 hS hF => ?_)
      have HS2 := hS
      have d18 : V2.cell? ⟨gc, 18, none⟩ = some (.slice Hb.A n Hb.cap) := (HCK.out V2 HS2.out).2.1
      have d3 : V2.cell? ⟨p, 3, none⟩ = some (jptr pj) := (HCK.out V2 HS2.out).2.2.2.1
      have HB2 : Hid (Below w.heap.size w V2) := (HB.out.trans (((Below.drew (Below.refl _ _)).trans HS2.out).mono HSZ.out))
      clear b5 b18 b2 b3 hS hF
      cases kb
      · obtain ⟨hd, hhd⟩ : ∃ hd, hd = Jo.held s.js := ⟨_, rfl⟩
        have HCK3 : Hid (∀ V, Below V2.heap.size V2.drew V → V.cell? ⟨gc, 18, none⟩ = some (.slice Hb.A n Hb.cap) ∧ V.cell? ⟨p, 3, none⟩ = some (jptr pj) ∧ Calls Try.prog 17 #[jptr pj] V fun e w' => e = .returned (.int .i64 (hd : Int)) ∧ Below V.heap.size V w') := fun V hb => by
          have h2 := HS2.out.trans (((Below.drew (Below.refl _ _)).trans hb).mono HS2.out.size)
          rw [hhd]
          exact ⟨(HCK.out V h2).2.1, (HCK.out V h2).2.2.2.1, HHELD.out V h2⟩
        rw [← hhd] at hz HE
        have HHD := Lib.hid hhd
        have HL1 : Hid (¬ ((T : Int) = (M + 1) % 4294967296)) := h1
        clear hhd
        go_upto_region 3 with (fail)
        obtain ⟨lb, hlb⟩ : ∃ lb, lb = decide (hd + n ≤ 131072) := ⟨_, rfl⟩
        have HLB : Hid (decide ((hd : Int) + (n : Int) ≤ 131072) = lb) := by
          show _ = _
          rw [hlb, Bool.eq_iff_iff]
          simp
          omega
        rw [← hlb] at HE
        clear hlb
        refine wp_region_stage (fun V V' => Below V.heap.size V V') (fun _ V => Hid (Below V2.heap.size V2.drew V)) [(false, .exact (jptr p)),
            (false, .exact (jptr p)),
            (false, .exact (.pointer (some ⟨p, 3, none⟩))),
            (false, .exact (jptr pj)),
            (true, .exact (.int .i64 (hd : Int))),
            (false, .exact (.pointer (some ⟨gc, 18, none⟩))),
            (false, .exact (.slice Hb.A n Hb.cap)),
            (false, .exact (.int .i64 (n : Int))),
            (false, .exact (.int .i64 ((hd : Int) + (n : Int)))),
            (false, .exact (.bool lb)),
            (false, .exact (.bool lb))] (by kernel_rfl) (by kernel_rfl) (by kernel_rfl) rfl ?lasts ?start ?walk
        case lasts => exact trivial
        case start => exact Below.refl _ _
        case walk =>
          refine stage_pure rfl (fun V => Below.refl _ V) (fun V m hS hl => by go_simp) ?_
          simp only [Act.put, List.setIfInBounds_toArray, List.set_cons_zero, List.set_cons_succ, List.cons_append, List.nil_append]
          refine stage_pure rfl (fun V => Below.refl _ V) (fun V m hS hl => by go_simp) ?_
          simp only [Act.put, List.setIfInBounds_toArray, List.set_cons_zero, List.set_cons_succ, List.cons_append, List.nil_append]
          refine stage_pure rfl (fun V => Below.refl _ V) (fun V m hS hl => by go_simp) ?_
          simp only [Act.put, List.setIfInBounds_toArray, List.set_cons_zero, List.set_cons_succ, List.cons_append, List.nil_append]
          refine stage_pure rfl (fun V => Below.refl _ V) (fun V m hS hl => by
              have hc := (HCK3.out V hS.out).2.1
              go_simp) ?_
          simp only [Act.put, List.setIfInBounds_toArray, List.set_cons_zero, List.set_cons_succ, List.cons_append, List.nil_append]
          refine stage_move rfl (fun V hS hl => by
              go_simp
              refine Calls.mono (HCK3.out V hS.out).2.2 ?_
              rintro e V' ⟨rfl, hb⟩
              exact ⟨_, rfl, hb, rfl, hS.out.trans (hb.mono hS.out.size)⟩) ?_
          simp only [Act.put, List.setIfInBounds_toArray, List.set_cons_zero, List.set_cons_succ, List.cons_append, List.nil_append]
          refine stage_pure rfl (fun V => Below.refl _ V) (fun V m hS hl => by go_simp) ?_
          simp only [Act.put, List.setIfInBounds_toArray, List.set_cons_zero, List.set_cons_succ, List.cons_append, List.nil_append]
          refine stage_pure rfl (fun V => Below.refl _ V) (fun V m hS hl => by
              have hc := (HCK3.out V hS.out).1
              go_simp) ?_
          simp only [Act.put, List.setIfInBounds_toArray, List.set_cons_zero, List.set_cons_succ, List.cons_append, List.nil_append]
          refine stage_pure rfl (fun V => Below.refl _ V) (fun V m hS hl => by go_simp) ?_
          simp only [Act.put, List.setIfInBounds_toArray, List.set_cons_zero, List.set_cons_succ, List.cons_append, List.nil_append]
          refine stage_pure rfl (fun V => Below.refl _ V) (fun V m hS hl => by
              go_simp
              exact IntWalk.i64_in _ (by omega)) ?_
          simp only [Act.put, List.setIfInBounds_toArray, List.set_cons_zero, List.set_cons_succ, List.cons_append, List.nil_append]
          refine stage_pure rfl (fun V => Below.refl _ V) (fun V m hS hl => by
              go_simp
              exact HLB.out) ?_
          simp only [Act.put, List.setIfInBounds_toArray, List.set_cons_zero, List.set_cons_succ, List.cons_append, List.nil_append]
          refine stage_pure rfl (fun V => Below.refl _ V) (fun V m hS hl => by go_simp) ?_
          simp only [Act.put, List.setIfInBounds_toArray, List.set_cons_zero, List.set_cons_succ, List.cons_append, List.nil_append]
          refine stage_nil (fun V3 hS3 hF3 => ?_)
          have HB3 := Lib.hid (HB2.out.trans (((Below.drew (Below.refl _ _)).trans hS3.out).mono HB2.out.size))
          clear hS3 hF3 d18 d3
          go_wp2_with fail
          go_ret
          exact ⟨ret_bool (by rw [HE.out]; simp [HL1.out]), HB3.out⟩
      · go_wp2_with fail
        go_ret
        exact ⟨ret_bool (by rw [HE.out]; simp), HB2.out⟩
end
end Go.Proofs.Ytioddokjogbmnaa.In

set_option linter.unusedVariables false
set_option linter.unusedSimpArgs false
set_option maxRecDepth 20000
namespace Go.Proofs.Ytioddokjogbmnaa.In
open Go.ChangeShapes Go.WideShapes Go.ChangeAt Go.RowKit Go.Deep Go.Proofs.Ytioddokjogbmnaa.Words Go.Proofs.Ytioddokjogbmnaa.Oct Go.Proofs.Ytioddokjogbmnaa.Par Go.Proofs.Ytioddokjogbmnaa.Chk
section
variable {JR : World → (Nat → Prop) → Nat → Bool → Jo.JS → Prop} {w w' : World} {G G' Gj Gj' S : Nat → Prop} {p q pj g : Nat} {v v' d d' : Value} {inter : Bool} {s : IS}
def DataDone (JR : World → (Nat → Prop) → Nat → Bool → Jo.JS → Prop) (w : World) (G : Nat → Prop) (p : Nat) (inter : Bool) (s : IS) (t : Int) (c : Jo.Pc) (e : Ending) (w' : World) : Prop :=
  ∃ (n : Int) (s' : IS) (G' : Nat → Prop), e = .returned (.int .i64 n) ∧ InR JR w' G' p inter s' ∧ DataR inter s t c n s' ∧ (∀ i, G' i → G i ∨ w.heap.size ≤ i) ∧ Fr G w w'
theorem dist_one {M t : Int} (hM : 0 ≤ M ∧ M ≤ 4294967295) (ht : 0 ≤ t ∧ t ≤ 4294967295) : t = (M + 1) % 4294967296 ↔ Span.dN M t = 1 := by
  unfold Span.dN Ser.dist
  omega
/-- Behind a step that leaves all but new memory. -/
theorem DataDone.same (J : JoinI JR) (k : InP JR w Gj p q pj v d inter s) {t : Int} {c : Jo.Pc} {n : Int} (hb : Below w.heap.size w w') (hd : DataR inter s t c n s) : DataDone JR w (InG Gj p q v d) p inter s t c (.returned (.int .i64 n)) w' :=
  ⟨n, s, _, rfl, InR.of (k.below J hb), hd, fun i hi => .inl hi, (Fr.of_below hb).mono (fun i h1 h2 => by have e' : w.heap.size ≤ i := h2; omega)⟩
theorem fits_no {n : Nat} {t : Int} (hM : 0 ≤ s.mark ∧ s.mark ≤ 4294967295) (ht : 0 ≤ t ∧ t ≤ 4294967295) (h : fitsB s t n = false) : Span.newsOf s.rs (Span.dN s.mark t) ≠ 1 ∧ Span.dN s.mark t ≠ 1 ∧ 131072 < Jo.held s.js + n := by
  unfold fitsB at h
  rw [Bool.or_eq_false_iff, Bool.or_eq_false_iff] at h
  obtain ⟨⟨h1, h2⟩, h3⟩ := h
  rw [knownB_news] at h2
  have h1 := of_decide_eq_false h1
  have h2 := of_decide_eq_false h2
  have h3 := of_decide_eq_false h3
  exact ⟨h2, fun e => h1 ((dist_one hM ht).2 e), by omega⟩
theorem fits_yes {n : Nat} {t : Int} (hM : 0 ≤ s.mark ∧ s.mark ≤ 4294967295) (ht : 0 ≤ t ∧ t ≤ 4294967295) (h : fitsB s t n = true) : Span.newsOf s.rs (Span.dN s.mark t) ≠ 1 → Span.dN s.mark t = 1 ∨ Jo.held s.js + n ≤ 131072 := by
  intro hn
  unfold fitsB at h
  rw [Bool.or_eq_true, Bool.or_eq_true, knownB_news] at h
  rcases h with (h | h) | h
  · exact .inl ((dist_one hM ht).1 (of_decide_eq_true h))
  · exact absurd (of_decide_eq_true h) hn
  · exact .inr (of_decide_eq_true h)
theorem news_cases (rs : List (Nat × Nat)) (dd : Nat) : (Span.newsOf rs dd = 0) ∨ (Span.newsOf rs dd = 1) ∨ (Span.newsOf rs dd = 2 ∧ 4096 < dd) := by
  unfold Span.newsOf
  split
  · split
    · exact .inr (.inr ⟨rfl, ‹_›⟩)
    · exact .inl rfl
  · exact .inr (.inl rfl)
theorem add_same {rs rs' : List (Nat × Nat)} {kk dd : Nat} (hg : Span.Gp 2 rs) (hg' : Span.Gp 2 rs') (h : Span.newsOf rs dd ≠ 0) (ha : Span.Adv (Span.addK rs dd) kk (Span.knB rs')) : kk = 0 ∧ rs' = rs := by
  have e : ∀ x, Span.addK rs dd x = Span.knB rs x := fun x => by unfold Span.addK; simp [h]
  have hA : Span.Adv (Span.addK rs dd) 0 (Span.knB rs) := ⟨fun j h1 h2 => by omega, by rw [e]; exact Span.kn_far hg (by omega), fun x _ => (e _).symm⟩
  obtain ⟨rfl, hK⟩ := Span.adv_unique ha hA
  exact ⟨rfl, Span.canon hg' hg (fun x => by
    rcases Nat.eq_zero_or_pos x with rfl | hx
    · rw [Span.kn_far hg' (by omega), Span.kn_far hg (by omega)]
    · exact hK x hx)⟩
/-- The intake as it lies in V, reached from w, where its blocks were those of G0. -/
structure InA (JR : World → (Nat → Prop) → Nat → Bool → Jo.JS → Prop) (w : World) (G0 : Nat → Prop) (V : World) (Gj : Nat → Prop) (p q pj : Nat) (v d : Value) (inter : Bool) (s : IS) : Prop where
  inp : InP JR V Gj p q pj v d inter s
  sub : ∀ i, InG Gj p q v d i → G0 i ∨ w.heap.size ≤ i
  fr : Fr G0 w V
theorem InA.next {V V' : World} {G0 : Nat → Prop} {s' : IS} (h : InA JR w G0 V Gj p q pj v d inter s) (k : InP JR V' Gj' p q pj v' d' inter s' ∧ (∀ i, InG Gj' p q v' d' i → InG Gj p q v d i ∨ V.heap.size ≤ i) ∧ Fr (InG Gj p q v d) V V') : InA JR w G0 V' Gj' p q pj v' d' inter s' := by
  obtain ⟨k1, k2, k3⟩ := k
  refine ⟨k1, fun i hi => ?_, h.fr.trans k3 (fun i hi hx => ?_)⟩
  · rcases k2 i hi with e | e
    · exact h.sub i e
    · exact .inr (Nat.le_trans h.fr.size e)
  · rcases h.sub i hx with e | e
    · exact e
    · omega
theorem InA.grows {V V' : World} {G0 : Nat → Prop} (J : JoinI JR) (h : InA JR w G0 V Gj p q pj v d inter s) (hb : Below V.heap.size V V') : InA JR w G0 V' Gj p q pj v d inter s :=
  ⟨h.inp.below J hb, h.sub, h.fr.trans (Fr.of_below hb) (fun i hi hx => by have e' : V.heap.size ≤ i := hx; have := h.fr.size; omega)⟩
theorem InA.start (J : JoinI JR) (k : InP JR w Gj p q pj v d inter s) (hb : Below w.heap.size w w') : InA JR w (InG Gj p q v d) w' Gj p q pj v d inter s :=
  ⟨k.below J hb, fun i hi => .inl hi, (Fr.of_below hb).mono (fun i h1 h2 => by have e' : w.heap.size ≤ i := h2; omega)⟩
theorem InA.done {V : World} {G0 : Nat → Prop} {s0 : IS} {t : Int} {c : Jo.Pc} {n : Int} (h : InA JR w G0 V Gj p q pj v d inter s) (hd : DataR inter s0 t c n s) : DataDone JR w G0 p inter s0 t c (.returned (.int .i64 n)) V :=
  ⟨n, s, _, rfl, InR.of h.inp, hd, h.sub, h.fr⟩
/-- A chunk that is bare of lists but its body reads as it did, if its body lies where nothing has turned. -/
theorem ck_fr {cs : Array Value} {c : Ck} (h : CkAt w w.heap.size cs c) (hbr : Bare c) (hf : Fr S w w') (hA : ∀ (ad : Addr) (n cp : Nat), cs[18]? = some (.slice (some ad) n cp) → ¬ S ad.block) : CkAt w' w'.heap.size cs c := by
  obtain ⟨ok, g, d, s, p, b, e, h1, h2, h3, h4, h5, r1, r2, r3, r4, r5⟩ := h
  obtain ⟨b1, b2, b3, b4⟩ := hbr
  have e18 : cs[18]? = some (.slice b.A c.body.length b.cap) := by rw [e]; rfl
  refine ⟨ok, g, d, s, p, b, e, h1, h2, h3, h4, h5, ?_, ?_, ?_, ?_, (hf.byt r5 (Nat.le_refl _) (fun x hx => hA x _ _ (by rw [e18, hx]))).more hf.size⟩
  · rw [b1]; exact Reads.none_
  · rw [b2]; exact Reads.none_
  · rw [b3]; exact Reads.none_
  · rw [b4]; intro k p hp; cases hp
theorem exec_app {P : Program} {ρ : Operand → Value} {o : Oper} {w w' : World} {d x : Operand} {dT sT : TypeId} {v u v' : Value} (hop : o.op = Op.call { callee := Callee.builtin Builtin.append, args := #[d, x], argTypes := #[dT, sT] }) (hd : ρ d = v) (hx : ρ x = u)
    (hr : (Builtin.append_ #[dT, sT] o.type #[v, u]).run P w = .ok v' w') : (execOp ρ o).run P w = .ok (.value v') w' := by
  simp [execOp, hop, resolve, invoke, builtin, hd, hx, hr, Result.andThen]
/-- A slice that was built: one number. -/
def BldU (B : Nat) (t : Int) (v : Value) (V : World) : Prop := ∃ g, v = .slice (some ⟨g, 0, none⟩) 1 1 ∧ B ≤ g ∧ Blk V g 33 #[.int .u32 t]
/-- The list with one number more. -/
def AppU (W : World) (d : Value) (l : List Int) (v : Value) (V : World) : Prop := V.ownsRow 0 33 1 v l.length (dupV l) ∧ (v.ownBlock = d.ownBlock ∨ v.ownBlock = none ∨ ∃ g, v.ownBlock = some g ∧ W.heap.size ≤ g)
def DuS (W : World) (d : Value) (m : Nat) (V : World) : Prop := Fr (fun i => d.ownBlock = some i) W V ∧ (m = 0 → Fr (fun _ => False) W V)
def DuRel (W : World) (d : Value) (m : Nat) (V V' : World) : Prop := (∀ i, d.ownBlock = some i → i < W.heap.size) ∧ Fr (fun i => d.ownBlock = some i) V V' ∧ (1 ≤ m → Fr (fun _ => False) V V')
theorem BldU.lasts {W V V' : World} {t : Int} {u : Value} {m : Nat} (hk : BldU W.heap.size t u V) (h : DuRel W d m V V') : BldU W.heap.size t u V' := by
  obtain ⟨g, e, hB, hb⟩ := hk
  exact ⟨g, e, hB, h.2.1.blk hb (fun hx => by have := h.1 g hx; omega)⟩
theorem AppU.lasts {W V V' : World} {l : List Int} {u : Value} {m : Nat} (hm : 1 ≤ m) (hk : AppU W d l u V) (h : DuRel W d m V V') : AppU W d l u V' := ⟨(h.2.2 hm).own hk.1 (fun _ _ h => h), hk.2⟩
theorem AppU.base {W V V' : World} {l : List Int} {u : Value} (hk : AppU V d l u V') (h : W.heap.size ≤ V.heap.size) : AppU W d l u V' := ⟨hk.1, hk.2.imp id (fun e => e.imp id (fun ⟨g, e, hl⟩ => ⟨g, e, Nat.le_trans h hl⟩))⟩
theorem u32_info3 : (Try.prog.info? 33).map (fun i => (i.zero, i.size, i.bytes)) = some (some (.int .u32 0), 1, 4) := by kernel_rfl
theorem app_dup {W : World} {l : List Int} {B g : Nat} {t : Int} (h : W.ownsRow 0 33 1 d l.length (dupV l)) (hl : l.length ≤ 100) (hb : Blk W g 33 #[.int .u32 t]) :
    ∃ v' w', (Builtin.append_ #[36, 36] 36 #[d, .slice (some ⟨g, 0, none⟩) 1 1]).run Try.prog W = .ok v' w' ∧ AppU W d (l ++ [t]) v' w' ∧ Fr (fun i => d.ownBlock = some i) W w' := by
  obtain ⟨i0, hi0, hz0, hz1, hz2⟩ := info_parts3 u32_info3
  obtain ⟨v', w', h1, h2, h3, h4⟩ := run_append_any (P := Try.prog) W 0 36 36 33 i0 _ 1 4 Try.underlying36 hi0 hz0 hz1 hz2 rfl (by omega) d l.length (dupV l) h (g + 1) (some ⟨g, 0, none⟩) 1 1 [.int .u32 t] (blk_reads hb rfl) (by simp [Value.oneCell']) (by simp only [maxLen]; omega) (by omega) (Nat.zero_le _)
  refine ⟨v', w', h1, ⟨?_, ?_⟩, (Fr.refl _ W).grown h3 (fun g hg => .inl hg)⟩
  · have e : dupV (l ++ [t]) = dupV l ++ [.int .u32 t] := by simp [dupV]
    rw [e, List.length_append]
    exact h2
  · rcases h4 with h4 | h4
    · exact .inl h4
    · exact .inr (.inr ⟨_, h4, Nat.le_refl _⟩)
/-- The fragment is put: before, and behind. -/
def PutS (JR : World → (Nat → Prop) → Nat → Bool → Jo.JS → Prop) (w : World) (G0 : Nat → Prop) (V0 : World) (Gj : Nat → Prop) (p q pj gc : Nat) (v d : Value) (inter : Bool) (s : IS) (cs : Array Value) (c : Jo.Pc) (m : Nat) (V : World) : Prop :=
  (m = 0 ∧ InA JR w G0 V Gj p q pj v d inter s ∧ CkBlk V gc cs ∧ Below V0.heap.size V0 V) ∨ (m = 1 ∧ ∃ r js' Gj', InA JR w G0 V Gj' p q pj v d inter { s with js := js' } ∧ Jo.PutR inter s.js c r js' ∧ CkBlk V gc cs)
theorem PutS.zero {G0 : Nat → Prop} {V0 V : World} {gc : Nat} {cs : Array Value} {c : Jo.Pc} (h : PutS JR w G0 V0 Gj p q pj gc v d inter s cs c 0 V) : InA JR w G0 V Gj p q pj v d inter s ∧ CkBlk V gc cs ∧ Below V0.heap.size V0 V := by
  rcases h with ⟨_, h⟩ | ⟨h, _⟩
  · exact h
  · cases h
theorem PutS.ck {G0 : Nat → Prop} {V0 V : World} {gc m : Nat} {cs : Array Value} {c : Jo.Pc} (h : PutS JR w G0 V0 Gj p q pj gc v d inter s cs c m V) : CkBlk V gc cs := by
  rcases h with ⟨_, _, h, _⟩ | ⟨_, _, _, _, _, _, h⟩
  · exact h
  · exact h
set_option maxHeartbeats 4000000 in
theorem idata_any (J : JoinI JR) (k : InP JR w Gj p q pj v d inter s) {cs : Array Value} {c : Ck} (hk : c.kind = (if inter = true then 64 else 0)) (hbe : c.body ≠ []) (hbr : Bare c) (hz : Jo.held s.js + c.body.length ≤ 2000000000) (hc : CkAt w w.heap.size cs c) (hA : ∀ (ad : Addr) (n cp : Nat), cs[18]? = some (.slice (some ad) n cp) → ¬ InG Gj p q v d ad.block) :
    Calls Try.prog 23 #[jptr p, .agg cs] w (DataDone JR w (InG Gj p q v d) p inter s (c.tsn : Int) (pcOf inter c)) := by
  obtain ⟨Hg, Hd', Hs, Hp, Hb, hcells, hlists⟩ := hc.parts
  have ht := hc.ok.tsn
  have hcs : cs.size = 19 := hc.size
  have hone := hc.one
  have e0 := hcells.c0
  have e5 := hcells.c5
  have e18 := hcells.c18
  have hkd : c.kind = kdD inter := hk
  have HBL := Lib.hid (Blk.new w 41 cs)
  have HB := Lib.hid (below_one w (.cells cs 41))
  have hbl := hlists.okb
  unfold Hd.okN at hbl
  have hb0 : 0 < c.body.length := List.length_pos_iff.2 hbe
  have HTI : Hid (0 ≤ (c.tsn : Int) ∧ (c.tsn : Int) ≤ 4294967295) := by unfold Hid; omega
  have HKN : Hid (c.kind = (if inter = true then 64 else 0)) := hk
  rw [hkd] at e0
  obtain ⟨kd, hkdd⟩ : ∃ kd, kd = kdD inter := ⟨_, rfl⟩
  rw [← hkdd] at e0
  obtain ⟨T, hT⟩ : ∃ T : Nat, T = c.tsn := ⟨_, rfl⟩
  obtain ⟨n, hn⟩ : ∃ n, n = c.body.length := ⟨_, rfl⟩
  have HTE := Lib.hid hT
  have HE5 : Hid (cs[5]? = some (.int .u32 (T : Int))) := by rw [hT]; exact e5
  have HNE := Lib.hid hn
  rw [← hT] at e5
  rw [← hn] at e18 hbl hb0
  have hfit := fun (V : World) (hb : Below w.heap.size w V) => ifits_any J (k.below J hb) ((hc.below hb).more hb.size) hz
  obtain ⟨fb, hfb⟩ : ∃ fb, fb = fitsB s (c.tsn : Int) c.body.length := ⟨_, rfl⟩
  rw [← hfb] at hfit
  have HFIT := Lib.hid hfit
  have HFB := Lib.hid hfb
  have HC := Lib.hid hc
  have HA := Lib.hid hA
  have HZ := Lib.hid hz
  have HK := Lib.hid k
  have HCS := Lib.hid hcs
  have HONE := Lib.hid hone
  have HBR := Lib.hid hbr
  have HTT : Hid (0 ≤ (T : Int) ∧ (T : Int) ≤ 4294967295) := by rw [hT]; exact HTI
  clear hfit hfb hT hn hcells hlists hc hA hz hbe hk hkd hbr
  go_enter Try.func23, Try.ntmps23
  go_upto_region 1 with (fail)
  obtain ⟨W1, hW1⟩ : ∃ W1, W1 = w.alloc (.cells cs 41) := ⟨_, rfl⟩
  obtain ⟨gc, hgc⟩ : ∃ gc, gc = w.heap.size := ⟨_, rfl⟩
  rw [← hW1] at HBL HB ⊢
  rw [← hgc] at HBL ⊢
  have HGC : Hid (gc = w.heap.size) := hgc
  have HCK : Hid (∀ V, Below W1.heap.size W1.drew V → V.cell? ⟨gc, 0, none⟩ = some (.int .u8 (kd : Int)) ∧ V.cell? ⟨gc, 5, none⟩ = some (.int .u32 (T : Int)) ∧ V.cell? ⟨gc, 18, none⟩ = some (.slice Hb.A n Hb.cap) ∧ V.cell? ⟨p, 0, none⟩ = some (.int .u8 (kd : Int)) ∧ CkBlk V gc cs ∧ Below w.heap.size w V) := fun V hb => by
    have hb' : Below W1.heap.size W1 V := (Below.drew (Below.refl _ _)).trans hb
    have h1 := blk_below HBL.out hb' HBL.out.lt
    have hbw : Below w.heap.size w V := HB.out.trans (hb'.mono HB.out.size)
    have h3 := (k.below J hbw).blk
    exact ⟨(h1.cell 0).trans e0, (h1.cell 5).trans e5, (h1.cell 18).trans e18, by rw [hkdd]; exact h3.cell 0, h1, hbw⟩
  have HSZ : Hid (w.heap.size ≤ W1.heap.size) := HB.out.size
  have hn0 : ((n : Int) == 0) = false := by simp; omega
  clear hW1 hgc e0 e5 e18 hkdd k
  refine wp_region_stage (fun V V' => Below V.heap.size V V') (fun _ V => Hid (Below W1.heap.size W1.drew V)) [(false, .exact (.pointer (some ⟨gc, 0, none⟩))),
      (false, .exact (.int .u8 (kd : Int))),
      (false, .exact (jptr p)),
      (false, .exact (jptr p)),
      (false, .exact (.pointer (some ⟨p, 0, none⟩))),
      (false, .exact (.int .u8 (kd : Int))),
      (false, .exact (.bool false)),
      (false, .exact (.bool false)),
      (false, .exact (.pointer (some ⟨gc, 18, none⟩))),
      (false, .exact (.slice Hb.A n Hb.cap)),
      (false, .exact (.int .i64 (n : Int))),
      (false, .exact (.bool false)),
      (false, .exact (.bool false)),
      (false, .exact (.bool false)),
      (false, .exact (jptr p)),
      (false, .exact (.agg cs)),
      (true, .exact (.bool fb)),
      (false, .exact (.bool (!fb))),
      (false, .exact (.bool (!fb)))] (by kernel_rfl) (by kernel_rfl) (by kernel_rfl) rfl ?lasts ?start ?walk
  case lasts => exact trivial
  case start => exact Below.refl _ _
  case walk =>
    refine stage_pure rfl (fun V => Below.refl _ V) (fun V m hS hl => by go_simp) ?_
    simp only [Act.put, List.setIfInBounds_toArray, List.set_cons_zero, List.set_cons_succ, List.cons_append, List.nil_append]
    refine stage_pure rfl (fun V => Below.refl _ V) (fun V m hS hl => by
        have hc := (HCK.out V hS.out).1
        go_simp) ?_
    simp only [Act.put, List.setIfInBounds_toArray, List.set_cons_zero, List.set_cons_succ, List.cons_append, List.nil_append]
    refine stage_pure rfl (fun V => Below.refl _ V) (fun V m hS hl => by go_simp) ?_
    simp only [Act.put, List.setIfInBounds_toArray, List.set_cons_zero, List.set_cons_succ, List.cons_append, List.nil_append]
    refine stage_pure rfl (fun V => Below.refl _ V) (fun V m hS hl => by go_simp) ?_
    simp only [Act.put, List.setIfInBounds_toArray, List.set_cons_zero, List.set_cons_succ, List.cons_append, List.nil_append]
    refine stage_pure rfl (fun V => Below.refl _ V) (fun V m hS hl => by go_simp) ?_
    simp only [Act.put, List.setIfInBounds_toArray, List.set_cons_zero, List.set_cons_succ, List.cons_append, List.nil_append]
    refine stage_pure rfl (fun V => Below.refl _ V) (fun V m hS hl => by
        have hc := (HCK.out V hS.out).2.2.2.1
        go_simp) ?_
    simp only [Act.put, List.setIfInBounds_toArray, List.set_cons_zero, List.set_cons_succ, List.cons_append, List.nil_append]
    refine stage_pure rfl (fun V => Below.refl _ V) (fun V m hS hl => by go_simp) ?_
    simp only [Act.put, List.setIfInBounds_toArray, List.set_cons_zero, List.set_cons_succ, List.cons_append, List.nil_append]
    refine stage_pure rfl (fun V => Below.refl _ V) (fun V m hS hl => by go_simp) ?_
    simp only [Act.put, List.setIfInBounds_toArray, List.set_cons_zero, List.set_cons_succ, List.cons_append, List.nil_append]
    refine stage_pure rfl (fun V => Below.refl _ V) (fun V m hS hl => by go_simp) ?_
    simp only [Act.put, List.setIfInBounds_toArray, List.set_cons_zero, List.set_cons_succ, List.cons_append, List.nil_append]
    refine stage_pure rfl (fun V => Below.refl _ V) (fun V m hS hl => by
        have hc := (HCK.out V hS.out).2.2.1
        go_simp) ?_
    simp only [Act.put, List.setIfInBounds_toArray, List.set_cons_zero, List.set_cons_succ, List.cons_append, List.nil_append]
    refine stage_pure rfl (fun V => Below.refl _ V) (fun V m hS hl => by go_simp) ?_
    simp only [Act.put, List.setIfInBounds_toArray, List.set_cons_zero, List.set_cons_succ, List.cons_append, List.nil_append]
    refine stage_pure rfl (fun V => Below.refl _ V) (fun V m hS hl => by go_simp) ?_
    simp only [Act.put, List.setIfInBounds_toArray, List.set_cons_zero, List.set_cons_succ, List.cons_append, List.nil_append]
    refine stage_pure rfl (fun V => Below.refl _ V) (fun V m hS hl => by go_simp) ?_
    simp only [Act.put, List.setIfInBounds_toArray, List.set_cons_zero, List.set_cons_succ, List.cons_append, List.nil_append]
    refine stage_pure rfl (fun V => Below.refl _ V) (fun V m hS hl => by go_simp) ?_
    simp only [Act.put, List.setIfInBounds_toArray, List.set_cons_zero, List.set_cons_succ, List.cons_append, List.nil_append]
    refine stage_pure rfl (fun V => Below.refl _ V) (fun V m hS hl => by go_simp) ?_
    simp only [Act.put, List.setIfInBounds_toArray, List.set_cons_zero, List.set_cons_succ, List.cons_append, List.nil_append]
    refine stage_pure rfl (fun V => Below.refl _ V) (fun V m hS hl => by
        have hb := (HCK.out V hS.out).2.2.2.2.1
        exact exec_load_any rfl rfl (fun j u hu => by rw [hb.cellAdd]; exact hu) Try.underlying41 rfl (by rw [HCS.out]; exact chunk_info)) ?_
    simp only [Act.put, List.setIfInBounds_toArray, List.set_cons_zero, List.set_cons_succ, List.cons_append, List.nil_append]
    refine stage_move rfl (fun V hS hl => by
        go_simp
        refine Calls.mono (HFIT.out V (HCK.out V hS.out).2.2.2.2.2) ?_
        rintro e V' ⟨rfl, hb⟩
        exact ⟨_, rfl, hb, rfl, hS.out.trans (hb.mono hS.out.size)⟩) ?_
    simp only [Act.put, List.setIfInBounds_toArray, List.set_cons_zero, List.set_cons_succ, List.cons_append, List.nil_append]
    refine stage_pure rfl (fun V => Below.refl _ V) (fun V m hS hl => by go_simp) ?_
    simp only [Act.put, List.setIfInBounds_toArray, List.set_cons_zero, List.set_cons_succ, List.cons_append, List.nil_append]
    refine stage_pure rfl (fun V => Below.refl _ V) (fun V m hS hl => by go_simp) ?_
    simp only [Act.put, List.setIfInBounds_toArray, List.set_cons_zero, List.set_cons_succ, List.cons_append, List.nil_append]
    refine stage_nil (fun V2 hS hF => ?_)
    have HS2 := hS
    have HB2 : Hid (Below w.heap.size w V2) := (HCK.out V2 HS2.out).2.2.2.2.2
    clear hS hF
    cases fb
    · go_wp2_with fail
      go_ret
      have hf := fits_no (n := c.body.length) HK.out.set.hM HTI.out HFB.out.symm
      exact DataDone.same J HK.out HB2.out (.inr (.inl ⟨hf.1, .inr ⟨hf.2.1, hf.2.2⟩, rfl, rfl⟩))
    · go_upto_region 3 with (fail)
      have HA2 := Lib.hid (InA.start J HK.out HB2.out)
      have b2 : V2.cell? ⟨p, 2, none⟩ = some (Span.ptr q) := HA2.out.inp.blk.cell 2
      have b5 : V2.cell? ⟨gc, 5, none⟩ = some (.int .u32 (T : Int)) := (HCK.out V2 HS2.out).2.1
      go_still_tail 6, (by kernel_rfl)
      change wpList _ _ _ _ _ V2.drew
      obtain ⟨V3, hV3⟩ : ∃ V3, V3 = V2.drew := ⟨_, rfl⟩
      have HA3 : Hid (InA JR w (InG Gj p q v d) V3 Gj p q pj v d inter s) := by rw [hV3]; exact HA2.out.grows J (Below.drew (Below.refl _ _))
      have HC3 : Hid (CkBlk V3 gc cs) := by rw [hV3]; exact (HCK.out V2 HS2.out).2.2.2.2.1
      have HNG : Hid (¬ InG Gj p q v d gc) := fun hx => by have := HK.out.lt J gc hx; have := HGC.out; omega
      rw [← hV3]
      clear hV3 b2 b5 HA2 HS2 HB2 HCK
      go_wp2_with fail
      refine (Span.add_t HA3.out.inp.set HA3.out.inp.gp HTT.out (Nat.zero_le _)).mono ?_
      rintro e V4 ⟨v4, k4, rs4, rfl, hs4, hg4, ha4, hk4, T4⟩
      have hA4 := HA3.out.next (HA3.out.inp.set_ J hs4 hg4 T4)
      have HC4 : Hid (CkBlk V4 gc cs) := (HA3.out.inp.set_ J hs4 hg4 T4).2.2.blk HC3.out HNG.out
      have HNG4 : Hid (¬ InG Gj p q v4 d gc) := fun hx => by
        rcases (HA3.out.inp.set_ J hs4 hg4 T4).2.1 gc hx with e | e
        · exact HNG.out e
        · have := HC3.out.lt; omega
      have HA4 := Lib.hid hA4
      have HAD := Lib.hid ha4
      have HG4 := Lib.hid hg4
      obtain ⟨N, hN⟩ : ∃ N, N = Span.newsOf s.rs (Span.dN s.mark (T : Int)) := ⟨_, rfl⟩
      have hnc := news_cases s.rs (Span.dN s.mark (T : Int))
      rw [← hN] at hnc ⊢
      have HN := Lib.hid hN
      clear hs4 hg4 ha4 hk4 T4 hA4 HA3 HC3 HNG hN
      rcases hnc with hN0 | hN1 | ⟨hN2, h4096⟩
      · rw [hN0] at HN ⊢
        clear hN0
        go_upto_region 6 with (fail)
        have hk' : s.js = s.js := rfl
        have HPUT : Hid (∀ V, InA JR w (InG Gj p q v d) V Gj p q pj v4 d inter { s with mark := Span.adr s.mark k4, rs := rs4 } → CkBlk V gc cs → Below V4.heap.size V4 V → Calls Try.prog 15 #[jptr pj, .agg cs] V fun e V' => (∃ r, e = .returned (.bool r)) ∧ PutS JR w (InG Gj p q v d) V4 Gj p q pj gc v4 d inter { s with mark := Span.adr s.mark k4, rs := rs4 } cs (pcOf inter c) 1 V') := fun V hA hkb hb => by
          have hck := ck_fr HC.out HBR.out hA.fr HA.out
          have hnj : ∀ (ad : Addr) (n cp : Nat), cs[18]? = some (.slice (some ad) n cp) → ¬ Gj ad.block := fun ad n cp e hx => HA.out ad n cp e (.inr (.inr (.inr (.inr hx))))
          refine (J.put hA.inp.js HKN.out HZ.out hck hnj).mono ?_
          rintro e V' ⟨r, js', Gj', rfl, hj, hr, hg, hf⟩
          exact ⟨⟨r, rfl⟩, .inr ⟨rfl, r, js', Gj', hA.next (hA.inp.js_ J hj hg hf), hr, hf.blk hkb (fun hx => HNG4.out (.inr (.inr (.inr (.inr hx)))))⟩⟩
        clear hk'
        have HS0 : Hid (PutS JR w (InG Gj p q v d) V4 Gj p q pj gc v4 d inter { s with mark := Span.adr s.mark k4, rs := rs4 } cs (pcOf inter c) 0 V4.drew) := .inl ⟨rfl, HA4.out.grows J (Below.drew (Below.refl _ _)), HC4.out, Below.drew (Below.refl _ _)⟩
        have HST : Hid (∀ V m, PutS JR w (InG Gj p q v d) V4 Gj p q pj gc v4 d inter { s with mark := Span.adr s.mark k4, rs := rs4 } cs (pcOf inter c) m V → V.cell? ⟨p, 3, none⟩ = some (jptr pj)) := fun V m h => by
          rcases h with ⟨_, h, _⟩ | ⟨_, r, js', Gj', h, _⟩
          · exact h.inp.blk.cell 3
          · exact h.inp.blk.cell 3
        clear HNG4 HC4
        refine wp_region_stage (fun _ _ => True) (fun m V => Hid (PutS JR w (InG Gj p q v d) V4 Gj p q pj gc v4 d inter { s with mark := Span.adr s.mark k4, rs := rs4 } cs (pcOf inter c) m V)) [(false, .exact (jptr p)),
            (false, .exact (jptr p)),
            (false, .exact (.pointer (some ⟨p, 3, none⟩))),
            (false, .exact (jptr pj)),
            (false, .exact (.agg cs)),
            (true, .grows ((fun (_ : Value) (_ : World) => True)))] (by kernel_rfl) (by kernel_rfl) (by kernel_rfl) rfl ?lasts ?start ?walk
        case lasts => exact ⟨fun _ _ _ _ _ => trivial, trivial⟩
        case start => exact HS0
        case walk =>
          refine stage_pure rfl (fun _ => trivial) (fun V m hS hl => by go_simp) ?_
          simp only [Act.put, List.setIfInBounds_toArray, List.set_cons_zero, List.set_cons_succ, List.cons_append, List.nil_append]
          refine stage_pure rfl (fun _ => trivial) (fun V m hS hl => by go_simp) ?_
          simp only [Act.put, List.setIfInBounds_toArray, List.set_cons_zero, List.set_cons_succ, List.cons_append, List.nil_append]
          refine stage_pure rfl (fun _ => trivial) (fun V m hS hl => by go_simp) ?_
          simp only [Act.put, List.setIfInBounds_toArray, List.set_cons_zero, List.set_cons_succ, List.cons_append, List.nil_append]
          refine stage_pure rfl (fun _ => trivial) (fun V m hS hl => by
              have hc := HST.out V m hS.out
              go_simp) ?_
          simp only [Act.put, List.setIfInBounds_toArray, List.set_cons_zero, List.set_cons_succ, List.cons_append, List.nil_append]
          refine stage_pure rfl (fun _ => trivial) (fun V m hS hl => by
              have hb := hS.out.ck
              exact exec_load_any rfl rfl (fun j u hu => by rw [hb.cellAdd]; exact hu) Try.underlying41 rfl (by rw [HCS.out]; exact chunk_info)) ?_
          simp only [Act.put, List.setIfInBounds_toArray, List.set_cons_zero, List.set_cons_succ, List.cons_append, List.nil_append]
          refine stage_move_grows rfl (fun V hS hl => by
              go_simp
              obtain ⟨h1, h2, h3⟩ := hS.out.zero
              refine (HPUT.out V h1 h2 h3).mono ?_
              rintro e V' ⟨⟨r, rfl⟩, h⟩
              exact ⟨_, rfl, h⟩) (fun v40 => ?_)
          simp only [Act.put, List.setIfInBounds_toArray, List.set_cons_zero, List.set_cons_succ, List.cons_append, List.nil_append]
          refine stage_nil (fun V5 hS hF => ?_)
          rcases hS.out with ⟨h1, _⟩ | ⟨_, r, js5, Gj5, hA5, hr5, _⟩
          · cases h1
          · have HA5 := Lib.hid hA5
            have HR5 := Lib.hid hr5
            clear hS hF hA5 hr5 HS0 HST HPUT
            go_wp2_with fail
            go_ret
            have e : (T : Int) = (c.tsn : Int) := by rw [HTE.out]
            have hns : Span.newsOf s.rs (Span.dN s.mark (c.tsn : Int)) = 0 := by rw [← e, ← HN.out]
            refine HA5.out.done (.inr (.inr ⟨hns, fits_yes (n := c.body.length) HK.out.set.hM HTI.out HFB.out.symm (by rw [hns]; decide), rfl, rfl, k4, r, rfl, ?_, HG4.out, HR5.out⟩))
            rw [← e]
            exact HAD.out
      · rw [hN1] at HN ⊢
        clear hN1
        have hns : Span.newsOf s.rs (Span.dN s.mark (T : Int)) ≠ 0 := by rw [← HN.out]; decide
        obtain ⟨rfl, rfl⟩ := add_same HK.out.gp HG4.out hns HAD.out
        have hA5 := HA4.out
        rw [Span.adr_zero _ HK.out.set.hM] at hA5
        have HA5 : Hid (InA JR w (InG Gj p q v d) V4 Gj p q pj v4 d inter s) := hA5
        have HN1 : Hid (Span.newsOf s.rs (Span.dN s.mark (c.tsn : Int)) = 1) := by
          have e : (T : Int) = (c.tsn : Int) := by rw [HTE.out]
          rw [← e]; exact HN.out.symm
        obtain ⟨Ad, cd, hd1, hd2, hd3⟩ := own_slice hA5.inp.dup
        have hd16 := hA5.inp.d16
        obtain ⟨l, hl⟩ : ∃ l, l = s.dups.length := ⟨_, rfl⟩
        rw [← hl] at hd1 hd2 hd16
        have HD1 := Lib.hid hd1
        have HLL := Lib.hid hl
        have b4 : V4.cell? ⟨p, 4, none⟩ = some (.slice Ad l cd) := by rw [← hd1]; exact hA5.inp.blk.cell 4
        clear hns hA5 hd1 hl HA4 HAD HG4 HN
        by_cases h16 : l < 16
        · have HDU : Hid (∀ V m, DuS V4.drew d m V → V.cell? ⟨p, 4, none⟩ = some (.slice Ad l cd) ∧ V.cell? ⟨gc, 5, none⟩ = some (.int .u32 (T : Int)) ∧ Blk V p 117 (inArr inter q pj d)) := fun V m h => by
            have h1 : Blk V p 117 (inArr inter q pj d) := h.1.blk HA5.out.inp.blk (fun e => HA5.out.inp.pd e rfl)
            have h2 : CkBlk V gc cs := h.1.blk HC4.out (fun e => HNG4.out (.inr (.inr (.inr (.inl e)))))
            exact ⟨by rw [← HD1.out]; exact h1.cell 4, (h2.cell 5).trans HE5.out, h1⟩
          have HLT : Hid (∀ i, d.ownBlock = some i → i < V4.drew.heap.size) := fun i h => (HA5.out.inp.dup.lt i h).2
          go_upto_region 9 with (fail)
          refine wp_region_stage_tail 11 (DuRel V4.drew d) (DuS V4.drew d) [(false, .exact (jptr p)),
              (false, .exact (jptr p)),
              (false, .exact (jptr p)),
              (false, .exact (.pointer (some ⟨p, 4, none⟩))),
              (false, .exact (.slice Ad l cd)),
              (false, .exact (.pointer (some ⟨gc, 5, none⟩))),
              (false, .exact (.int .u32 (T : Int))),
              (false, .grows (BldU V4.drew.heap.size (T : Int))),
              (true, .grows (AppU V4.drew d (s.dups ++ [(T : Int)]))),
              (false, .exact (jptr p)),
              (false, .exact (.pointer (some ⟨p, 4, none⟩)))] (by kernel_rfl) (by kernel_rfl) (by kernel_rfl) rfl (of_decide_eq_true (by kernel_rfl)) (by kernel_rfl) (by kernel_rfl) ?lasts ?start ?walk
          case lasts => exact ⟨fun m v V V' _ h k => BldU.lasts h k, fun m v V V' hm h k => AppU.lasts (Nat.lt_of_le_of_lt (Nat.zero_le _) (hm rfl)) h k, trivial⟩
          case start => exact ⟨Fr.refl _ _, fun _ => Fr.refl _ _⟩
          case walk =>
            simp only [List.take_succ_cons, List.take_zero, List.drop_succ_cons, List.drop_zero]
            refine stageT_pure rfl (fun m V => ⟨HLT.out, Fr.refl _ V, fun _ => Fr.refl _ V⟩) (fun V m hS hl => by go_simp) ?_
            simp only [Act.put, List.setIfInBounds_toArray, List.set_cons_zero, List.set_cons_succ, List.cons_append, List.nil_append]
            refine stageT_pure rfl (fun m V => ⟨HLT.out, Fr.refl _ V, fun _ => Fr.refl _ V⟩) (fun V m hS hl => by go_simp) ?_
            simp only [Act.put, List.setIfInBounds_toArray, List.set_cons_zero, List.set_cons_succ, List.cons_append, List.nil_append]
            refine stageT_pure rfl (fun m V => ⟨HLT.out, Fr.refl _ V, fun _ => Fr.refl _ V⟩) (fun V m hS hl => by go_simp) ?_
            simp only [Act.put, List.setIfInBounds_toArray, List.set_cons_zero, List.set_cons_succ, List.cons_append, List.nil_append]
            refine stageT_pure rfl (fun m V => ⟨HLT.out, Fr.refl _ V, fun _ => Fr.refl _ V⟩) (fun V m hS hl => by go_simp) ?_
            simp only [Act.put, List.setIfInBounds_toArray, List.set_cons_zero, List.set_cons_succ, List.cons_append, List.nil_append]
            refine stageT_pure rfl (fun m V => ⟨HLT.out, Fr.refl _ V, fun _ => Fr.refl _ V⟩) (fun V m hS hl => by
                have hc := (HDU.out V m hS).1
                go_simp) ?_
            simp only [Act.put, List.setIfInBounds_toArray, List.set_cons_zero, List.set_cons_succ, List.cons_append, List.nil_append]
            refine stageT_pure rfl (fun m V => ⟨HLT.out, Fr.refl _ V, fun _ => Fr.refl _ V⟩) (fun V m hS hl => by go_simp) ?_
            simp only [Act.put, List.setIfInBounds_toArray, List.set_cons_zero, List.set_cons_succ, List.cons_append, List.nil_append]
            refine stageT_pure rfl (fun m V => ⟨HLT.out, Fr.refl _ V, fun _ => Fr.refl _ V⟩) (fun V m hS hl => by
                have hc := (HDU.out V m hS).2.1
                go_simp) ?_
            simp only [Act.put, List.setIfInBounds_toArray, List.set_cons_zero, List.set_cons_succ, List.cons_append, List.nil_append]
            refine stageT_grows rfl (fun V m hS hl => by
                go_simp
                exact ⟨⟨HLT.out, (Fr.refl _ V).alloc _, fun _ => (Fr.refl _ V).alloc _⟩, ⟨_, rfl, hS.1.size, Blk.new V _ _⟩, ⟨hS.1.alloc _, fun e => (hS.2 e).alloc _⟩⟩) (fun v56 => ?_)
            simp only [Act.put, List.setIfInBounds_toArray, List.set_cons_zero, List.set_cons_succ, List.cons_append, List.nil_append]
            refine stageT_move_grows rfl (fun V hS hl => by
                obtain ⟨g1, e1, hB1, hb1⟩ := (hl.1 (by kernel_rfl))
                have ho : V.ownsRow 0 33 1 d s.dups.length (dupV s.dups) := (hS.2 rfl).own HA5.out.inp.dup (fun _ _ h => h)
                obtain ⟨v', w5, hrun, hr, hf⟩ := app_dup (t := (T : Int)) (B := 0) ho (by have := HLL.out; omega) hb1
                rw [HD1.out] at hrun
                show Words.Leaves _ _ _
                rw [exec_app rfl rfl e1 hrun]
                exact ⟨⟨HLT.out, hf, fun e => by omega⟩, hr.base hS.1.size, ⟨hS.1.same hf, fun e => by cases e⟩⟩) (fun v57 => ?_)
            simp only [Act.put, List.setIfInBounds_toArray, List.set_cons_zero, List.set_cons_succ, List.cons_append, List.nil_append]
            refine stageT_pure rfl (fun m V => ⟨HLT.out, Fr.refl _ V, fun _ => Fr.refl _ V⟩) (fun V m hS hl => by go_simp) ?_
            simp only [Act.put, List.setIfInBounds_toArray, List.set_cons_zero, List.set_cons_succ, List.cons_append, List.nil_append]
            refine stageT_pure rfl (fun m V => ⟨HLT.out, Fr.refl _ V, fun _ => Fr.refl _ V⟩) (fun V m hS hl => by go_simp) ?_
            simp only [Act.put, List.setIfInBounds_toArray, List.set_cons_zero, List.set_cons_succ, List.cons_append, List.nil_append]
            refine stageT_nil (fun V5 hS hF => ?_)
            have hF2 : BldU V4.drew.heap.size (T : Int) v56 V5 ∧ AppU V4.drew d (s.dups ++ [(T : Int)]) v57 V5 ∧ True := hF
            have HAP := Lib.hid hF2.2.1
            have HB5 := Lib.hid (HDU.out V5 _ hS).2.2
            have HS5 := Lib.hid hS
            have b4' := HB5.out.cell 4
            have z4 := HB5.out.frozen 4
            simp only [List.getElem?_toArray, List.getElem?_cons_succ, List.getElem?_cons_zero] at b4'
            clear hF hF2 hS b4
            obtain ⟨A6, c6, hv6, h6a, h6b⟩ := own_slice HAP.out.1
            obtain ⟨l6, hl6⟩ : ∃ l6, l6 = (s.dups ++ [(T : Int)]).length := ⟨_, rfl⟩
            rw [← hl6] at hv6
            rw [hv6] at HAP ⊢
            obtain ⟨W6, hW6⟩ : ∃ W6, W6 = V5.setCell ⟨p, 4, none⟩ (.slice A6 l6 c6) := ⟨_, rfl⟩
            have HL6 := Lib.hid hl6
            clear hl6 hv6 h6a h6b
            go_wp2_with fail
            rw [← hW6]
            go_ret
            have hp : p < V4.heap.size := HA5.out.inp.blk.lt
            have hf6 : Fr (fun i => i = p) V5 W6 := by rw [hW6]; exact (Fr.refl (fun i => i = p) V5).setCell (p := ⟨p, 4, none⟩) (.inl rfl) _
            have hb6 : Blk W6 p 117 (inArr inter q pj (.slice A6 l6 c6)) := by rw [hW6]; exact HB5.out.set_ 4 _
            have ho6 : W6.ownsRow 0 33 1 (.slice A6 l6 c6) (s.dups ++ [(T : Int)]).length (dupV (s.dups ++ [(T : Int)])) := hf6.own HAP.out.1 (fun g hg e => by
              rcases HAP.out.2 with h | h | ⟨g', h, hl⟩
              · exact HA5.out.inp.pd (h ▸ hg) e
              · rw [h] at hg; cases hg
              · rw [h] at hg
                injection hg with hg
                have hl' : V4.heap.size ≤ g' := hl
                omega)
            have hf46 : Fr (fun i => i = p ∨ d.ownBlock = some i) V4 W6 := (((Fr.refl (fun i => i = p ∨ d.ownBlock = some i) V4).drew.trans HS5.out.1 (fun i _ h => .inr h))).trans hf6 (fun i _ h => .inl h)
            have hA7 := HA5.out.next (HA5.out.inp.dup_ J hb6 ho6 (by rw [List.length_append]; show _ + 1 ≤ 16; have := HLL.out; omega) (fun t ht => by
              rcases List.mem_append.1 ht with h | h
              · exact HA5.out.inp.dbd t h
              · rw [List.mem_singleton.1 h]; exact HTT.out) hf46 HAP.out.2)
            have em : more s.dups (c.tsn : Int) = s.dups ++ [(T : Int)] := by
              unfold more
              rw [if_pos (by have := HLL.out; omega), HTE.out]
            exact hA7.done (.inl ⟨HN1.out, rfl, by rw [em]⟩)
        · go_wp2_with fail
          go_ret
          have e : ({ s with dups := more s.dups (c.tsn : Int) } : IS) = s := by
            unfold more
            rw [if_neg (by have := HLL.out; omega)]
          exact HA5.out.done (.inl ⟨HN1.out, rfl, e.symm⟩)
      · rw [hN2] at HN ⊢
        clear hN2
        go_wp2_with fail
        go_ret
        have hns : Span.newsOf s.rs (Span.dN s.mark (T : Int)) ≠ 0 := by rw [← HN.out]; decide
        obtain ⟨rfl, rfl⟩ := add_same HK.out.gp HG4.out hns HAD.out
        have hA5 := HA4.out
        rw [Span.adr_zero _ HK.out.set.hM] at hA5
        refine hA5.done (.inr (.inl ⟨?_, .inl ?_, rfl, rfl⟩))
        · rw [← HTE.out, ← HN.out]; decide
        · rw [← HTE.out]; exact h4096
end
end Go.Proofs.Ytioddokjogbmnaa.In
