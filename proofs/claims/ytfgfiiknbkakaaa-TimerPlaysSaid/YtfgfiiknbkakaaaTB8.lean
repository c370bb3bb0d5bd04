/-
  Of the texts Tm7: what the laws reach.
-/
import Derived.Test.YtfgfiiknbkakaaaTB6
import Derived.WalkSpells

set_option linter.unusedVariables false
set_option linter.unusedSimpArgs false
set_option maxRecDepth 20000
namespace Go.Proofs.Ytfgfiiknbkakaaa.Tm
open Go.ChangeShapes Go.WideShapes Go.ChangeAt Go.RowKit Go.Deep Go.Maps Go.Proofs.Ytfgfiiknbkakaaa.Words Go.Proofs.Ytfgfiiknbkakaaa.Mx Go.Proofs.Ytfgfiiknbkakaaa.Fl
section
variable {w w' W V : World} {p n cap i j m a : Nat} {mv : Value} {A : Option Addr} {f g : Hp} {S G : Nat → Prop} {L D R : List K} {k : Int} {mo : Option Nat}
/-- One is set anew where it stands. -/
def setF (f : Hp) (j a : Nat) : Hp := fun x => if x = j then ⟨(f j).b, (f j).k, a⟩ else f x
theorem setF_b (f : Hp) (j a x : Nat) : (setF f j a x).b = (f x).b := by unfold setF; split <;> simp_all
theorem setF_k (f : Hp) (j a x : Nat) : (setF f j a x).k = (f x).k := by unfold setF; split <;> simp_all
theorem setF_o {x : Nat} (h : x ≠ j) : setF f j a x = f x := if_neg h
theorem setF_a : (setF f j a j).a = a := by unfold setF; rw [if_pos rfl]
theorem QM.setA (h : QM w p mv A n cap f) (hj : j < n) (ha : a ≤ 18446744073709551615) : QM (w.setCell ⟨(f j).b, 1, none⟩ (.int .u64 (a : Int))) p mv A n cap (setF f j a) ∧ Fr (fun i => i = (f j).b) w (w.setCell ⟨(f j).b, 1, none⟩ (.int .u64 (a : Int))) := by
  have hf : Fr (fun i => i = (f j).b) w (w.setCell ⟨(f j).b, 1, none⟩ (.int .u64 (a : Int))) := (Fr.refl (fun i => i = (f j).b) w).setCell (p := ⟨(f j).b, 1, none⟩) (.inl rfl) _
  refine ⟨⟨hf.blk h.blk (fun e => h.ent_ne hj e.symm), ?_, fun x hx => ?_, fun x y hx hy e => h.inj x y hx hy (by rw [setF_b, setF_b] at e; exact e), h.few, fun x hx => ?_⟩, hf⟩
  · have e : rowL (setF f j a) n = rowL f n := by
      unfold rowL
      exact List.map_congr_left (fun x _ => by rw [setF_b])
    rw [e]
    exact hf.own h.row (fun g hg e => own_blk_ne h.row (h.ent j hj) (by decide) (by rw [hg, show g = (f j).b from e]))
  · by_cases e : x = j
    · subst e
      rw [setF_b]
      have := (h.ent x hx).set_ 1 (.int .u64 (a : Int))
      unfold setF
      rw [if_pos rfl]
      exact this
    · rw [setF_o e]
      exact hf.blk (h.ent x hx) (fun e' => e (h.inj x j hx hj e'))
  · by_cases e : x = j
    · subst e
      rw [setF_k, setF_a]
      exact ⟨ha, (h.bnd x hx).2⟩
    · rw [setF_o e]
      exact h.bnd x hx
theorem Holds.congr (h : Holds f n L) (e : ∀ x, x < n → g x = f x) : Holds g n L :=
  ⟨h.len, fun z => by
    rw [h.mem]
    constructor
    · rintro ⟨j, hj, rfl⟩; exact ⟨j, hj, by rw [e j hj]⟩
    · rintro ⟨j, hj, rfl⟩; exact ⟨j, hj, by rw [e j hj]⟩, fun i j hi hj ek => h.inj i j hi hj (by rw [e i hi, e j hj] at ek; exact ek)⟩
def SetDone (w : World) (G : Nat → Prop) (p : Nat) (L : List K) (k : Int) (a : Nat) (e : Ending) (w' : World) : Prop := ∃ G', e = .returned (.tuple #[]) ∧ TR w' G' p (put k a L) ∧ (∀ i, G' i → G i ∨ w.heap.size ≤ i) ∧ Fr G w w'
/-- The way of one that is set already. -/
theorem TRp.anew {V1 V2 : World} {mb : Nat} (h : TRp w G p L (some mb) A n cap f) (hj : j < n) (ha : a ≤ 18446744073709551615) (hf1 : Fr (fun i => i = (f j).b) w V1) (hq : QM V2 p (.map (some mb)) A n cap g) (hh : Heap g n) (hp : Prm (setF f j a) g n) (hf : Fr (QS A n (setF f j a)) V1 V2) : SetDone w G p L (f j).k a (.returned (.tuple #[])) V2 := by
  have hbnd := (h.q.bnd j hj).2
  have hN := h.mb_ne rfl
  have hs1 : Holds (setF f j a) n (put (f j).k a L) := h.hs.reset h.ok hj (fun x hx => setF_o hx) (setF_k f j a j) setF_a
  have hs2 := hs1.prm hp hq.inj
  have hG : ∀ x, QG p A n g x → QG p A n f x := fun x hx => by
    rcases hx with hx | hx | ⟨y, hy, rfl⟩
    · exact .inl hx
    · exact .inr (.inl hx)
    · obtain ⟨z, hz, e⟩ := hp.lr y hy
      exact .inr (.inr ⟨z, hz, by rw [e, setF_b]⟩)
  have hfr : Fr (QG p A n f) w V2 := (hf1.mono (fun x _ e => .inr (.inr ⟨j, hj, (show x = (f j).b from e).symm⟩))).trans hf (fun x _ hx => by
    rcases hx with hx | ⟨y, hy, rfl⟩
    · exact .inr (.inl hx)
    · exact .inr (.inr ⟨y, hy, by rw [setF_b]⟩))
  refine ⟨fun x => QG p A n g x ∨ some mb = some x, rfl, ⟨some mb, A, n, cap, g, hq, hh, hs2, h.ok.put hbnd ha, fun mb' e => ?_, fun e => (by cases e), fun x => Iff.rfl⟩, fun x hx => .inl ((h.g x).2 (hx.imp (hG x) id)), hfr.mono (fun x _ hx => (h.g x).2 (.inl hx))⟩
  injection e with e
  subst e
  have h1 := (h.mp mb rfl).fr hfr hN
  have e1 : mpF n f = mpF n (setF f j a) := mpF_ext h.injK hs1.inj (fun i hi => ⟨i, hi, by rw [setF_k], by rw [setF_b]⟩) (fun i hi => ⟨i, hi, by rw [setF_k]⟩)
  rw [e1, mpF_prm hs1.inj hs2.inj hp] at h1
  exact h1
theorem few_mp (h : TRp w G p L mo A n cap f) : Few (mpF n f) (L.map (·.2)) := fun x hx => by
  rcases Classical.em (∃ j, j < n ∧ (f j).k = x) with ⟨j, hj, rfl⟩ | hno
  · exact List.mem_map.2 ⟨_, (h.hs.mem _).2 ⟨j, hj, rfl⟩, rfl⟩
  · exact absurd (mpF_none (fun j hj e => hno ⟨j, hj, e⟩)) hx
theorem mpF_push {e0 : En} (hf : InjK f n) (hno : ∀ j, j < n → (f j).k ≠ e0.k) : putF (mpF n f) e0.k (tptr e0.b) = mpF (n + 1) (pushF f n e0) := by
  have hpn : pushF f n e0 n = e0 := if_pos rfl
  have hpo : ∀ j, j < n → pushF f n e0 j = f j := fun j hj => if_neg (by omega)
  have hi : InjK (pushF f n e0) (n + 1) := by
    intro i j hi hj e
    rcases Nat.lt_or_ge i n with h1 | h1
    · rw [hpo i h1] at e
      rcases Nat.lt_or_ge j n with h2 | h2
      · rw [hpo j h2] at e; exact hf i j h1 h2 e
      · rw [show j = n by omega, hpn] at e; exact absurd e (hno i h1)
    · rw [show i = n by omega, hpn] at e
      rcases Nat.lt_or_ge j n with h2 | h2
      · rw [hpo j h2] at e; exact absurd e.symm (hno j h2)
      · omega
  funext y
  unfold putF
  split
  · rename_i e
    subst e
    have := mpF_some hi (Nat.lt_succ_self n)
    rw [hpn] at this
    exact this.symm
  · rename_i hy
    rcases Classical.em (∃ j, j < n ∧ (f j).k = y) with ⟨j, hj, rfl⟩ | hnn
    · have := mpF_some hi (show j < n + 1 by omega)
      rw [hpo j hj] at this
      rw [this, mpF_some hf hj]
    · rw [mpF_none (fun j hj e => hnn ⟨j, hj, e⟩), mpF_none (fun j hj e => by
        rcases Nat.lt_or_ge j n with h1 | h1
        · rw [hpo j h1] at e; exact hnn ⟨j, h1, e⟩
        · rw [show j = n by omega, hpn] at e; exact hy e.symm)]
/-- The way of a new one. -/
theorem TRp.fresh {V0 V1 V2 : World} {G0 : Nat → Prop} {mb b : Nat} (h : TRp V0 G0 p L (some mb) A n cap f) (hG0 : ∀ x, G0 x → G x ∨ w.heap.size ≤ x) (hf0 : Fr G w V0) (hno : ∀ j, j < n → (f j).k ≠ k) (hk : -9223372036854775808 ≤ k ∧ k ≤ 9223372036854775807) (ha : a ≤ 18446744073709551615)
    (hb : V0.heap.size ≤ b) (hf1 : Fr (fun x => x = mb) V0 V1) (hm : MapZ Try.prog 3 V1 mb (putF (mpF n f) k (tptr b))) (hb1 : b < V1.heap.size) {e : Ending} (hp : HPushDone V1 p (.map (some mb)) A n f b ⟨b, k, a⟩ e V2) : SetDone w G p L k a e V2 := by
  obtain ⟨rfl, g, A', cap', hq, hh, hpr, hf2, hA⟩ := hp
  have hno2 : has k L = false := has_no.2 (fun z hz e => by
    obtain ⟨j, hj, e2⟩ := (h.hs.mem z).1 hz
    exact hno j hj (by rw [← e, ← e2]; rfl))
  have hpn : pushF f n ⟨b, k, a⟩ n = ⟨b, k, a⟩ := if_pos rfl
  have hpo : ∀ j, j < n → pushF f n ⟨b, k, a⟩ j = f j := fun j hj => if_neg (by omega)
  have hs0 : Holds (pushF f n ⟨b, k, a⟩) n L := h.hs.congr (fun x hx => hpo x hx)
  have hs1 := hs0.push (e := ⟨b, k, a⟩) hno2 hpn
  have hs2 := hs1.prm hpr hq.inj
  have hN := h.mb_ne rfl
  have hlt : ∀ x, G0 x → x < V0.heap.size := fun x hx => tr_rep.lt ⟨_, _, _, _, _, h⟩ x hx
  have hmb : G0 mb := (h.g mb).2 (.inr rfl)
  have hmf : MapZ Try.prog 3 V2 mb (putF (mpF n f) k (tptr b)) := hm.fr hf2 (fun hx => by
    rcases hx with hx | hx
    · exact hN hx
    · have := hlt mb hmb; omega)
  refine ⟨fun x => QG p A' (n + 1) g x ∨ some mb = some x, rfl, ⟨some mb, A', n + 1, cap', g, hq, hh, hs2, h.ok.put hk ha, fun mb' e => ?_, fun e => (by cases e), fun x => Iff.rfl⟩, fun x hx => ?_, ?_⟩
  · injection e with e
    subst e
    have e1 : putF (mpF n f) k (tptr b) = mpF (n + 1) (pushF f n ⟨b, k, a⟩) := mpF_push (e0 := ⟨b, k, a⟩) h.injK hno
    rw [e1, mpF_prm hs1.inj hs2.inj hpr] at hmf
    exact hmf
  · have big : ∀ y, V0.heap.size ≤ y → w.heap.size ≤ y := fun y hy => Nat.le_trans hf0.size hy
    rcases hx with (hx | ⟨a0, ha0, rfl⟩ | ⟨y, hy, rfl⟩) | hx
    · exact hG0 x ((h.g x).2 (.inl (.inl hx)))
    · rcases hA a0 ha0 with ⟨a1, h1, h2⟩ | h1
      · exact hG0 _ ((h.g _).2 (.inl (.inr (.inl ⟨a1, h1, h2⟩))))
      · exact .inr (big _ (Nat.le_trans hf1.size h1))
    · obtain ⟨z, hz, e⟩ := hpr.lr y hy
      rw [e]
      rcases Nat.lt_or_ge z n with h1 | h1
      · rw [hpo z h1]; exact hG0 _ ((h.g _).2 (.inl (.inr (.inr ⟨z, h1, rfl⟩))))
      · rw [show z = n by omega, hpn]; exact .inr (big _ hb)
    · injection hx with hx
      subst hx
      exact hG0 _ hmb
  · refine (hf0.trans (hf1.mono (T := G0) (fun x _ e => by rw [show x = mb from e]; exact hmb)) (fun x h1 hx => ?_)).trans hf2 (fun x h1 hx => ?_)
    · rcases hG0 x hx with h2 | h2
      · exact h2
      · omega
    · rcases hx with hx | rfl
      · rcases hG0 x ((h.g x).2 (.inl hx)) with h2 | h2
        · exact h2
        · omega
      · have := hf0.size; omega
theorem TRp.mapped (h : TRp w G p L none A n cap f) : TRp ((w.alloc (.map #[] 0)).setCell ⟨p, 1, none⟩ (.map (some w.heap.size))) (fun x => QG p A n f x ∨ some w.heap.size = some x) p L (some w.heap.size) A n cap f ∧
    (∀ x, (QG p A n f x ∨ some w.heap.size = some x) → G x ∨ w.heap.size ≤ x) ∧ Fr G w ((w.alloc (.map #[] 0)).setCell ⟨p, 1, none⟩ (.map (some w.heap.size))) := by
  obtain rfl := h.mn rfl
  have hGp : G p := (h.g p).2 (.inl (.inl rfl))
  have hf : Fr (fun x => x = p) w ((w.alloc (.map #[] 0)).setCell ⟨p, 1, none⟩ (.map (some w.heap.size))) := ((Fr.refl (fun x => x = p) w).alloc _).setCell (p := ⟨p, 1, none⟩) (.inl rfl) _
  have hpl := h.q.blk.lt
  have hm : MapZ Try.prog 3 ((w.alloc (.map #[] 0)).setCell ⟨p, 1, none⟩ (.map (some w.heap.size))) w.heap.size (fun _ => none) := (MapZ.new Try.underlying3 w).fr ((Fr.refl (fun x => x = p) (w.alloc (.map #[] 0))).setCell (p := ⟨p, 1, none⟩) (.inl rfl) _) (fun e => by have e' : w.heap.size = p := e; omega)
  refine ⟨⟨⟨(h.q.blk.alloc _).set_ 1 _, hf.own h.q.row (fun g hg e => own_blk_ne h.q.row h.q.blk (by decide) (by rw [hg, show g = p from e])), fun j hj => absurd hj (Nat.not_lt_zero _), fun i j hi => absurd hi (Nat.not_lt_zero _), h.q.few, fun j hj => absurd hj (Nat.not_lt_zero _)⟩, h.hp, h.hs, h.ok, fun mb e => ?_, fun e => (by cases e), fun x => Iff.rfl⟩, fun x hx => ?_, hf.mono (fun x _ e => by rw [show x = p from e]; exact hGp)⟩
  · injection e with e
    subst e
    have e0 : mpF 0 f = fun _ => none := funext fun y => mpF_none (fun j hj => absurd hj (Nat.not_lt_zero _))
    rw [e0]
    exact hm
  · rcases hx with hx | hx
    · exact .inl ((h.g x).2 (.inl hx))
    · injection hx with hx
      exact .inr (Nat.le_of_eq hx)
set_option maxHeartbeats 3200000 in
theorem set_t (h : TR w G p L) (hl : L.length < 1000000) (hk : -9223372036854775808 ≤ k ∧ k ≤ 9223372036854775807) (ha : a ≤ 18446744073709551615) : Calls Try.prog 18 #[tptr p, .int .i64 k, .int .u64 (a : Int)] w (SetDone w G p L k a) := by
  obtain ⟨mo, A, n, cap, f, h⟩ := h
  have c1 : w.cell? ⟨p, 1, none⟩ = some (.map mo) := h.q.blk.cell 1
  have hn : n < 1000000 := by rw [← h.hs.len]; exact hl
  rcases h.look hk with ⟨j, hj, rfl, h1, h2, hlk⟩ | ⟨hno, h1, h2, hlk⟩
  · obtain ⟨mb, rfl⟩ := h.some_mb (show 0 < n by omega)
    have hl0 := hlk 0
    rw [World.drewN_zero] at hl0
    have cb : w.cell? ⟨(f j).b, 1, none⟩ = some (.int .u64 ((f j).a : Int)) := (h.q.ent j hj).cell 1
    have fb := (h.q.ent j hj).frozen 1
    obtain ⟨hq1, hf1⟩ := h.q.setA (a := a) hj ha
    obtain ⟨W1, hW1⟩ : ∃ W1, W1 = w.setCell ⟨(f j).b, 1, none⟩ (.int .u64 (a : Int)) := ⟨_, rfl⟩
    rw [← hW1] at hq1 hf1
    have hfix := fix_h hq1.drew (((h.hp.near j).congr (fun x hx => setF_o (f := f) (a := a) hx))) hj
    have cp : W1.cell? ⟨(f j).b, 2, none⟩ = some (.int .i64 (j : Int)) := by
      have := (hq1.ent j hj).cell 2
      rw [setF_b] at this
      exact this
    have H0 := Lib.hid h
    have HF1 := Lib.hid hf1
    obtain ⟨b, hb⟩ : ∃ b, b = (f j).b := ⟨_, rfl⟩
    obtain ⟨kk, hkk⟩ : ∃ kk, kk = (f j).k := ⟨_, rfl⟩
    have HKK := Lib.hid hkk
    rw [← hb] at cb fb cp hl0 hW1
    rw [← hkk] at hl0 ⊢
    have hjb : j ≤ 1000000 := by omega
    clear h h1 h2 hlk hb hkk hf1 hq1
    go_enter Try.func18, Try.ntmps18
    go_upto_region 3 with (fail)
    rw [← hW1]
    clear hW1 cb fb c1
    go_still_tail 8, (by kernel_rfl)
    change wpList _ _ _ _ _ W1.drew
    have HF3 : Hid (Fr (fun i => i = (f j).b) w W1.drew) := HF1.out.drew
    clear HF1 cp
    obtain ⟨V3, hV3⟩ : ∃ V3, V3 = W1.drew := ⟨_, rfl⟩
    rw [← hV3] at HF3 hfix ⊢
    clear hV3
    go_wp2_with (go_at_call 48; refine hfix.mono ?_; rintro e w5 ⟨rfl, g, hq5, hh5, hp5, hf5⟩)
    have HD := H0.out.anew hj ha HF3.out hq5 hh5 hp5 hf5
    rw [← HKK.out] at HD
    refine bodyPost_ret (results_none rfl _ _ _) rfl ?_
    exact HD
  · have hl0 := hlk 0
    rw [World.drewN_zero] at hl0
    have qT : ∀ (W : World) (r : Option Nat), (binOp .eql 56 (.map r) (.map none)).run Try.prog W = .ok (.bool r.isNone) W := fun W r => run_eql_map_nil W _ _ _ r Try.underlying56
    have H0 := Lib.hid h
    have HNO := Lib.hid hno
    have f1 := h.q.blk.frozen 1
    have HLB : Hid ((L.map (·.2)).length ≤ 1073741824) := by show (L.map (·.2)).length ≤ _; rw [List.length_map]; omega
    clear h hno h1 h2 hlk
    go_enter Try.func18, Try.ntmps18
    go_upto_region 4 with (fail)
    go_cut [36] from 32 to 36 (fun v36 wx => v36 = .bool mo.isNone ∧ w = wx)
    case first =>
      go_wp2_with fail
      go_meet
      exact ⟨rfl, rfl⟩
    case rest =>
      obtain ⟨rfl, rfl⟩ := hcut
      go_step
      go_cut [] from 37 to 40 (fun wx => ∃ (mb : Nat) (G0 : Nat → Prop), Hid (TRp wx G0 p L (some mb) A n cap f ∧ (∀ x, G0 x → G x ∨ w.heap.size ≤ x) ∧ Fr G w wx))
      case first =>
        cases mo with
        | none =>
          have hmm := @run_makeMap Try.prog
          have hfb : (w.alloc (.map #[] 0)).frozen? ⟨p, 1, none⟩ = false := (H0.out.q.blk.alloc _).frozen 1
          have hcb : (w.alloc (.map #[] 0)).cell? ⟨p, 1, none⟩ = some (.map none) := (H0.out.q.blk.alloc _).cell 1
          have HZ : Hid (∃ G0, TRp ((w.alloc (.map #[] 0)).setCell ⟨p, 1, none⟩ (.map (some w.heap.size))) G0 p L (some w.heap.size) A n cap f ∧ (∀ x, G0 x → G x ∨ w.heap.size ≤ x) ∧ Fr G w ((w.alloc (.map #[] 0)).setCell ⟨p, 1, none⟩ (.map (some w.heap.size)))) := ⟨_, H0.out.mapped⟩
          go_wp2_with fail
          go_meet
          obtain ⟨G0, h0⟩ := HZ.out
          exact ⟨_, G0, h0⟩
        | some mb =>
          have HZ : Hid (TRp w G p L (some mb) A n cap f ∧ (∀ x, G x → G x ∨ w.heap.size ≤ x) ∧ Fr G w w) := ⟨H0.out, fun x hx => .inl hx, Fr.refl _ _⟩
          go_wp2_with fail
          go_meet
          exact ⟨mb, G, HZ⟩
      case rest =>
        obtain ⟨mb, G0, HZ⟩ := hcut
        obtain ⟨wb, rfl⟩ : ∃ wb : World, wb = wc := ⟨_, rfl⟩
        obtain ⟨W1, hW1⟩ : ∃ W1, W1 = wb.alloc (.cells #[.int .i64 k, .int .u64 (a : Int), .int .i64 0] 112) := ⟨_, rfl⟩
        obtain ⟨b, hb⟩ : ∃ b, b = wb.heap.size := ⟨_, rfl⟩
        have hb1 : Blk W1 b 112 #[.int .i64 k, .int .u64 (a : Int), .int .i64 0] := by rw [hW1, hb]; exact Blk.new _ _ _
        have hf1 : Fr (fun _ => False) wb W1 := by rw [hW1]; exact (Fr.refl _ wb).alloc _
        have hq1 : QM W1 p (.map (some mb)) A n cap f := HZ.out.1.q.fr hf1 (fun _ h => h.elim)
        have hm1 : MapZ Try.prog 3 W1 mb (mpF n f) := (HZ.out.1.mp mb rfl).fr hf1 (fun h => h.elim)
        obtain ⟨W2, hput, hm2, ht2⟩ := hm1.put (t := 56) Try.underlying56 hk (tptr b) (few_mp HZ.out.1) HLB.out
        have hput2 : (Instr.mapUpdate 56 (.map (some mb)) (.int .i64 k) (tptr b)).run Try.prog W1 = .ok () W2 := hput
        have hf2 : Fr (fun x => x = mb) W1 W2 := (Fr.of_grown ht2.grown).mono (fun x _ e => by injection e)
        have hmbq := HZ.out.1.mb_ne rfl
        have hmbb : ¬ b = mb := by have := (HZ.out.1.mp mb rfl).lt; omega
        have c2 : W1.cell? ⟨p, 1, none⟩ = some (.map (some mb)) := hq1.blk.cell 1
        have hq2 : QM W2 p (.map (some mb)) A n cap f := hq1.fr hf2 (fun i e hi => hmbq (by rw [← show i = mb from e]; exact hi))
        have hb2 := hf2.blk hb1 hmbb
        have hpush := push_h (e0 := ⟨b, k, a⟩) hq2 HZ.out.1.hp hn hb2 rfl (fun j hj e => by have := (HZ.out.1.q.ent j hj).lt; omega) ⟨ha, hk⟩
        have HFR : Hid (∀ e V2, HPushDone W2 p (.map (some mb)) A n f b ⟨b, k, a⟩ e V2 → SetDone w G p L k a e V2) := fun e V2 hp =>
          HZ.out.1.fresh HZ.out.2.1 HZ.out.2.2 HNO.out hk ha (Nat.le_of_eq hb.symm) ((hf1.mono (fun x _ h => h.elim)).trans hf2 (fun x _ hx => hx)) hm2 hb2.lt hp
        have hbd : Try.prog.built 112 [(0, .int .i64 k), (1, .int .u64 (a : Int))] = some #[.int .i64 k, .int .u64 (a : Int), .int .i64 0] := by kernel_rfl
        clear hm1 hm2 ht2 hf2 hput hq1 hq2 hb2 hf1
        go_upto_region 7 with (fail)
        rw [← hW1, ← hb]
        clear hW1 hb
        go_wp2_with (go_at_call 49; refine hpush.mono ?_; rintro e w5 h5; obtain rfl : e = .returned (.tuple #[]) := h5.1; have HSD := Lib.hid (HFR.out _ _ h5); clear h5)
        go_end0
        exact HSD.out
end
theorem tmI : TmI TR where
  fr := tr_rep.fr
  lt := tr_rep.lt
  ok := tr_rep.ok
  zero := zero_t
  set h hl hk ha := set_t h hl hk ha
  stop h hk := stop_t h hk
  due h hn := (due_t h hn).mono (fun e w' h => h)
  next h := next_t h
  at' h hk := at_t h hk
  len h := (len_t h).mono (fun e w' h => ⟨h.1, by rw [← h.2]; exact Below.refl _ _⟩)
  lenQ h := len_t h
end Go.Proofs.Ytfgfiiknbkakaaa.Tm
