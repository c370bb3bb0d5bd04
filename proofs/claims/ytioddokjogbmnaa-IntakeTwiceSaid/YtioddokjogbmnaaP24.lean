/-
  Of the texts Jp21, Jp22, Jp26, Jp27: what the laws reach.
-/
import Derived.Test.YtioddokjogbmnaaP23

set_option linter.unusedVariables false
set_option linter.unusedSimpArgs false
set_option maxRecDepth 20000
namespace Go.Proofs.Ytioddokjogbmnaa.Chk
open Go.ChangeShapes Go.WideShapes Go.ChangeAt Go.RowKit Go.Deep Go.Maps Go.Proofs.Ytioddokjogbmnaa.Words Go.Proofs.Ytioddokjogbmnaa.Oct Go.Proofs.Ytioddokjogbmnaa.Par Go.Proofs.Ytioddokjogbmnaa.Mx
section
variable {w w' : World} {T T' : Nat → Nat} {p bl bo h : Nat} {inter : Bool} {rv : Value} {xs : List Mg} {Om : Nat → Option Nat} {Wb next : Nat → Nat} {wait wait' : List Jo.Ms} {S : Nat → Prop}
theorem distM_inj {nx x y : Nat} (hn : MidOk inter nx) (hx : MidOk inter x) (hy : MidOk inter y) (h : distM inter nx x = distM inter nx y) : x = y := by
  unfold distM midN at h
  unfold MidOk Jo.modN at hn hx hy
  cases inter
  · simp at h hn hx hy; omega
  · simp at h hn hx hy; omega
def LeapDone (w : World) (T : Nat → Nat) (p : Nat) (inter : Bool) (bl bo h : Nat) (xs : List Mg) (Om : Nat → Option Nat) (Wb next : Nat → Nat) (wait : List Jo.Ms) (st mid : Nat) (e : Ending) (w' : World) : Prop :=
  ∃ T' rv' xs' wait' nx' ms w1, e = .returned (.tuple #[]) ∧ wait.Perm (ms.map (fun x : Mg => msOf x.m) ++ w1) ∧ (∀ x ∈ ms, x.m.st = st ∧ reachB inter mid x.m.mid = true) ∧ (∀ m ∈ w1, m.st = st → reachB inter mid m.mid = false) ∧
    ms.Pairwise (fun a b => distM inter (next st) a.m.mid < distM inter (next st) b.m.mid) ∧ AdvR inter st (midN inter ((mid + 1) % 4294967296)) (xs ++ ms) xs' w1 wait' nx' ∧ waitB wait' st nx' = false ∧
    JO w' T' p inter bl bo rv' h xs' Om Wb (setN next st nx') wait' ∧ Fr (ownS w T) w w' ∧ Ext w w' T T'
/-- What the first loop has gathered. -/
structure GathR (W1 wr : World) (wb q base : Nat) (W : Nat → Option Mg) (inter : Bool) (mid : Nat) (left : Nat → Bool) (cnt : Nat) (ys : List Nat) (v : Value) (n : Nat) : Prop where
  rg : RangeX u32X wr wb q (fun i => (W i).map mgV) left cnt
  own : wr.ownsRow base 33 1 v n (n32V ys)
  nd : ys.Nodup
  mem : ∀ y, y ∈ ys ↔ ((W y).isSome = true ∧ left y = false ∧ reachB inter mid y = true)
  fr : Fr (fun i => i = q) W1 wr
/-- What the second loop has let go. -/
structure LeapR (w2 wr : World) (T : Nat → Nat) (p : Nat) (inter : Bool) (bl bo h : Nat) (xs : List Mg) (Om : Nat → Option Nat) (Wb next : Nat → Nat) (wait : List Jo.Ms) (st : Nat) (zs : List Nat) (kk : Nat) (T1 : Nat → Nat) (rv1 : Value) (ms : List Mg) (wait1 : List Jo.Ms) : Prop where
  jo : JO wr T1 p inter bl bo rv1 h (xs ++ ms) Om Wb next wait1
  perm : wait.Perm (ms.map (fun x : Mg => msOf x.m) ++ wait1)
  mids : ms.map (fun x : Mg => x.m.mid) = zs.take kk
  sts : ∀ x ∈ ms, x.m.st = st
  fr : Fr (ownS w2 T) w2 wr
  ext : Ext w2 wr T T1
set_option maxHeartbeats 8000000 in
theorem leap_any (k : JO w T p inter bl bo rv h xs Om Wb next wait) (hxl : xs.length + wait.length ≤ 2000000000) {st b mid : Nat} (ho : Om st = some b) (hm : MidOk inter mid) :
    Calls Try.prog 41 #[jptr p, optr b, .int .u32 (mid : Int)] w (LeapDone w T p inter bl bo h xs Om Wb next wait st mid) := by
  obtain ⟨W0, hW0⟩ : ∃ W0, W0 = (w.alloc (.cells #[jptr p] 28)).alloc (.cells #[optr b] 98) := ⟨_, rfl⟩
  obtain ⟨gj, hgj⟩ : ∃ gj, gj = w.heap.size := ⟨_, rfl⟩
  obtain ⟨go, hgo⟩ : ∃ go, go = w.heap.size + 1 := ⟨_, rfl⟩
  have HB0 : Hid (Below w.heap.size w W0) := by rw [hW0]; exact below_two w _ _
  have HK0 := Lib.hid (k.grows HB0.out)
  have HBJ : Hid (Blk W0 gj 28 #[jptr p]) := by rw [hW0, hgj]; exact (Blk.new w _ _).alloc _
  have HBO : Hid (Blk W0 go 98 #[optr b]) := by
    have := Blk.new (w.alloc (.cells #[jptr p] 28)) 98 #[optr b]
    rw [World.size_alloc] at this
    rw [hW0, hgo]; exact this
  obtain ⟨W, hW1, hW2, hW3⟩ := (HK0.out.ord.ord st b ho).ws
  obtain ⟨w1, cnt, hrun, hrg, hgr, hsz⟩ := MapX.range hW1 (t := 105) Try.underlying105
  have hs0 : W0.heap.size = w.heap.size + 2 := by rw [hW0]; simp
  obtain ⟨q, hq⟩ : ∃ q, q = W0.heap.size := ⟨_, rfl⟩
  rw [← hq] at hrg hrun
  have cb := (HK0.out.ord.ord st b ho).blk.cell 1
  simp only [List.getElem?_toArray, List.getElem?_cons_succ, List.getElem?_cons_zero] at cb
  have cj := HBJ.out.cell 0
  have co := HBO.out.cell 0
  simp only [List.getElem?_toArray, List.getElem?_cons_succ, List.getElem?_cons_zero] at cj co
  obtain ⟨wb, hwb⟩ : ∃ wb, wb = Wb st := ⟨_, rfl⟩
  rw [← hwb] at cb hrun hrg
  have hf01 : Fr (fun _ => False) W0 w1 := (Fr.refl _ W0).grown hgr (fun g hg => by cases hg)
  obtain ⟨base, hbase⟩ : ∃ base, base = w1.heap.size := ⟨_, rfl⟩
  have HL : Hid (w.heap.size ≤ gj ∧ gj < q ∧ w.heap.size ≤ go ∧ go < q ∧ q < base ∧ w.heap.size ≤ q) := by
    have := hsz
    unfold Hid
    refine ⟨by omega, by omega, by omega, by omega, ?_, by omega⟩
    have := hrg.lt
    omega
  have HG0 : Hid (GathR w1 w1 wb q base W inter mid (fun i => (W i).isSome) cnt [] (.slice none 0 0) 0) := ⟨hrg.as_ (fun i => by show ((W i).map mgV).isSome = _; cases W i <;> rfl), World.ownsRow_nil _ _ _ _, List.nodup_nil, fun y => (by
    constructor
    · intro hy; simp at hy
    · rintro ⟨h1, h2, _⟩
      rw [h1] at h2; cases h2), Fr.refl _ _⟩
  have HK1 := Lib.hid (HK0.out.fr hf01 (fun _ _ _ h => h) (Ext.same HK0.out.out hf01.size))
  have HBJ1 := Lib.hid (hf01.blk HBJ.out (fun h => h))
  have HBO1 := Lib.hid (hf01.blk HBO.out (fun h => h))
  have HB1 : Hid (Below w.heap.size w w1) := below_fr HB0.out hf01 (Nat.le_refl _) (fun _ h => h.elim)
  have HBASE := Lib.hid hbase
  have HW2 := Lib.hid hW2
  have HW3 := Lib.hid hW3
  have HWB := Lib.hid hwb
  have HO := Lib.hid ho
  have HM := Lib.hid hm
  have HK := Lib.hid k
  have HXL := Lib.hid hxl
  have HW0 := Lib.hid hW0
  have HGJ := Lib.hid hgj
  have HGO := Lib.hid hgo
  obtain ⟨i0, hi0, hz0, hz1, hz2⟩ := info_parts3 u32_info
  clear k ho hm hW1 hW2 hW3 hrg hgr hsz hs0 hq hwb hf01 hbase hgj hgo hxl HB0 HK0 HBJ HBO hW0
  have h32 := small32 HM.out
  go_enter Try.func41, Try.ntmps41
  go_upto_region 2 with (fail)
  rw [← HGO.out, ← HGJ.out, ← HW0.out]
  clear HW0 HGO HGJ
  go_wp2_with fail
  go_loopw [6, 7] (fun v6 _ wr => ∃ (left : Nat → Bool) (cnt : Nat) (ys : List Nat) (n : Nat), Hid (GathR w1 wr wb q base W inter mid left cnt ys v6 n)) (fun _ _ wr => wr.rangeLeft wb q)
  case atStart => exact ⟨_, _, [], 0, HG0⟩
  case round =>
    clear HG0 hrun cb
    obtain ⟨left, cnt, ys, n, HG⟩ := hrel
    have HKR := Lib.hid (HK1.out.fr HG.out.fr (fun i hi e e' => by have := HK.out.out i (by have := HL.out; omega); omega) (Ext.same HK1.out.out HG.out.fr.size))
    have HBJR := Lib.hid (HG.out.fr.blk HBJ1.out (by have := HL.out; omega))
    have HBOR := Lib.hid (HG.out.fr.blk HBO1.out (by have := HL.out; omega))
    have cj := HBJR.out.cell 0
    have co := HBOR.out.cell 0
    simp only [List.getElem?_toArray, List.getElem?_cons_succ, List.getElem?_cons_zero] at cj co
    obtain ⟨A, c, rfl, hnc, hcm⟩ := own_slice HG.out.own
    have hyn : n = ys.length := by have := HG.out.own.1; simpa [n32V] using this.symm
    have hyw : ∀ y ∈ ys, ∃ x, W y = some x ∧ msOf x.m ∈ wait ∧ x.m.st = st ∧ x.m.mid = y ∧ reachB inter mid y = true := fun y hy => by
      obtain ⟨h1, _, h3⟩ := (HG.out.mem y).1 hy
      obtain ⟨x, hx⟩ := Option.isSome_iff_exists.1 h1
      obtain ⟨a1, a2, a3, _⟩ := HW2.out y x hx
      exact ⟨x, hx, a3, a2, a1, h3⟩
    have hnl : n ≤ wait.length := by
      have := nodup_sub_len ys (wait.map (·.mid)) HG.out.nd (fun y hy => by
        obtain ⟨x, _, h1, _, h2, _⟩ := hyw y hy
        exact List.mem_map.2 ⟨_, h1, h2⟩)
      rw [List.length_map] at this
      omega
    have HYW := Lib.hid hyw
    have HYN := Lib.hid hyn
    have hnl2 : n ≤ 2000000000 := by have := HXL.out; omega
    have HNL := Lib.hid hnl
    clear hyw hyn hnl
    rcases HG.out.rg.next 0 with ⟨hall, hrun2⟩ | ⟨i, v, w2, cnt2, hdom, hli, hfi, hrun2, hrg2, hlt2, hgr2, hsz2, hen⟩
    · have HALL := Lib.hid hall
      clear hall
      have hbl1 : b < w.heap.size := HK.out.ord.lt HO.out
      have hpl1 : p < w.heap.size := Blk.lt HK.out.jb
      have cbn := (HKR.out.ord.ord st b HO.out).blk.cell 0
      simp only [List.getElem?_toArray, List.getElem?_cons_zero] at cbn
      have hbs : base ≤ wr.heap.size := by have := HBASE.out; have := HG.out.fr.size; omega
      have hsort := sort_row HG.out.own hbs (fun y hy => by
        obtain ⟨x, _, h1, _, h2, _⟩ := HYW.out y hy
        have := (HK1.out.ord.wok _ h1).2.1
        have h3 := small32 this
        rw [← h2]; exact h3) (by omega) cj co HKR.out.jb.c0 cbn (small32 (HK.out.ord.nx st)) (by have := HL.out; omega) (by have := HL.out; omega) (by have := HL.out; omega) (by have := HL.out; omega)
      go_wp2_with fail
      refine hsort.mono ?_
      clear hsort hrun2
      rintro e w2 ⟨zs, A', c', rfl, hv, _, hperm, hpw, hrd, hblw, hA⟩
      obtain ⟨rfl, rfl⟩ : A = A' ∧ c = c' := by injection hv with h1 _ h3; exact ⟨h1, h3⟩
      have hf12 : Fr (fun i => i = q) w1 w2 := HG.out.fr.below hblw (fun x h1 h2 => by have := HBASE.out; omega)
      have hlz : zs.length = n := by have := hperm.length_eq; have := HYN.out; omega
      have HZN : Hid (zs.Nodup) := hperm.nodup_iff.2 HG.out.nd
      have HZW : Hid (∀ y ∈ zs, ∃ x, W y = some x ∧ msOf x.m ∈ wait ∧ x.m.st = st ∧ x.m.mid = y ∧ reachB inter mid y = true) := fun y hy => HYW.out y (hperm.mem_iff.1 hy)
      have HZA : Hid (∀ m ∈ wait, m.st = st → reachB inter mid m.mid = true → m.mid ∈ zs) := fun m hm hms hr => by
        obtain ⟨x, hx, _⟩ := HW3.out m hm hms
        exact hperm.mem_iff.2 ((HG.out.mem m.mid).2 ⟨by rw [hx]; rfl, HALL.out _, hr⟩)
      have HPW := Lib.hid hpw
      have HRD := Lib.hid hrd
      have HAB := Lib.hid hA
      have HLZ := Lib.hid hlz
      have HK2 := Lib.hid (HK1.out.fr hf12 (fun i hi e e' => by have := HK.out.out i (by have := HL.out; omega); omega) (Ext.same HK1.out.out hf12.size))
      have HBJ2 := Lib.hid (hf12.blk HBJ1.out (by have := HL.out; omega))
      have HBO2 := Lib.hid (hf12.blk HBO1.out (by have := HL.out; omega))
      have HB2 : Hid (Below w.heap.size w w2) := below_fr HB1.out hf12 (Nat.le_refl _) (fun x e => by have := HL.out; omega)
      clear cj co hv hperm hpw hrd hblw hA hf12 hlz HG HKR HBJR HBOR HYW HYN HALL cbn hbs HW3 HBJ1 HBO1 HK1 HB1
      go_wp2_with fail
      go_loopw [9, 32] (fun _ v32 wx => ∃ (kk : Nat) (T1 : Nat → Nat) (rv1 : Value) (ms : List Mg) (wait1 : List Jo.Ms), v32 = .int .i64 (kk : Int) ∧ kk ≤ n ∧ Hid (LeapR w2 wx T p inter bl bo h xs Om Wb next wait st zs kk T1 rv1 ms wait1)) (fun _ v32 _ => n - (intOf v32).toNat)
      case atStart => exact ⟨0, T, rv, [], wait, rfl, Nat.zero_le _, ⟨by rw [List.append_nil]; exact HK2.out, List.Perm.refl _, rfl, fun x hx => by simp at hx, Fr.refl _ _, Ext.refl HK2.out.out⟩⟩
      case round =>
        obtain ⟨kk, T1, rv1, ms, wait1, rfl, hkk, HLR⟩ := hrel
        have hnw : ∀ i, w.heap.size ≤ i → ¬ ownS w2 T i := fun i hi e => by have h1 := HK.out.out i hi; rcases e.2 with e | e | e <;> (rw [h1] at e; cases e)
        have HBJR := Lib.hid (HLR.out.fr.blk HBJ2.out (hnw gj HL.out.1))
        have HBOR := Lib.hid (HLR.out.fr.blk HBO2.out (hnw go (by have := HL.out; omega)))
        have cj := HBJR.out.cell 0
        have co := HBOR.out.cell 0
        simp only [List.getElem?_toArray, List.getElem?_cons_succ, List.getElem?_cons_zero] at cj co
        have hlm : ms.length + wait1.length = wait.length := by have := HLR.out.perm.length_eq; simp at this; omega
        by_cases hlt : kk < n
        · have hkz : kk < zs.length := by have := HLZ.out; omega
          obtain ⟨y, hy⟩ : ∃ y, y = zs[kk] := ⟨_, rfl⟩
          obtain ⟨ad, hA2, hadb, hcell⟩ := HRD.out.2 (by omega)
          subst hA2
          have hrow := hcell kk (.int .u32 (y : Int)) (by unfold n32V; rw [List.getElem?_map, List.getElem?_eq_getElem hkz, ← hy]; rfl)
          have hadw : w.heap.size ≤ ad.block := by have := HAB.out ad rfl; have := HL.out; omega
          have hcw : wr.cell? (ad.add kk) = some (.int .u32 (y : Int)) := by
            have e1 : (ad.add kk).block = ad.block := by unfold Addr.add; split <;> rfl
            rw [World.cell?_of_block (HLR.out.fr.block _ (by rw [e1]; exact hadb) (by rw [e1]; exact hnw _ hadw))]
            exact hrow
          obtain ⟨x, hx1, hx2, hx3, hx4, hx5⟩ := HZW.out y (by rw [hy]; exact List.getElem_mem hkz)
          have hym : MidOk inter y := by have := (HK.out.ord.wok _ hx2).2.1; rw [← hx4]; exact this
          have hno : ∀ z ∈ ms, z.m.mid ≠ y := fun z hz e => by
            have h1 : z.m.mid ∈ zs.take kk := by rw [← HLR.out.mids]; exact List.mem_map.2 ⟨z, hz, rfl⟩
            rw [e] at h1
            obtain ⟨j, hj, hjy⟩ := List.mem_iff_getElem.1 h1
            rw [List.length_take] at hj
            rw [List.getElem_take, hy] at hjy
            exact (List.pairwise_iff_getElem.1 HZN.out) j kk (by omega) hkz (by omega) hjy
          have hin : waitB wait1 st y = true := waitB_iff.2 ⟨msOf x.m, by
            have h1 := HLR.out.perm.mem_iff.1 hx2
            rcases List.mem_append.1 h1 with h1 | h1
            · obtain ⟨z, hz, he⟩ := List.mem_map.1 h1
              exact absurd (by have := congrArg Jo.Ms.mid he; exact this.trans hx4) (hno z hz)
            · exact h1, hx3, hx4⟩
          have HY := Lib.hid hy
          have HIN := Lib.hid hin
          have hrel := release_any HLR.out.jo (by rw [List.length_append]; have := HXL.out; omega) HO.out hym
          clear hy hrow hadw hx1 hx2 hx3 hx4 hx5 hno hin hym hcell hadb
          go_wp2_with fail
          refine hrel.mono ?_
          clear hrel
          rintro e w3 ⟨r, T3, rv3, xs3, wait3, rfl, hr, hj3, hf3, he3⟩
          rcases hr with ⟨_, _, _, hwf⟩ | ⟨rfl, z, rfl, hz1, hz2, hz3, rfl⟩
          · rw [HIN.out] at hwf; cases hwf
          · have HNEW : Hid (LeapR w2 w3 T p inter bl bo h xs Om Wb next wait st zs (kk + 1) T3 rv3 (ms ++ [z]) (offW wait1 st y)) := by
              refine ⟨by rw [← List.append_assoc]; exact hj3, ?_, ?_, fun x hx => ?_, HLR.out.fr.trans hf3 (fun i hi e => ownS_ext HLR.out.ext HLR.out.fr.size i hi e), HLR.out.ext.trans he3 HLR.out.fr.size⟩
              · have h4 := offW_perm HLR.out.jo.ord.wnd hz1
                have e1 : (msOf z.m).st = st := hz2
                have e2 : (msOf z.m).mid = y := hz3
                rw [e1, e2] at h4
                rw [List.map_append, List.append_assoc]
                exact HLR.out.perm.trans (h4.append_left _)
              · rw [List.map_append, HLR.out.mids, List.take_add_one, List.getElem?_eq_getElem (by have := HLZ.out; omega)]
                show _ ++ [z.m.mid] = _ ++ _
                rw [hz3, HY.out]; rfl
              · rcases List.mem_append.1 hx with hx | hx
                · exact HLR.out.sts x hx
                · rw [List.mem_singleton] at hx; subst hx; exact hz2
            clear hj3 hf3 he3 hz1 hz2 hz3
            go_wp2_with fail
            go_roundw
            case rel => exact ⟨kk + 1, T3, rv3, ms ++ [z], offW wait1 st y, by go_num, by omega, HNEW⟩
            case measure => simp [intOf]; omega
        · have hke : n = kk := by omega
          subst hke
          have hnum0 : (mid + 1) % 4294967296 < 4294967296 := Nat.mod_lt _ (by omega)
          obtain ⟨y, hy⟩ : ∃ y, y = (mid + 1) % 4294967296 := ⟨_, rfl⟩
          have hwy : ((mid : Int) + 1) % 4294967296 = (y : Int) := by omega
          have hwr : IntKind.u32.wrap ((mid : Int) + 1) = (y : Int) := by simp [IntKind.wrap, IntKind.bits, IntKind.signed]; omega
          rw [← hy] at hnum0
          have HYE := Lib.hid hy
          obtain ⟨z, hz⟩ : ∃ z, z = midN inter y := ⟨_, rfl⟩
          have hzok : MidOk inter z := by rw [hz]; exact mid_small inter hnum0
          have HZE := Lib.hid hz
          have HZOK := Lib.hid hzok
          have HJD : Hid (∀ V, V = wr.drew → JO V T1 p inter bl bo rv1 h (xs ++ ms) Om Wb next wait1) := fun V hV => by rw [hV]; exact HLR.out.jo.drewN 1
          have HCD : Hid (∀ V, V = wr.drew → V.cell? ⟨gj, 0, none⟩ = some (jptr p) ∧ V.cell? ⟨go, 0, none⟩ = some (optr b)) := fun V hV => by rw [hV]; exact ⟨cj, co⟩
          have HNUM : Hid (∀ V, V = wr.drew → Calls Try.prog 28 #[jptr p, .int .u32 (y : Int)] V fun e w' => e = .returned (.int .u32 (z : Int)) ∧ V = w') := fun V hV => by rw [hz]; exact number_any (HJD.out V hV).jb.c0 hnum0
          clear hy hz hnum0 hzok cj co
          go_upto_region 13 with (fail)
          refine wp_region_stage_tail 7 (fun _ _ _ => True) (fun _ V => Hid (V = wr.drew)) [(false, .exact (.pointer (some ⟨b, 0, none⟩))),
              (false, .exact (.pointer (some ⟨p, 0, none⟩))),
              (false, .exact (.int .u32 (mid : Int))),
              (false, .exact (.int .u32 (y : Int))),
              (false, .exact (.int .u32 (z : Int))),
              (false, .exact (.pointer (some ⟨b, 0, none⟩))),
              (false, .exact (.pointer (some ⟨b, 0, none⟩)))] (by kernel_rfl) (by kernel_rfl) (by kernel_rfl) rfl (of_decide_eq_true (by kernel_rfl)) (by kernel_rfl) (by kernel_rfl) ?lasts ?start ?walk
          case lasts => exact trivial
          case start => exact rfl
          case walk =>
            simp only [List.take_succ_cons, List.take_zero, List.drop_succ_cons, List.drop_zero]
            refine stageT_pure rfl (fun _ _ => trivial) (fun V m hS hl => by
                have hc := (HCD.out V hS.out).2
                go_simp) ?_
            simp only [Act.put, List.setIfInBounds_toArray, List.set_cons_zero, List.set_cons_succ, List.cons_append, List.nil_append]
            refine stageT_pure rfl (fun _ _ => trivial) (fun V m hS hl => by
                have hc := (HCD.out V hS.out).1
                go_simp) ?_
            simp only [Act.put, List.setIfInBounds_toArray, List.set_cons_zero, List.set_cons_succ, List.cons_append, List.nil_append]
            refine stageT_pure rfl (fun _ _ => trivial) (fun V m hS hl => by go_simp) ?_
            simp only [Act.put, List.setIfInBounds_toArray, List.set_cons_zero, List.set_cons_succ, List.cons_append, List.nil_append]
            refine stageT_pure rfl (fun _ _ => trivial) (fun V m hS hl => by go_simp) ?_
            simp only [Act.put, List.setIfInBounds_toArray, List.set_cons_zero, List.set_cons_succ, List.cons_append, List.nil_append]
            refine stageT_exact rfl (fun V m hS hl => by
                go_simp
                refine Calls.mono (HNUM.out V hS.out) ?_
                rintro e V' ⟨rfl, rfl⟩
                exact ⟨_, rfl, rfl, hS⟩) ?_
            simp only [Act.put, List.setIfInBounds_toArray, List.set_cons_zero, List.set_cons_succ, List.cons_append, List.nil_append]
            refine stageT_pure rfl (fun _ _ => trivial) (fun V m hS hl => by go_simp) ?_
            simp only [Act.put, List.setIfInBounds_toArray, List.set_cons_zero, List.set_cons_succ, List.cons_append, List.nil_append]
            refine stageT_pure rfl (fun _ _ => trivial) (fun V m hS hl => by go_simp) ?_
            simp only [Act.put, List.setIfInBounds_toArray, List.set_cons_zero, List.set_cons_succ, List.cons_append, List.nil_append]
            refine stageT_nil (fun V2 hS hF => ?_)
            have HJV := Lib.hid (HJD.out V2 hS.out)
            have HFV : Hid (Fr (ownS w2 T) w2 V2) := by rw [hS.out]; exact HLR.out.fr.drew
            have HEV : Hid (Ext w2 V2 T T1) := by rw [hS.out]; exact ⟨HLR.out.ext.old, HLR.out.ext.out⟩
            have hcd := HCD.out V2 hS.out
            have HBV : Hid (V2.cell? ⟨gj, 0, none⟩ = some (jptr p) ∧ V2.cell? ⟨go, 0, none⟩ = some (optr b)) := hcd
            have cb2 := (HJV.out.ord.ord st b HO.out).blk.cell 0
            have fb2 := (HJV.out.ord.ord st b HO.out).blk.frozen 0
            simp only [List.getElem?_toArray, List.getElem?_cons_zero] at cb2
            clear hF hcd hwy hwr
            obtain ⟨w4, hw4⟩ : ∃ w4, w4 = V2.setCell ⟨b, 0, none⟩ (.int .u32 (z : Int)) := ⟨_, rfl⟩
            obtain ⟨hn1, hn2⟩ := HJV.out.setNext HO.out HZOK.out
            rw [← hw4] at hn1 hn2
            have HJ4 := Lib.hid hn1
            have HN2 := Lib.hid hn2
            have HT3 : Hid (T1 b = 3) := (HJV.out.ord.ord st b HO.out).tb
            have hTb : T b = 3 := by rw [← HEV.out.old b (by have := HB2.out.size; omega)]; exact HT3.out
            have hgjb : ¬ gj = b := by have := HL.out; omega
            have hgob : ¬ go = b := by have := HL.out; omega
            have cj4 : w4.cell? ⟨gj, 0, none⟩ = some (jptr p) := by
              rw [World.cell?_of_block (hn2.block gj (by have := World.block_lt_of_cell? V2 _ HBV.out.1; exact this) hgjb)]; exact HBV.out.1
            have co4 : w4.cell? ⟨go, 0, none⟩ = some (optr b) := by
              rw [World.cell?_of_block (hn2.block go (by have := World.block_lt_of_cell? V2 _ HBV.out.2; exact this) hgob)]; exact HBV.out.2
            have HF4 : Hid (Fr (ownS w2 T) w2 w4) := HFV.out.trans hn2 (fun i hi e => ⟨hi, by rw [show i = b from e, hTb]; exact .inr (.inl rfl)⟩)
            have HE4 : Hid (Ext w2 w4 T T1) := ⟨HEV.out.old, fun i hi => HEV.out.out i (by rw [hw4] at hi; simpa [World.setCell] using hi)⟩
            have hadv := advance_any HJ4.out (by rw [List.length_append]; have := HXL.out; omega) HO.out
            clear hn1 hn2
            go_upto_region 14 with (fail)
            rw [← hw4]
            clear hw4 hS cb2 fb2
            go_wp2_with fail
            refine hadv.mono ?_
            clear hadv
            rintro e w5 ⟨T5, rv5, xs5, wait5, nx5, rfl, ha, hwf, hj5, hf5, he5⟩
            rw [setN_at] at ha
            rw [setN_setN] at hj5
            have HA := Lib.hid ha
            have HWF := Lib.hid hwf
            have HJ5 := Lib.hid hj5
            have HF5 := Lib.hid hf5
            have HE5 := Lib.hid he5
            clear ha hwf hj5 hf5 he5 cj4 co4
            go_wp2_with fail
            go_end0
            have hmz : ms.map (fun x : Mg => x.m.mid) = zs := by
              rw [HLR.out.mids, List.take_of_length_le (by have := HLZ.out; omega)]
            have hme : ∀ x ∈ ms, x.m.mid ∈ zs := fun x hx => by rw [← hmz]; exact List.mem_map.2 ⟨x, hx, rfl⟩
            have hF2 : Fr (ownS w T) w w2 := (Fr.of_below HB2.out).mono (fun i hi e => by have e' : w.heap.size ≤ i := e; omega)
            have hFA : Fr (ownS w T) w w4 := hF2.trans HF4.out (fun i hi e => ⟨hi, e.2⟩)
            have hEA : Ext w w4 T T1 := ⟨fun i hi => HE4.out.old i (by have := HB2.out.size; omega), HE4.out.out⟩
            refine ⟨T5, rv5, xs5, wait5, nx5, ms, wait1, rfl, HLR.out.perm, fun x hx => ⟨HLR.out.sts x hx, ?_⟩, fun m hm hms => ?_, ?_, by rw [← HYE.out, ← HZE.out]; exact HA.out, HWF.out, HJ5.out, hFA.trans HF5.out (fun i hi e => ownS_ext hEA hFA.size i hi e), hEA.trans HE5.out hFA.size⟩
            · obtain ⟨_, _, _, _, _, h5⟩ := HZW.out _ (hme x hx)
              exact h5
            · cases hr : reachB inter mid m.mid with
              | false => rfl
              | true =>
                exfalso
                have h1 := HZA.out m (HLR.out.perm.mem_iff.2 (List.mem_append.2 (.inr hm))) hms hr
                rw [← hmz] at h1
                obtain ⟨x, hx, he⟩ := List.mem_map.1 h1
                have h2 := (HLR.out.perm.pairwise_iff (fun {a b} hab hba => hab ⟨hba.1.symm, hba.2.symm⟩)).1 HK.out.ord.wnd
                exact (List.pairwise_append.1 h2).2.2 _ (List.mem_map.2 ⟨x, hx, rfl⟩) m hm ⟨(HLR.out.sts x hx).trans hms.symm, he⟩
            · have h1 : zs.Pairwise (fun a b => distM inter (next st) a < distM inter (next st) b) := by
                refine List.Pairwise.imp_of_mem (fun {a c} ha hc hac => ?_) (HPW.out.and HZN.out)
                obtain ⟨x, _, x2, _, x4, _⟩ := HZW.out a ha
                obtain ⟨u, _, u2, _, u4, _⟩ := HZW.out c hc
                have e1 := (HK.out.ord.wok _ x2).2.1
                have e2 := (HK.out.ord.wok _ u2).2.1
                rcases Nat.lt_or_ge (distM inter (next st) a) (distM inter (next st) c) with h | h
                · exact h
                · exact absurd (distM_inj (HK.out.ord.nx st) (by rw [← x4]; exact e1) (by rw [← u4]; exact e2) (Nat.le_antisymm hac.1 h)) hac.2
              rw [← hmz, List.pairwise_map] at h1
              exact h1
    · obtain ⟨x, hx, rfl⟩ : ∃ x, W i = some x ∧ v = mgV x := by
        have hfi' : (W i).map mgV = some v := hfi
        cases hl : W i with
        | none => rw [hl] at hfi'; cases hfi'
        | some x => rw [hl] at hfi'; injection hfi' with hfi'; exact ⟨x, rfl, hfi'.symm⟩
      obtain ⟨a1, a2, a3, _⟩ := HW2.out i x hx
      have him : MidOk inter i := by have := (HK1.out.ord.wok _ a3).2.1; rw [← a1]; exact this
      have hfr2 : Fr (fun i => i = q) wr w2 := (Fr.of_grown hgr2).mono (fun i hi e => by injection e)
      obtain ⟨⟨x1, x2, x3, x4, x5⟩, xA, xc⟩ := x
      obtain ⟨xn, hxn⟩ : ∃ xn, xn = x5.length := ⟨_, rfl⟩
      have hrun3 : (Instr.next (.pointer (some ⟨q, 0, none⟩)) false 0).run Try.prog wr = .ok (.tuple #[.bool true, .int .u32 (i : Int), .agg #[.int .u16 (x1 : Int), .bool x2, .int .u32 (x3 : Int), .int .u32 (x4 : Int), .slice xA xn xc]]) w2 := by rw [hxn]; exact hrun2
      have hen3 : (Instr.entry (.pointer (some ⟨q, 0, none⟩))).run Try.prog w2 = .ok (.tuple #[.int .u32 (i : Int), .agg #[.int .u16 (x1 : Int), .bool x2, .int .u32 (x3 : Int), .int .u32 (x4 : Int), .slice xA xn xc]]) w2 := by rw [hxn]; exact hen
      have hqb : ∀ g, (Value.slice A n c).ownBlock = some g → ¬ g = q := fun g hg => by have := (HG.out.own.lt g hg).1; have := HL.out; omega
      have hno : ¬ i ∈ ys := fun hy => by have := ((HG.out.mem i).1 hy).2.1; rw [hli] at this; cases this
      have HOWN2 := Lib.hid (hfr2.own HG.out.own hqb)
      have HRG2 := Lib.hid hrg2
      have HLT := Lib.hid hlt2
      have HCE := Lib.hid HG.out.rg.left_eq
      have HF2 : Hid (Fr (fun i => i = q) w1 w2) := HG.out.fr.same hfr2
      have HND := Lib.hid HG.out.nd
      have HMEM := Lib.hid HG.out.mem
      have HNO := Lib.hid hno
      have HLI := Lib.hid hli
      have HX : Hid ((W i).isSome = true) := by unfold Hid; rw [hx]; rfl
      have HKR2 := Lib.hid (HKR.out.fr hfr2 (fun i hi e e' => by have := HK.out.out i (by have := HL.out; omega); omega) (Ext.same HKR.out.out hfr2.size))
      have cj2 := (hfr2.blk HBJR.out (by have := HL.out; omega)).cell 0
      simp only [List.getElem?_toArray, List.getElem?_cons_succ, List.getElem?_cons_zero] at cj2
      have hre := reaches_any HKR2.out.jb.c0 HM.out him
      obtain ⟨rb, hrb⟩ : ∃ rb, rb = reachB inter mid i := ⟨_, rfl⟩
      rw [← hrb] at hre
      have HRB := Lib.hid hrb
      have hi32 := small32 him
      have hbs : base ≤ w2.heap.size := by have := HBASE.out; have := HF2.out.size; omega
      clear hrun2 hen hsz2 hfi hx hxn hrg2 hgr2 hlt2 hfr2 hqb hno hli hdom hrb HG a1 a2 a3 him cj co HKR HBJR HBOR HYW HKR2
      go_wp2_with fail
      refine hre.mono ?_
      rintro e w' ⟨rfl, rfl⟩
      clear hre
      cases rb
      · go_wp2_with fail
        go_roundw
        case rel => exact ⟨_, cnt2, ys, n, ⟨HRG2.out, HOWN2.out, HND.out, fun y => by
          rw [HMEM.out]
          constructor
          · rintro ⟨b1, b2, b3⟩; exact ⟨b1, by simp [b2], b3⟩
          · rintro ⟨b1, b2, b3⟩
            have hne : y ≠ i := fun e => by rw [e, ← HRB.out] at b3; cases b3
            exact ⟨b1, by simpa [hne] using b2, b3⟩, HF2.out⟩⟩
        case measure => rw [HRG2.out.left_eq, HCE.out]; exact HLT.out
      · go_wp2_with (at_builtin; refine wpList_append_any _ rfl (.tmp 23) (.tmp 25) _ rfl base 33 i0 _ 1 4 Try.underlying36 hi0 hz0 hz1 hz2 rfl (by omega) (.slice A n c) n _ rfl (((Fr.refl (fun _ => False) w2).alloc _).own HOWN2.out (fun _ _ h => h)) (w2.heap.size + 1) (some ⟨w2.heap.size, 0, none⟩) 1 1 [.int .u32 (i : Int)] rfl (blk_reads (Blk.new w2 33 #[.int .u32 (i : Int)]) rfl) (by simp [Value.oneCell']) (by simp only [maxLen]; omega) (by omega) (by simp; omega) ?_; intro v7 w7 hown7 hg7 hat7; have HOWN7 := Lib.hid hown7; have HG7 := Lib.hid hg7; obtain ⟨A7, c7, rfl, h7a, h7b⟩ := own_slice hown7; clear hown7 hg7 hat7)
        go_roundw
        case rel =>
          have hf7 : Fr (fun k => k ∉ [wb, q] ∧ base ≤ k) w2 w7 := ((Fr.refl _ w2).alloc _).grown HG7.out (fun g hg => by
            have h1 := HOWN2.out.lt g hg
            have h2 := HL.out
            refine .inl ⟨?_, h1.1⟩
            simp only [List.mem_cons, List.not_mem_nil, or_false]
            have h3 := HRG2.out.map.lt
            have h4 : wb < w.heap.size := by rw [HWB.out]; exact HK.out.ord.wlt HO.out
            omega)
          have hl1 := HL.out
          have hwbl : wb < w.heap.size := by rw [HWB.out]; exact HK.out.ord.wlt HO.out
          refine ⟨_, cnt2, ys ++ [i], n + 1, ⟨HRG2.out.fr hf7 (fun e => by simp at e) (fun e => by simp at e), ?_, ?_, fun y => ?_, HF2.out.trans hf7 (fun j hj e => by have := HBASE.out; omega)⟩⟩
          · have h1 := HOWN7.out
            rw [show n32V (ys ++ [i]) = n32V ys ++ [.int .u32 (i : Int)] by simp [n32V]]
            exact h1
          · rw [List.nodup_append]
            refine ⟨HND.out, by simp, fun a ha c hc e => ?_⟩
            rw [List.mem_singleton] at hc
            subst hc
            exact HNO.out (by rw [← e]; exact ha)
          · rw [List.mem_append, List.mem_singleton, HMEM.out]
            constructor
            · rintro (⟨b1, b2, b3⟩ | rfl)
              · exact ⟨b1, by simp [b2], b3⟩
              · exact ⟨HX.out, by simp, HRB.out.symm⟩
            · rintro ⟨b1, b2, b3⟩
              by_cases hne : y = i
              · exact .inr hne
              · exact .inl ⟨b1, by simpa [hne] using b2, b3⟩
        case measure =>
          have hf7 : Fr (fun k => k ∉ [wb, q] ∧ base ≤ k) w2 w7 := ((Fr.refl _ w2).alloc _).grown HG7.out (fun g hg => by
            have h1 := HOWN2.out.lt g hg
            have h2 := HL.out
            refine .inl ⟨?_, h1.1⟩
            simp only [List.mem_cons, List.not_mem_nil, or_false]
            have h4 : wb < w.heap.size := by rw [HWB.out]; exact HK.out.ord.wlt HO.out
            omega)
          rw [(HRG2.out.fr hf7 (fun e => by simp at e) (fun e => by simp at e)).left_eq, HCE.out]; exact HLT.out
end
end Go.Proofs.Ytioddokjogbmnaa.Chk

set_option linter.unusedVariables false
set_option linter.unusedSimpArgs false
set_option maxRecDepth 20000
namespace Go.Proofs.Ytioddokjogbmnaa.Chk
open Go.ChangeShapes Go.WideShapes Go.ChangeAt Go.RowKit Go.Deep Go.Maps Go.Proofs.Ytioddokjogbmnaa.Words Go.Proofs.Ytioddokjogbmnaa.Oct Go.Proofs.Ytioddokjogbmnaa.Par Go.Proofs.Ytioddokjogbmnaa.Mx
structure PcOk (inter : Bool) (q : Jo.Pc) : Prop where
  ne : q.body ≠ []
  st : q.st < 65536
  mid : MidOk inter q.mid
  idx : idxP inter q < 4294967296
  bg : inter = true → q.bg = decide (q.fr = 0)
  fr : inter = true → q.fr ≤ 65535
structure JRp (w : World) (T : Nat → Nat) (p bl bo : Nat) (inter : Bool) (rv : Value) (F : Gk → Option Nat) (Om : Nat → Option Nat) (Wb : Nat → Nat) (xs : List Mg) (s : Jo.JS) : Prop where
  jo : JO w T p inter bl bo rv (Jo.held s) xs Om Wb s.next s.wait
  ln : LinesR w T bl inter F s.pcs
  rd : s.ready = xs.map (fun x => msOf x.m)
  small : Jo.held s ≤ 2000000000
  pok : ∀ q ∈ s.pcs, PcOk inter q
def JRep (w : World) (G : Nat → Prop) (p : Nat) (inter : Bool) (s : Jo.JS) : Prop :=
  ∃ T bl bo rv F Om Wb xs, (∀ i, G i ↔ T i ≠ 0) ∧ JRp w T p bl bo inter rv F Om Wb xs s
section
variable {w w' : World} {T T' : Nat → Nat} {p bl bo h h' : Nat} {inter : Bool} {rv : Value} {F : Gk → Option Nat} {xs : List Mg} {Om : Nat → Option Nat} {Wb next : Nat → Nat} {wait wait' : List Jo.Ms} {S G : Nat → Prop} {s : Jo.JS}
theorem JRep.fr (k : JRep w G p inter s) (hf : Fr S w w') (hS : ∀ i, S i → i < w.heap.size → ¬ G i) : JRep w' G p inter s := by
  obtain ⟨T, bl, bo, rv, F, Om, Wb, xs, hG, k⟩ := k
  have hn : ∀ i, i < w.heap.size → T i ≠ 0 → ¬ S i := fun i hi e hs => hS i hs hi ((hG i).2 e)
  refine ⟨T, bl, bo, rv, F, Om, Wb, xs, hG, k.jo.fr hf (fun i hi e => hn i hi (by rcases e with e | e | e | e <;> (rw [e]; decide))) (Ext.same k.jo.out hf.size), k.ln.fr hf (fun i hi e => hn i hi (by rw [e]; decide)) (fun i hi e => hn i hi (by rw [e]; decide)) (fun _ _ => rfl), k.rd, k.small, k.pok⟩
theorem JRep.lt (k : JRep w G p inter s) (i : Nat) (hi : G i) : i < w.heap.size := by
  obtain ⟨T, bl, bo, rv, F, Om, Wb, xs, hG, k⟩ := k
  rcases Nat.lt_or_ge i w.heap.size with h | h
  · exact h
  · exact absurd (k.jo.out i h) ((hG i).1 hi)
/-- A held number of its own, and lines that turned. -/
theorem JO.reheld (k : JO w T p inter bl bo rv h xs Om Wb next wait) (hf : Fr (fun i => i < w.heap.size ∧ (T i = 2 ∨ i = p)) w w') (hj : JB w' p inter bl bo rv h') : JO w' T p inter bl bo rv h' xs Om Wb next wait := by
  have hn : ∀ i, i < w.heap.size → (T i = 3 ∨ T i = 4 ∨ T i = 5) → ¬ (i < w.heap.size ∧ (T i = 2 ∨ i = p)) := fun i hi e hx => by
    rcases hx.2 with h2 | h2
    · rw [h2] at e; rcases e with e | e | e <;> cases e
    · rw [h2, k.tp] at e; rcases e with e | e | e <;> cases e
  exact ⟨hj, k.tp, k.ord.fr hf (fun i hi e => hn i hi (.inl e)) (fun i hi e => hn i hi (.inr (.inr e))) (fun _ _ => rfl), k.rdy.fr hf (fun i hi e => hn i hi (.inr (.inl e))) (fun _ _ => rfl), fun x hx => (k.rok x hx).fr hf (fun i hi e => hn i hi (.inr (.inr e))) (fun _ _ => rfl), fun i hi => k.out i (by have := hf.size; omega)⟩
theorem JO.xlen (k : JO w T p inter bl bo rv h xs Om Wb next wait) : xs.length ≤ Jo.sizeM (xs.map fun x => msOf x.m) := by
  have : ∀ l : List Mg, (∀ x ∈ l, x.m.body ≠ []) → l.length ≤ Jo.sizeM (l.map fun x => msOf x.m) := fun l => by
    induction l with
    | nil => intro _; simp
    | cons a t ih =>
      intro hl
      have h1 := ih (fun x hx => hl x (List.mem_cons_of_mem _ hx))
      have h2 := hl a List.mem_cons_self
      have h3 : 0 < (msOf a.m).body.length := List.length_pos_iff.2 h2
      have ec : Jo.sizeM ((a :: t).map fun x => msOf x.m) = (msOf a.m).body.length + Jo.sizeM (t.map fun x => msOf x.m) := by simp [Jo.sizeM]
      rw [ec, List.length_cons]; omega
  exact this xs (fun x hx => (k.rok x hx).ne)
theorem JO.wlen (k : JO w T p inter bl bo rv h xs Om Wb next wait) : wait.length ≤ Jo.sizeM wait := by
  have hne : ∀ m ∈ wait, m.body ≠ [] := fun m hm => by
    cases ho : Om m.st with
    | none => exact absurd rfl ((k.ord.none_ m.st ho).2 m hm)
    | some b =>
      obtain ⟨W, h1, h2, h3⟩ := (k.ord.ord m.st b ho).ws
      obtain ⟨x, hx, e⟩ := h3 m hm rfl
      have := (h2 _ x hx).2.2.2.ne
      rw [← e]; exact this
  have : ∀ l : List Jo.Ms, (∀ x ∈ l, x.body ≠ []) → l.length ≤ Jo.sizeM l := fun l => by
    induction l with
    | nil => intro _; simp
    | cons a t ih =>
      intro hl
      have h1 := ih (fun x hx => hl x (List.mem_cons_of_mem _ hx))
      have h3 : 0 < a.body.length := List.length_pos_iff.2 (hl a List.mem_cons_self)
      have ec : Jo.sizeM (a :: t) = a.body.length + Jo.sizeM t := by simp [Jo.sizeM]
      rw [ec, List.length_cons]; omega
  exact this wait hne
theorem JRp.few (k : JRp w T p bl bo inter rv F Om Wb xs s) : xs.length + s.wait.length ≤ 2000000000 := by
  have h1 := k.jo.xlen
  have h2 := k.jo.wlen
  have h3 := k.small
  rw [← k.rd] at h1
  unfold Jo.held at h3
  omega
theorem AdvR.goes {st nx nx' : Nat} {xs' : List Mg} (k : AdvR inter st nx xs xs' wait wait' nx') (hw : waitB wait' st nx' = false) : Jo.Goes inter st wait wait' (xs.map fun x => msOf x.m) (xs'.map fun x => msOf x.m) nx nx' := by
  obtain ⟨ms, h1, h2, h3, h4⟩ := k.ex
  refine ⟨ms.map fun x => msOf x.m, by rw [h1, List.map_append], h2, fun i m hm => ?_, by rw [List.length_map]; exact h4, fun m hm e => ?_⟩
  · rw [List.getElem?_map] at hm
    cases hi : ms[i]? with
    | none => rw [hi] at hm; cases hm
    | some x => rw [hi] at hm; injection hm with hm; rw [← hm]; exact h3 i x hi
  · have := waitB_iff.2 ⟨m, hm, e.1, e.2⟩
    rw [hw] at this; cases this
theorem sizeM_perm {a b : List Jo.Ms} (h : a.Perm b) : Jo.sizeM a = Jo.sizeM b := by unfold Jo.sizeM; exact (h.map _).sum_nat
theorem AdvR.size {st nx nx' : Nat} {xs' : List Mg} (k : AdvR inter st nx xs xs' wait wait' nx') : Jo.sizeM wait' + Jo.sizeM (xs'.map fun x => msOf x.m) = Jo.sizeM wait + Jo.sizeM (xs.map fun x => msOf x.m) := by
  obtain ⟨ms, h1, h2, _⟩ := k.ex
  rw [sizeM_perm h2, h1, List.map_append, Jo.sizeM_append, Jo.sizeM_append]
  omega
theorem held_any (k : JRep w G p inter s) : Calls Try.prog 17 #[jptr p] w fun e w' => e = .returned (.int .i64 (Jo.held s : Int)) ∧ Below w.heap.size w w' := by
  obtain ⟨T, bl, bo, rv, F, Om, Wb, xs, hG, k⟩ := k
  have c4 := k.jo.jb.c4
  obtain ⟨n, hn⟩ : ∃ n, n = Jo.held s := ⟨_, rfl⟩
  rw [← hn] at c4 ⊢
  clear k hn hG
  go_enter Try.func17, Try.ntmps17
  go_wp2
  go_ret
  exact ⟨rfl, Below.refl _ _⟩
theorem joiner_built (inter : Bool) (g g2 : Nat) : Try.prog.built 76 [(0, .bool inter), (1, .map (some g)), (2, .map (some g2))] = some #[.bool inter, .map (some g), .map (some g2), .slice none 0 0, .int .i64 0] := by kernel_rfl
def newT (n i : Nat) : Nat := if i = n then 2 else if i = n + 1 then 3 else if i = n + 2 then 1 else 0
set_option maxHeartbeats 1000000 in
theorem new_any (w : World) (inter : Bool) : Calls Try.prog 14 #[.bool inter] w fun e w' => ∃ G p, e = .returned (jptr p) ∧ JRep w' G p inter js0 ∧ (∀ i, G i → w.heap.size ≤ i) ∧ Hid (Below w.heap.size w w') := by
  have hmm := @run_makeMap Try.prog
  go_enter Try.func14, Try.ntmps14
  go_wp2_with (refine wpList_build_as rfl 76 _ rfl _ (joiner_built _ _ _) ?_)
  go_ret
  obtain ⟨W, hW⟩ : ∃ W, W = ((w.alloc (.map #[] 0)).alloc (.map #[] 0)) := ⟨_, rfl⟩
  have hs : W.heap.size = w.heap.size + 2 := by rw [hW]; simp
  have hb := Blk.new W 76 #[.bool inter, .map (some w.heap.size), .map (some (w.heap.size + 1)), .slice none 0 0, .int .i64 0]
  rw [hs] at hb
  have hl : MapX grpX (W.alloc (.cells #[.bool inter, .map (some w.heap.size), .map (some (w.heap.size + 1)), .slice none 0 0, .int .i64 0] 76)) w.heap.size (fun _ => none) := by
    rw [hW]
    exact ((MapX.new grpX w).fr ((Fr.refl (fun _ => False) _).alloc _) (fun h => h)).fr ((Fr.refl (fun _ => False) _).alloc _) (fun h => h)
  have ho : MapX u16X (W.alloc (.cells #[.bool inter, .map (some w.heap.size), .map (some (w.heap.size + 1)), .slice none 0 0, .int .i64 0] 76)) (w.heap.size + 1) (fun _ => none) := by
    rw [hW]
    have h1 := MapX.new u16X (w.alloc (.map #[] 0))
    rw [World.size_alloc] at h1
    exact h1.fr ((Fr.refl (fun _ => False) _).alloc _) (fun h => h)
  have hBel : Below w.heap.size w (W.alloc (.cells #[.bool inter, .map (some w.heap.size), .map (some (w.heap.size + 1)), .slice none 0 0, .int .i64 0] 76)) := by
    rw [hW]
    exact (below_two w _ _).alloc (by simp; omega) _
  have hm0 : 0 < Jo.modN inter := modN_pos
  refine ⟨fun i => newT w.heap.size i ≠ 0, w.heap.size + 2, ?_, ⟨newT w.heap.size, w.heap.size, w.heap.size + 1, .slice none 0 0, fun _ => none, fun _ => none, fun _ => 0, [], fun i => Iff.rfl, ?_⟩, fun i hi => ?_, ?_⟩
  · rfl
  · rw [← hW]
    have t2 : newT w.heap.size w.heap.size = 2 := if_pos rfl
    have t3 : newT w.heap.size (w.heap.size + 1) = 3 := by unfold newT; rw [if_neg (by omega), if_pos rfl]
    have t1 : newT w.heap.size (w.heap.size + 2) = 1 := by unfold newT; rw [if_neg (by omega), if_neg (by omega), if_pos rfl]
    refine ⟨⟨hb, t1, ⟨t3, ho, fun st b h => (by cases h), fun st _ => ⟨rfl, fun m hm => by simp [js0] at hm⟩, fun s s' b h => (by cases h), fun s s' b b' h => (by cases h), fun m hm => by simp [js0] at hm, fun st => hm0, List.Pairwise.nil⟩, .inl ⟨rfl, rfl⟩, fun x hx => by simp at hx, fun i hi => ?_⟩, ⟨t2, hl, ⟨fun g b h => (by cases h), fun q hq => by simp [js0] at hq, fun g g' b h => (by cases h)⟩⟩, rfl, by simp [js0, Jo.held, Jo.sizeP, Jo.sizeM], fun q hq => by simp [js0] at hq⟩
    rw [World.size_alloc, hs] at hi
    unfold newT
    rw [if_neg (by omega), if_neg (by omega), if_neg (by omega)]
  · have hi' : newT w.heap.size i ≠ 0 := hi
    unfold newT at hi'
    rcases Nat.lt_or_ge i w.heap.size with h | h
    · rw [if_neg (by omega), if_neg (by omega), if_neg (by omega)] at hi'
      exact absurd rfl hi'
    · exact h
  · rw [← hW]; exact hBel
end
end Go.Proofs.Ytioddokjogbmnaa.Chk

set_option linter.unusedVariables false
set_option linter.unusedSimpArgs false
set_option maxRecDepth 20000
namespace Go.Proofs.Ytioddokjogbmnaa.Chk
open Go.ChangeShapes Go.WideShapes Go.ChangeAt Go.RowKit Go.Deep Go.Maps Go.Proofs.Ytioddokjogbmnaa.Words Go.Proofs.Ytioddokjogbmnaa.Oct Go.Proofs.Ytioddokjogbmnaa.Par Go.Proofs.Ytioddokjogbmnaa.Mx
section
variable {inter : Bool} {g : Gk} {L : Nat → Option Fg} {c : Jo.Pc} {pcs Lw : List Jo.Pc}
theorem fol_of {i : Nat} {x y : Fg} (h1 : L i = some x) (h2 : L ((i + 1) % 4294967296) = some y) (h3 : x.en = false) (h4 : y.bg = false) (h5 : togB x.m y.m = true) : folB L i = true := by
  unfold folB
  rw [h1, h2]
  simp [h3, h4, h5]
theorem same_key {p q : Jo.Pc} (h : Jo.same inter p q) : keyP inter q = keyP inter p := by
  unfold keyP keyC
  obtain ⟨h1, h2, h3⟩ := h
  cases inter
  · rfl
  · rw [if_pos rfl, if_pos rfl]
    rcases h3 with h3 | ⟨h3, _⟩
    · rw [h1, h2, h3]
    · cases h3
theorem same_tog {p q : Jo.Pc} (h : Jo.same inter p q) : togB (pcM p) (pcM q) = true := by
  obtain ⟨h1, h2, h3⟩ := h
  unfold togB pcM
  simp only [Bool.and_eq_true, decide_eq_true_eq, Bool.or_eq_true]
  refine ⟨h1, h2, ?_⟩
  rcases h3 with h3 | ⟨_, h3⟩
  · exact .inr h3
  · exact .inl h3
theorem whole_steps {k : Nat} (hW : Jo.Whole inter Lw) (hok : ∀ p ∈ Lw, PcOk inter p) (hk : k < Lw.length) (hL : LnOf (idxP inter) L (atK inter (keyP inter Lw[k]) (c :: pcs))) (hsub : ∀ p ∈ Lw, p ∈ c :: pcs) :
    (∀ j (h : j + 1 < Lw.length), idxP inter Lw[j + 1] = (idxP inter Lw[j] + 1) % 4294967296) ∧ (∀ j (h : j < Lw.length), ∃ x, L (idxP inter Lw[j]) = some x ∧ Fits x Lw[j]) := by
  have hlat : ∀ j (h : j + 1 < Lw.length), _ := fun j h => hW.later j Lw[j] Lw[j + 1] (List.getElem?_eq_getElem _) (List.getElem?_eq_getElem _)
  refine ⟨fun j h => ?_, ?_⟩
  · obtain ⟨_, _, h3, h4, _⟩ := hlat j h
    unfold idxP
    cases inter
    · simp only [Bool.false_eq_true, if_false]
      exact h4 rfl
    · simp only [if_true]
      rw [h3 rfl]
      have h5 := (hok _ (List.getElem_mem (show j < Lw.length by omega))).fr rfl
      omega
  · have hkey0 : ∀ j (h : j < Lw.length), keyP inter Lw[j] = keyP inter Lw[0] := by
      intro j
      induction j with
      | zero => intro _; rfl
      | succ j ih =>
        intro h
        rw [← ih (by omega)]
        exact same_key (hlat j h).2.2.2.2
    intro j h
    have hm : Lw[j] ∈ atK inter (keyP inter Lw[k]) (c :: pcs) := List.mem_filter.2 ⟨hsub _ (List.getElem_mem h), by rw [hkey0 j h, hkey0 k hk]; simp⟩
    exact hL.has _ hm
/-- Where none is found, none is whole. -/
theorem whole_none (hok : ∀ p ∈ c :: pcs, PcOk inter p) (hL : LnOf (idxP inter) L (atK inter (keyP inter c) (c :: pcs))) (hz : (atK inter (keyP inter c) (c :: pcs)).length ≤ 2000000000) (hno : ∀ a cc, a ≤ 2000000000 → ¬ Chain L (idxP inter c) a cc)
    (hW : Jo.Whole inter Lw) (hsub : ∀ p ∈ Lw, p ∈ c :: pcs) (hc : c ∈ Lw) : False := by
  obtain ⟨k, hk, hkc⟩ := List.mem_iff_getElem.1 hc
  subst hkc
  obtain ⟨s1, s2⟩ := whole_steps hW (fun p hp => hok p (hsub p hp)) hk hL hsub
  obtain ⟨i, hi⟩ : ∃ i, i = idxP inter Lw[k] := ⟨_, rfl⟩
  have hi32 : i < 4294967296 := by rw [hi]; exact (hok _ (hsub _ (List.getElem_mem hk))).idx
  rw [← hi] at hno
  have hup : ∀ q (h : k + q < Lw.length), idxP inter Lw[k + q] = up i q := by
    intro q
    induction q with
    | zero => intro _; show idxP inter Lw[k] = up i 0; unfold up; rw [← hi]; omega
    | succ q ih =>
      intro h
      rw [← up_up, ← ih (by omega)]
      exact s1 (k + q) h
  have hdn : ∀ q (h : q ≤ k), q ≤ 4294967295 → idxP inter (Lw[k - q]'(by omega)) = dn i q := by
    intro q
    induction q with
    | zero => intro _ _; unfold dn; rw [show idxP inter (Lw[k - 0]'(by omega)) = i from hi.symm]; omega
    | succ q ih =>
      intro h hq
      have h1 := s1 (k - (q + 1)) (by omega)
      have h2 := ih (by omega) (by omega)
      have e : k - (q + 1) + 1 = k - q := by omega
      have h3 : idxP inter (Lw[k - q]'(by omega)) = (idxP inter (Lw[k - (q + 1)]'(by omega)) + 1) % 4294967296 := by
        rw [← h1]; congr 2; exact e.symm
      have h4 := (hok _ (hsub _ (List.getElem_mem (show k - (q + 1) < Lw.length by omega)))).idx
      rw [h2] at h3
      unfold dn at h3 ⊢
      omega
  have hfol : ∀ j (h : j + 1 < Lw.length), folB L (idxP inter Lw[j]) = true := fun j h => by
    obtain ⟨x, x1, x2⟩ := s2 j (by omega)
    obtain ⟨y, y1, y2⟩ := s2 (j + 1) h
    obtain ⟨l1, l2, _, _, l5⟩ := hW.later j Lw[j] Lw[j + 1] (List.getElem?_eq_getElem _) (List.getElem?_eq_getElem _)
    rw [s1 j h] at y1
    exact fol_of x1 y1 (by rw [x2.en]; exact l1) (by rw [y2.bg]; exact l2) (by rw [x2.m, y2.m]; exact same_tog l5)
  have hgoes : ∀ a, a ≤ k → a ≤ 4294967295 → Goes2 L i a (Lw.length - 1 - k) := fun a ha ha2 => ⟨fun q hq => by
    have h1 := hfol (k - (q + 1)) (by omega)
    rw [hdn (q + 1) (by omega) (by omega)] at h1
    exact h1, fun q hq => by
    have h1 := hfol (k + q) (by omega)
    rw [hup q (by omega)] at h1
    exact h1⟩
  have hfew := hL.few hz
  have hk2 : k ≤ 2000000000 := by
    rcases Nat.lt_or_ge k 4294967295 with h | h
    · exact (hgoes k (Nat.le_refl _) (by omega)).few_dn hfew (by omega)
    · have := (hgoes 4294967295 h (Nat.le_refl _)).few_dn hfew (Nat.le_refl _)
      omega
  refine hno k (Lw.length - 1 - k) hk2 ⟨?_, ?_, hgoes k (Nat.le_refl _) (by omega)⟩
  · obtain ⟨x, x1, x2⟩ := s2 0 (by omega)
    have h1 := hdn k (Nat.le_refl _) (by omega)
    have h2 : idxP inter (Lw[0]'(by omega)) = dn i k := by rw [← h1]; congr 2; omega
    unfold bgB
    rw [← h2, x1]
    show x.bg = true
    rw [x2.bg]
    exact hW.first _ (List.getElem?_eq_getElem _)
  · obtain ⟨x, x1, x2⟩ := s2 (Lw.length - 1) (by omega)
    have h1 := hup (Lw.length - 1 - k) (by omega)
    have h2 : idxP inter (Lw[Lw.length - 1]'(by omega)) = up i (Lw.length - 1 - k) := by rw [← h1]; congr 2; omega
    unfold enB
    rw [← h2, x1]
    show x.en = true
    rw [x2.en]
    exact hW.last _ (List.getElem?_eq_getElem _)
end
end Go.Proofs.Ytioddokjogbmnaa.Chk

set_option linter.unusedVariables false
set_option linter.unusedSimpArgs false
set_option maxRecDepth 20000
namespace Go.Proofs.Ytioddokjogbmnaa.Chk
open Go.ChangeShapes Go.WideShapes Go.ChangeAt Go.RowKit Go.Deep Go.Maps Go.Proofs.Ytioddokjogbmnaa.Words Go.Proofs.Ytioddokjogbmnaa.Oct Go.Proofs.Ytioddokjogbmnaa.Par Go.Proofs.Ytioddokjogbmnaa.Mx
section
variable {inter : Bool} {g : Gk} {L : Nat → Option Fg} {c : Jo.Pc} {pcs Lw : List Jo.Pc}
theorem list_of {α : Type} {P : Nat → α → Prop} : ∀ n, (∀ j, j < n → ∃ z, P j z) → ∃ l : List α, l.length = n ∧ ∀ j z, l[j]? = some z → P j z
  | 0, _ => ⟨[], rfl, fun j z h => by simp at h⟩
  | n + 1, h => by
    obtain ⟨l, h1, h2⟩ := list_of n (fun j hj => h j (by omega))
    obtain ⟨z, hz⟩ := h n (by omega)
    refine ⟨l ++ [z], by simp [h1], fun j y hy => ?_⟩
    rcases Nat.lt_or_ge j n with hj | hj
    · rw [List.getElem?_append_left (by omega)] at hy
      exact h2 j y hy
    · have hj2 : j = n := by
        have := (List.getElem?_eq_some_iff.1 hy).1
        simp [h1] at this
        omega
      subst hj2
      rw [List.getElem?_append_right (by omega), h1, Nat.sub_self] at hy
      simp only [List.getElem?_cons_zero, Option.some.injEq] at hy
      subst hy
      exact hz
def inCut (f n i : Nat) : Bool := decide ((i + 4294967296 - f) % 4294967296 < n + 1)
/-- The pieces of a message that is whole, with what the line has of them. -/
structure CutL (inter : Bool) (L : Nat → Option Fg) (ps : List Jo.Pc) (f n : Nat) (zs : List (Fg × Jo.Pc)) : Prop where
  len : zs.length = n + 1
  at_ : ∀ j z, zs[j]? = some z → L (up f j) = some z.1 ∧ z.2 ∈ ps ∧ idxP inter z.2 = up f j ∧ Fits z.1 z.2
theorem chain_cut {a cc i : Nat} (hi : i < 4294967296) (hLi : ∃ x, L i = some x) {ps : List Jo.Pc} (hL : LnOf (idxP inter) L ps) (hz : ps.length ≤ 2000000000) (ha : a ≤ 2000000000) (hc : cc ≤ 2000000000) (h : Chain L i a cc) :
    a + cc ≤ 2000000000 ∧ ∃ zs, CutL inter L ps (dn i a) (a + cc) zs ∧ ∀ j, j < a + cc → folB L (up (dn i a) j) = true := by
  have hfol : ∀ j, j < a + cc → folB L (up (dn i a) j) = true := fun j hj => by
    rcases Nat.lt_or_ge j a with h1 | h1
    · have := h.go.gd (a - (j + 1)) (by omega)
      have e : up (dn i a) j = dn i (a - (j + 1) + 1) := by unfold up dn; omega
      rw [e]; exact this
    · have := h.go.gu (j - a) (by omega)
      have e : up (dn i a) j = up i (j - a) := by unfold up dn; omega
      rw [e]; exact this
  have hsome : ∀ j, j < a + cc + 1 → ∃ x, L (up (dn i a) j) = some x := fun j hj => by
    rcases Nat.lt_or_ge j (a + cc) with h1 | h1
    · obtain ⟨x, y, h2, _⟩ := folB_some (hfol j h1)
      exact ⟨x, h2⟩
    · rcases Nat.eq_zero_or_pos (a + cc) with h2 | h2
      · have e : up (dn i a) j = i := by unfold up dn; omega
        rw [e]; exact hLi
      · obtain ⟨x, y, _, h3, _⟩ := folB_some (hfol (a + cc - 1) (by omega))
        rw [up_up] at h3
        exact ⟨y, by rw [show j = a + cc - 1 + 1 by omega]; exact h3⟩
  obtain ⟨zs, z1, z2⟩ := list_of (α := Fg × Jo.Pc) (P := fun j z => L (up (dn i a) j) = some z.1 ∧ z.2 ∈ ps ∧ idxP inter z.2 = up (dn i a) j ∧ Fits z.1 z.2) (a + cc + 1) (fun j hj => by
    obtain ⟨x, hx⟩ := hsome j hj
    obtain ⟨p, p1, p2, p3⟩ := hL.at_ hx
    exact ⟨(x, p), hx, p1, p2, p3⟩)
  refine ⟨?_, zs, ⟨z1, z2⟩, hfol⟩
  have h1 := nodup_sub_len ((List.range (a + cc + 1)).map fun j => up (dn i a) j) (ps.map (idxP inter)) (range_map_nodup (fun x y hx hy e => by unfold up dn at e; omega)) (fun v hv => by
    obtain ⟨j, hj, rfl⟩ := List.mem_map.1 hv
    obtain ⟨x, hx⟩ := hsome j (List.mem_range.1 hj)
    obtain ⟨p, p1, p2, _⟩ := hL.at_ hx
    exact List.mem_map.2 ⟨p, p1, p2⟩)
  simp at h1
  omega
theorem tog_same {p q : Jo.Pc} (hk : keyP inter p = keyP inter q) (h : togB (pcM p) (pcM q) = true) : Jo.same inter p q := by
  unfold togB pcM at h
  simp only [Bool.and_eq_true, decide_eq_true_eq, Bool.or_eq_true] at h
  refine ⟨h.1, h.2.1, ?_⟩
  cases inter
  · rcases h.2.2 with h3 | h3
    · exact .inr ⟨rfl, h3⟩
    · exact .inl h3
  · unfold keyP keyC at hk
    rw [if_pos rfl, if_pos rfl] at hk
    injection hk with _ _ h3
    exact .inl h3
theorem CutL.whole {a cc i : Nat} (hi : i < 4294967296) {zs : List (Fg × Jo.Pc)} (hn : a + cc ≤ 2000000000) (k : CutL inter L (atK inter g pcs) (dn i a) (a + cc) zs) (h : Chain L i a cc) (hfol : ∀ j, j < a + cc → folB L (up (dn i a) j) = true) (hok : ∀ p ∈ pcs, PcOk inter p) :
    Jo.Whole inter (zs.map (·.2)) := by
  have hget : ∀ j p, (zs.map (·.2))[j]? = some p → ∃ x, L (up (dn i a) j) = some x ∧ p ∈ atK inter g pcs ∧ idxP inter p = up (dn i a) j ∧ Fits x p := fun j p hp => by
    rw [List.getElem?_map] at hp
    cases hz : zs[j]? with
    | none => rw [hz] at hp; cases hp
    | some z =>
      rw [hz] at hp
      injection hp with hp
      subst hp
      obtain ⟨h1, h2, h3, h4⟩ := k.at_ j z hz
      exact ⟨z.1, h1, h2, h3, h4⟩
  have hlen : (zs.map (·.2)).length = a + cc + 1 := by rw [List.length_map]; exact k.len
  refine ⟨by omega, fun p hp => ?_, fun j p q hp hq => ?_, fun p hp => ?_⟩
  · obtain ⟨x, x1, _, _, x4⟩ := hget 0 p hp
    have h1 := h.bg
    have e : up (dn i a) 0 = dn i a := by unfold up dn; omega
    rw [e] at x1
    unfold bgB at h1
    rw [x1] at h1
    rw [← x4.bg]; exact h1
  · obtain ⟨x, x1, x2, x3, x4⟩ := hget j p hp
    obtain ⟨y, y1, y2, y3, y4⟩ := hget (j + 1) q hq
    have hj : j < a + cc := by
      have := (List.getElem?_eq_some_iff.1 hq).1
      omega
    obtain ⟨x', y', f1, f2, f3, f4, f5⟩ := folB_some (hfol j hj)
    rw [up_up] at f2
    rw [x1] at f1
    rw [y1] at f2
    injection f1 with f1
    injection f2 with f2
    subst f1 f2
    have hkp : keyP inter p = g := by simpa using (List.mem_filter.1 x2).2
    have hkq : keyP inter q = g := by simpa using (List.mem_filter.1 y2).2
    have hidx : idxP inter q = (idxP inter p + 1) % 4294967296 := by rw [x3, y3]; exact (up_up j).symm
    refine ⟨by rw [← x4.en]; exact f3, by rw [← y4.bg]; exact f4, fun hI => ?_, fun hI => ?_, tog_same (hkp.trans hkq.symm) (by rw [← x4.m, ← y4.m]; exact f5)⟩
    · have h5 := (hok p (List.mem_filter.1 x2).1).fr hI
      unfold idxP at hidx
      rw [if_pos hI, if_pos hI] at hidx
      omega
    · unfold idxP at hidx
      subst hI
      exact hidx
  · rw [hlen] at hp
    obtain ⟨x, x1, _, _, x4⟩ := hget (a + cc + 1 - 1) p hp
    have h1 := h.en
    have e : up (dn i a) (a + cc + 1 - 1) = up i cc := by unfold up dn; omega
    rw [e] at x1
    unfold enB at h1
    rw [x1] at h1
    rw [← x4.en]; exact h1
/-- What is left. -/
def restP (inter : Bool) (g : Gk) (f n : Nat) (ps : List Jo.Pc) : List Jo.Pc := ps.filter fun q => !(decide (keyP inter q = g) && inCut f n (idxP inter q))
theorem CutL.perm {f n : Nat} {zs : List (Fg × Jo.Pc)} (hf : f < 4294967296) (hn : n ≤ 2000000000) (k : CutL inter L (atK inter g pcs) f n zs) (hL : LnOf (idxP inter) L (atK inter g pcs)) (hok : ∀ p ∈ pcs, PcOk inter p) :
    pcs.Perm (zs.map (·.2) ++ restP inter g f n pcs) := by
  have hsp : (pcs.filter (fun q => decide (keyP inter q = g) && inCut f n (idxP inter q)) ++ restP inter g f n pcs).Perm pcs := List.filter_append_perm _ _
  refine hsp.symm.trans (List.Perm.append_right _ ?_)
  have e1 : pcs.filter (fun q => decide (keyP inter q = g) && inCut f n (idxP inter q)) = (atK inter g pcs).filter fun q => inCut f n (idxP inter q) := by
    unfold atK
    rw [List.filter_filter]
    exact List.filter_congr fun q _ => by rw [Bool.and_comm]
  have n1 : (pcs.filter (fun q => decide (keyP inter q = g) && inCut f n (idxP inter q))).Nodup := by
    rw [e1]
    exact (hL.nd.imp (fun {a b} h e => h (by rw [e]))).filter _
  have hz : ∀ j (hj : j < (zs.map (·.2)).length), idxP inter (zs.map (·.2))[j] = up f j ∧ (zs.map (·.2))[j] ∈ atK inter g pcs := fun j hj => by
    have hj' : j < zs.length := by simpa using hj
    obtain ⟨_, h2, h3, _⟩ := k.at_ j zs[j] (List.getElem?_eq_getElem hj')
    rw [List.getElem_map]
    exact ⟨h3, h2⟩
  have hlen : (zs.map (·.2)).length = n + 1 := by rw [List.length_map]; exact k.len
  have n2 : (zs.map (·.2)).Nodup := by
    rw [List.nodup_iff_pairwise_ne, List.pairwise_iff_getElem]
    intro x y hx hy hxy e
    have h1 := (hz x hx).1
    rw [e, (hz y hy).1] at h1
    unfold up at h1
    omega
  refine (List.perm_ext_iff_of_nodup n1 n2).2 (fun q => ?_)
  rw [e1, List.mem_filter]
  constructor
  · rintro ⟨h1, h2⟩
    have h3 : (idxP inter q + 4294967296 - f) % 4294967296 < n + 1 := by simpa [inCut] using h2
    have h4 := (hok q (List.mem_filter.1 h1).1).idx
    have hj : (idxP inter q + 4294967296 - f) % 4294967296 < (zs.map (·.2)).length := by omega
    have h5 := hz _ hj
    have e : idxP inter q = idxP inter (zs.map (·.2))[(idxP inter q + 4294967296 - f) % 4294967296] := by
      rw [h5.1]; unfold up; omega
    rw [pw_inj hL.nd h1 h5.2 e]
    exact List.getElem_mem hj
  · intro h1
    obtain ⟨j, hj, rfl⟩ := List.mem_iff_getElem.1 h1
    refine ⟨(hz j hj).2, ?_⟩
    rw [(hz j hj).1]
    unfold inCut up
    simp only [decide_eq_true_eq]
    omega
theorem cut_ln {f n : Nat} (hf : f < 4294967296) (hn : n ≤ 2000000000) (hL : LnOf (idxP inter) L (atK inter g pcs)) (hok : ∀ p ∈ pcs, PcOk inter p) : LnOf (idxP inter) (cutL L f (n + 1)) (atK inter g (restP inter g f n pcs)) := by
  have e1 : atK inter g (restP inter g f n pcs) = (atK inter g pcs).filter fun q => !inCut f n (idxP inter q) := by
    unfold atK restP
    rw [List.filter_filter, List.filter_filter]
    refine List.filter_congr fun q _ => ?_
    by_cases e : keyP inter q = g <;> simp [e]
  rw [e1]
  refine ⟨fun p hp => ?_, fun i x hx => ?_, hL.nd.filter _⟩
  · obtain ⟨h1, h2⟩ := List.mem_filter.1 hp
    obtain ⟨x, h3, h4⟩ := hL.has p h1
    refine ⟨x, ?_, h4⟩
    unfold cutL
    rw [if_neg]
    · exact h3
    · simp [inCut] at h2; omega
  · have hx' := hx
    unfold cutL at hx
    split at hx
    · cases hx
    · rename_i hno
      obtain ⟨p, hp, e⟩ := hL.of i x hx
      refine ⟨p, List.mem_filter.2 ⟨hp, ?_⟩, e⟩
      have := (hok p (List.mem_filter.1 hp).1).idx
      rw [e] at this
      rw [e]
      simp [inCut]
      omega
theorem cut_other {g' : Gk} {f n : Nat} (hne : g' ≠ g) : atK inter g' (restP inter g f n pcs) = atK inter g' pcs := by
  unfold atK restP
  rw [List.filter_filter]
  refine List.filter_congr fun q _ => ?_
  by_cases e : keyP inter q = g'
  · have : ¬ keyP inter q = g := fun e' => hne (e.symm.trans e')
    simp [e, hne]
  · simp [e]
end
end Go.Proofs.Ytioddokjogbmnaa.Chk
