/-
  packet.Bundle.
-/
import Derived.Test.YtpgklhecmafnbaaCopies
set_option linter.unusedVariables false
set_option linter.unusedSimpArgs false
namespace Go.Proofs.Ytpgklhecmafnbaa.Chk
open Go.Proofs.Ytpgklhecmafnbaa
open Go.ChangeShapes Go.WideShapes Go.ChangeAt Go.RowKit Go.Deep Go.Proofs.Ytpgklhecmafnbaa.Words Go.Proofs.Ytpgklhecmafnbaa.Oct Go.Proofs.Ytpgklhecmafnbaa.Par

def FitC (c : Ck) : Prop := Puts c ∧ (bytesC c).length ≤ 1188
def AllFit (ls : List Ck) : Prop := ∀ c ∈ ls, FitC c
def BadB (ls : List Ck) (k : Nat) : Prop := ∃ a c b, ls = a ++ c :: b ∧ AllFit a ∧ (PutErr c k ∨ (Puts c ∧ 1188 < (bytesC c).length ∧ k = 43))
def fullB (cur : List Ck) (c : Ck) : Prop := 1188 < (bodyB (cur ++ [c])).length ∨ fitsL (cur ++ [c]) = false
instance (cur : List Ck) (c : Ck) : Decidable (fullB cur c) := inferInstanceAs (Decidable (_ ∨ _))
def stepB (s : List (List Ck) × List Ck) (c : Ck) : List (List Ck) × List Ck := if fullB s.2 c then (s.1 ++ [s.2], [c]) else (s.1, s.2 ++ [c])
def bundleS (ls : List Ck) : List (List Ck) × List Ck := ls.foldl stepB ([], [])
def bundleB (ls : List Ck) : List (List Ck) := if (bundleS ls).2 = [] then (bundleS ls).1 else (bundleS ls).1 ++ [(bundleS ls).2]
theorem bundleS_snoc (ls : List Ck) (c : Ck) : bundleS (ls ++ [c]) = stepB (bundleS ls) c := by simp [bundleS]
theorem allFit_snoc {ls : List Ck} {k : Nat} (hk : k < ls.length) (h : AllFit (ls.take k)) (hp : FitC ls[k]) : AllFit (ls.take (k + 1)) := by
  rw [List.take_succ_eq_append_getElem hk]
  intro c hc
  rcases List.mem_append.1 hc with hc | hc
  · exact h c hc
  · rw [List.mem_singleton] at hc; rw [hc]; exact hp
theorem badB_at {ls : List Ck} {k e : Nat} (hk : k < ls.length) (h : AllFit (ls.take k)) (hp : PutErr ls[k] e ∨ (Puts ls[k] ∧ 1188 < (bytesC ls[k]).length ∧ e = 43)) : BadB ls e :=
  ⟨ls.take k, ls[k], ls.drop (k + 1), by rw [List.getElem_cons_drop hk, List.take_append_drop], h, hp⟩
/-- Where Bundle stands behind k chunks. -/
structure BdSt (ls : List Ck) (k st sz m : Nat) (gs : List (List Ck)) (cur : List Ck) : Prop where
  eq : bundleS (ls.take k) = (gs, cur)
  ecur : cur = (ls.take k).drop st
  esz : sz = (bodyB cur).length
  em : m = gs.length
  mle : m ≤ k
  fit : AllFit (ls.take k)
  full : fitsL cur = true ∨ cur = []
theorem BdSt.zero (ls : List Ck) : BdSt ls 0 0 0 0 [] [] := ⟨rfl, by simp, rfl, rfl, Nat.le_refl _, fun c hc => by simp at hc, .inr rfl⟩
theorem fits_one (c : Ck) : fitsL [c] = true := by rw [fitsL_iff]; exact ⟨by simp, by simp, .inl rfl⟩
section
variable {ls : List Ck} {k st sz m : Nat} {gs : List (List Ck)} {cur : List Ck}
theorem BdSt.len (h : BdSt ls k st sz m gs cur) (hk : k ≤ ls.length) : cur.length = k - st := by
  rw [h.ecur, List.length_drop, List.length_take, Nat.min_eq_left hk]
theorem BdSt.snd (h : BdSt ls k st sz m gs cur) (hk : k < ls.length) (hst : st ≤ k) : (ls.take (k + 1)).drop st = cur ++ [ls[k]] := by
  rw [List.take_succ_eq_append_getElem hk, List.drop_append_of_le_length (by rw [List.length_take]; omega), ← h.ecur]
theorem BdSt.more (h : BdSt ls k st sz m gs cur) (hk : k < ls.length) (hst : st ≤ k) (hf : FitC ls[k]) (hn : ¬ fullB cur ls[k]) : BdSt ls (k + 1) st (sz + (bytesC ls[k]).length) m gs (cur ++ [ls[k]]) := by
  refine ⟨?_, (h.snd hk hst).symm, ?_, h.em, by have := h.mle; omega, allFit_snoc hk h.fit hf, .inl ?_⟩
  · rw [List.take_succ_eq_append_getElem hk, bundleS_snoc, h.eq, stepB, if_neg hn]
  · rw [bodyB_snoc, List.length_append, h.esz]
  · rcases hx : fitsL (cur ++ [ls[k]]) with _ | _
    · exact absurd (.inr hx) hn
    · rfl
theorem BdSt.next (h : BdSt ls k st sz m gs cur) (hk : k < ls.length) (hf : FitC ls[k]) (hn : fullB cur ls[k]) : BdSt ls (k + 1) k (bytesC ls[k]).length (m + 1) (gs ++ [cur]) [ls[k]] := by
  refine ⟨?_, ?_, ?_, ?_, by have := h.mle; omega, allFit_snoc hk h.fit hf, .inl (fits_one _)⟩
  · rw [List.take_succ_eq_append_getElem hk, bundleS_snoc, h.eq, stepB, if_pos hn]
  · rw [List.take_succ_eq_append_getElem hk, List.drop_append_of_le_length (by rw [List.length_take]; omega), List.drop_eq_nil_of_le (by rw [List.length_take]; omega)]
    rfl
  · rw [bodyB_cons, bodyB_nil, List.append_nil]
  · rw [List.length_append, h.em, List.length_singleton]
end
/-! ### slices of slices of chunks -/
theorem cks_info : (Try.prog.info? 42).map (fun i => (i.zero, i.size, i.bytes)) = some (some (.slice none 0 0), 1, 24) := by kernel_rfl
def OwnGs (w : World) (B : Nat) (v : Value) (gs : List (List Ck)) : Prop :=
  ∃ xs, w.ownsRow B 42 1 v gs.length xs ∧ ∀ (k : Nat) (g : List Ck), gs[k]? = some g → ∃ (A : Option Addr) (c : Nat), xs[k]? = some (Value.slice A g.length c) ∧ g.length ≤ c ∧ c ≤ 9223372036854775807 ∧ OwnCks w B (.slice A g.length c) g
theorem CkOwn.byT {w w' : World} {B B' n size : Nat} {e : TypeId} {v : Value} {xs : List Value} {cs : Array Value} {c : Ck} (h : CkOwn w B cs c) (hx : w.ownsRow B' e size v n xs) (k : Fr (fun i => some i = v.ownBlock) w w') (h1 : 85 ≠ e) (h2 : 25 ≠ e) (h3 : 87 ≠ e) (h4 : 131 ≠ e) (h5 : 5 ≠ e) : CkOwn w' B cs c := by
  obtain ⟨gv, dv, sv, pv, bv, e, q1, q2, q3, q4, q5⟩ := h
  exact ⟨gv, dv, sv, pv, bv, e, own_by q1 hx h1 k, own_by q2 hx h2 k, own_by q3 hx h3 k, ownPs_by q4 hx h4 h5 k, own_by q5 hx h5 k⟩
section
variable {w w' : World} {B B' : Nat} {v v' : Value} {ls : List Ck} {gs : List (List Ck)}
theorem OwnCks.byT {n size : Nat} {e : TypeId} {u : Value} {xs : List Value} (h : OwnCks w B v ls) (hx : w.ownsRow B' e size u n xs) (k : Fr (fun i => some i = u.ownBlock) w w') (h0 : 32 ≠ e) (h1 : 85 ≠ e) (h2 : 25 ≠ e) (h3 : 87 ≠ e) (h4 : 131 ≠ e) (h5 : 5 ≠ e) : OwnCks w' B v ls := by
  obtain ⟨ys, q1, q2⟩ := h
  refine ⟨ys, own_by q1 hx h0 k, fun i c hc => ?_⟩
  obtain ⟨q3, cs, q4, q5⟩ := q2 i c hc
  exact ⟨q3, cs, q4, q5.byT hx k h1 h2 h3 h4 h5⟩
theorem OwnGs.nil (w : World) (B : Nat) : OwnGs w B (.slice none 0 0) [] := ⟨[], World.ownsRow_nil _ _ _ _, fun k p h => by simp at h⟩
theorem OwnGs.grows (h : OwnGs w B v gs) (k : Below w.heap.size w w') : OwnGs w' B v gs := by
  obtain ⟨xs, h1, h2⟩ := h
  refine ⟨xs, own_up h1 k, fun i g hg => ?_⟩
  obtain ⟨A, c, q1, q2, q3, q4⟩ := h2 i g hg
  exact ⟨A, c, q1, q2, q3, q4.grows k⟩
theorem OwnGs.snoc {n n0 nc : Nat} {xs : List Value} {cur : List Ck} {A : Option Addr} {c : Nat} (hn0 : n0 = gs.length) (hnc : nc = cur.length) (hx : w.ownsRow B 42 1 v n0 xs) (hxs : ∀ (k : Nat) (g : List Ck), gs[k]? = some g → ∃ (A : Option Addr) (c : Nat), xs[k]? = some (Value.slice A g.length c) ∧ g.length ≤ c ∧ c ≤ 9223372036854775807 ∧ OwnCks w B (.slice A g.length c) g)
    (hg : w.grownBy w' v.ownBlock) (ho : w'.ownsRow B 42 1 v' n (xs ++ [.slice A nc c])) (hn : n = n0 + 1) (hc : nc ≤ c) (hcm : c ≤ 9223372036854775807) (hk : OwnCks w B (.slice A nc c) cur) : OwnGs w' B v' (gs ++ [cur]) := by
  subst hn0 hnc
  have hl := hx.1
  have hT := Fr.of_grown hg
  refine ⟨_, by rw [List.length_append, List.length_singleton, ← hn]; exact ho, fun k g hq => ?_⟩
  by_cases hkl : k < gs.length
  · rw [List.getElem?_append_left hkl] at hq
    obtain ⟨A', c', q1, q2, q3, q4⟩ := hxs k g hq
    exact ⟨A', c', by rw [List.getElem?_append_left (by omega)]; exact q1, q2, q3, q4.byT hx hT (by decide) (by decide) (by decide) (by decide) (by decide) (by decide)⟩
  · rw [List.getElem?_append_right (by omega)] at hq
    have hk0 : k - gs.length = 0 := by
      have := (List.getElem?_eq_some_iff.1 hq).1
      simp at this
      omega
    rw [hk0] at hq
    simp only [List.getElem?_cons_zero, Option.some.injEq] at hq
    subst hq
    exact ⟨A, c, by rw [List.getElem?_append_right (by omega), show k - xs.length = 0 by omega]; rfl, hc, hcm, hk.byT hx hT (by decide) (by decide) (by decide) (by decide) (by decide) (by decide)⟩
end
theorem Cks.cut {w : World} {B : Nat} {ad : Addr} {ls : List Ck} (h : Cks w B (some ad) ls) (st m : Nat) : Cks w B (some (ad.add (st * 19))) ((ls.drop st).take m) := fun k c hc => by
  have hk : k < m := by
    have := (List.getElem?_eq_some_iff.1 hc).1
    rw [List.length_take] at this
    omega
  rw [List.getElem?_take, if_pos hk, List.getElem?_drop] at hc
  obtain ⟨ad', cs, e, h1, h2, h3⟩ := h _ _ hc
  cases e
  refine ⟨_, cs, rfl, by rw [block_of_add]; exact h1, h2, fun j v hv => ?_⟩
  rw [add_of_add ad (st * 19) (k * 19), show st * 19 + k * 19 = (st + k) * 19 by omega]
  exact h3 j v hv
/-- What Bundle leaves. -/
def BundleDone (w : World) (ls : List Ck) (e : Ending) (w' : World) : Prop :=
  ((∃ v, e = .returned (.tuple #[v, .int .i64 0]) ∧ OwnGs w' w.heap.size v (bundleB ls) ∧ AllFit ls) ∨ (∃ k : Nat, e = .returned (.tuple #[.slice none 0 0, .int .i64 (k : Int)]) ∧ BadB ls k)) ∧ Below w.heap.size w w'

set_option maxHeartbeats 16000000 in
set_option maxRecDepth 100000 in
theorem bundle_k {w : World} {n c : Nat} {A : Option Addr} {ls : List Ck} (h : Cks w w.heap.size A ls) (hn : n = ls.length) (hnc : n ≤ c) (hcm : c ≤ 9223372036854775807) (hs : sumC ls ≤ 300000) :
    Calls Try.prog 23 #[.slice A n c] w (BundleDone w ls) := by
  obtain ⟨i1, hi1, hz11, hz12, hz13⟩ := info_parts3 cks_info
  have HC := Lib.hid h
  have HN := Lib.hid hn
  have HSC := Lib.hid hs
  have hn9 : n ≤ 75000 := by have := sumC_len ls; omega
  clear h hn hs
  go_enter Try.func23, Try.ntmps23
  go_wp2_with fail
  go_loopw [2, 3, 4, 5, 6, 7, 8, 9, 10, 13] (fun _ _ s4 s5 s6 _ _ _ _ i wr => ∃ (k st sz m c4 : Nat) (A4 : Option Addr) (gs : List (List Ck)) (cur : List Ck), k ≤ n ∧ i = .int .i64 (k : Int) ∧ s4 = .slice A4 m c4 ∧ s5 = .int .i64 (st : Int) ∧ s6 = .int .i64 (sz : Int) ∧ st ≤ k ∧ sz ≤ 1188 ∧ Hid (BdSt ls k st sz m gs cur) ∧ Hid (OwnGs wr w.heap.size (.slice A4 m c4) gs) ∧ Hid (Below w.heap.size w wr)) (fun _ _ _ _ _ _ _ _ _ i _ => n - (intOf i).toNat)
  case atStart => exact ⟨0, 0, 0, 0, 0, none, [], [], by omega, rfl, rfl, rfl, rfl, Nat.le_refl _, by omega, BdSt.zero ls, OwnGs.nil _ _, Below.refl _ _⟩
  case round =>
    obtain ⟨k, st, sz, m, c4, A4, gs, cur, hk, rfl, rfl, rfl, rfl, hst, hsz, HST, HOG, HBW⟩ := hrel
    by_cases hlt : k < n
    · have hk2 : k < ls.length := by rw [← HN.out]; exact hlt
      obtain ⟨ad, cs, rfl, hblk, hsize, hat, hcell⟩ := HC.out.nthw (Nat.le_refl _) HBW.out hk2
      obtain ⟨ck, hck⟩ : ∃ ck, ck = ls[k] := ⟨_, rfl⟩
      rw [← hck] at hat
      have HSZ := Lib.hid hsize
      have HCELL := Lib.hid hcell
      have HONE := Lib.hid hat.one
      have HAT := Lib.hid hat
      have HCK := Lib.hid hck
      have HSM : Hid (Small ck) := small_size (by have h1 := sumC_mem (c := ck) (ls := ls) (by rw [hck]; exact List.getElem_mem _); have h2 := HSC.out; omega)
      clear hsize hat hcell hblk hck
      go_upto_region 6 with (first
        | (refine wpList_load_any rfl 32 _ rfl (ad.add (k * 19)) rfl cs _ HCELL.out Try.underlying32 rfl (by rw [HSZ.out]; exact chunk_info) ?_)
        | (refine wpList_store_row rfl 32 _ _ rfl wr.heap.size cs rfl rfl 32 _ (Blk.new wr 32 _) (by rw [HSZ.out]; exact chunk_info) (by rw [HSZ.out]; rfl) HONE.out ?_))
      obtain ⟨W2, hW2, HC2, HB2⟩ := kept_var wr cs
      obtain ⟨g0, hg0⟩ : ∃ g0, g0 = wr.heap.size := ⟨_, rfl⟩
      rw [← hg0] at HC2
      rw [← hW2, ← hg0]
      have HBX := Lib.hid (HBW.out.trans (HB2.mono HBW.out.size))
      have HOX := Lib.hid (HOG.out.grows HB2)
      have HG2 := Lib.hid HC2
      have HAT2 : Hid (CkAt W2 W2.heap.size cs ck) := (HAT.out.keep (fun q hq => HB2.cell (Nat.lt_of_lt_of_le hq HBW.out.size))).more HBX.out.size
      clear hW2 hg0 HC2 HB2 HCELL HONE HAT HBW HOG
      go_wp2_with (refine wpList_load_row rfl 32 _ rfl g0 rfl 32 cs (0, 0) _ HG2.out Try.underlying32 rfl (by rw [HSZ.out]; exact chunk_info) ?_)
      refine (put_k HSM.out HAT2.out).mono ?_
      rintro e W3 ⟨hd2, hb3⟩
      have HBY := Lib.hid (HBX.out.trans (hb3.mono HBX.out.size))
      have HOY := Lib.hid (HOX.out.grows hb3)
      clear hb3 HBX HOX HAT2 HG2
      rcases hd2 with ⟨v3, hp3, rfl, ho3⟩ | ⟨k3, hk3, rfl⟩
      rotate_left
      · have hkp := err_pos' hk3
        have HBAD : Hid (BadB ls k3) := badB_at hk2 HST.out.fit (.inl (by rw [← HCK.out]; exact hk3))
        have hne : ((k3 : Int) != 0) = true := by simp; omega
        clear hk3
        go_wp2_with fail
        go_ret2
        exact ⟨.inr ⟨k3, rfl, HBAD.out⟩, HBY.out⟩
      obtain ⟨y, hy⟩ : ∃ y, y = bytesC ck := ⟨_, rfl⟩
      rw [← hy] at ho3
      obtain ⟨ny, hny⟩ : ∃ ny, ny = y.length := ⟨_, rfl⟩
      obtain ⟨A3, c3, rfl, h3a, h3b, HY3⟩ := own_as ho3 hny
      have HP3 := Lib.hid hp3
      have HNY : Hid (ny = (bytesC ck).length) := by rw [hny, hy]; rfl
      clear hy hny ho3 hp3 HY3
      by_cases hbig : (1188 : Int) < (ny : Int)
      · have HBAD : Hid (BadB ls 43) := badB_at hk2 HST.out.fit (.inr (by rw [← HCK.out]; exact ⟨HP3.out, by have := HNY.out; omega, rfl⟩))
        go_wp2_with fail
        go_ret2
        exact ⟨.inr ⟨43, rfl, HBAD.out⟩, HBY.out⟩
      have hny9 : ny ≤ 1188 := by omega
      have HFC : Hid (FitC ls[k]) := by rw [← HCK.out]; exact ⟨HP3.out, by have := HNY.out; omega⟩
      go_upto_region 11 with fail
      clear hbig
      obtain ⟨fu, hfu⟩ : ∃ b : Bool, b = decide (fullB cur ls[k]) := ⟨_, rfl⟩
      have HFU := Lib.hid hfu
      have HLEN : Hid ((bodyB (cur ++ [ls[k]])).length = sz + ny) := by rw [bodyB_snoc, List.length_append, ← HST.out.esz, ← HCK.out, ← HNY.out]; rfl
      have HCUT1 : Hid (∀ V, Below w.heap.size w V → Cks V V.heap.size (some (ad.add (st * 19))) (cur ++ [ls[k]])) := fun V hV => by rw [← HST.out.snd hk2 hst, List.drop_take]; exact ((HC.out.below hV).more hV.size).cut st _
      have HCUT0 : Hid (∀ V, Below w.heap.size w V → Cks V V.heap.size (some (ad.add (st * 19))) cur) := fun V hV => by rw [HST.out.ecur, List.drop_take]; exact ((HC.out.below hV).more hV.size).cut st _
      clear hfu
      go_cut [44] from 31 to 44 (fun s wx => s = .bool fu ∧ Hid (Below W3.heap.size W3 wx))
      case first =>
        by_cases hov : (1188 : Int) < (sz : Int) + (ny : Int)
        · have hft : fu = true := by rw [HFU.out]; exact decide_eq_true (.inl (by rw [HLEN.out]; omega))
          clear HFU
          subst hft
          go_wp2_with fail
          go_meet
          exact ⟨rfl, Below.refl _ _⟩
        · go_wp2_with fail
          refine (formed_k (ls := cur ++ [ls[k]]) (n := k + 1 - st) (c := c - st) (HCUT1.out W3 HBY.out) (Nat.le_refl _) (by rw [List.length_append, List.length_singleton, HST.out.len (by omega)]; omega) (by omega)).mono ?_
          rintro e V4 ⟨rfl, hb4⟩
          obtain ⟨fb, hfb⟩ : ∃ b : Bool, b = fitsL (cur ++ [ls[k]]) := ⟨_, rfl⟩
          have hff : fu = !fb := by
            rw [HFU.out, hfb]
            have hno : ¬ 1188 < (bodyB (cur ++ [ls[k]])).length := by rw [HLEN.out]; omega
            have hiff : fullB cur ls[k] ↔ fitsL (cur ++ [ls[k]]) = false := ⟨fun h => h.resolve_left hno, .inr⟩
            by_cases hq : fitsL (cur ++ [ls[k]]) = false
            · rw [decide_eq_true (hiff.2 hq), hq]
              rfl
            · rw [decide_eq_false (fun h => hq (hiff.1 h)), show fitsL (cur ++ [ls[k]]) = true by simpa using hq]
              rfl
          rw [← hfb]
          have HB4 := Lib.hid hb4
          clear hfb hb4 HFU
          subst hff
          go_wp2_with fail
          go_meet
          exact ⟨rfl, HB4⟩
      case rest =>
      obtain ⟨rfl, HB34⟩ := hcut
      obtain ⟨W4, hW4⟩ : ∃ W, W = wc := ⟨_, rfl⟩
      rw [← hW4] at HB34 ⊢
      have HBZ := Lib.hid (HBY.out.trans (HB34.out.mono HBY.out.size))
      have HOZ := Lib.hid (HOY.out.grows HB34.out)
      clear hW4 HB34 HBY HOY
      cases fu
      · have hle : sz + ny ≤ 1188 := by
          have h1 := of_decide_eq_false HFU.out.symm
          have h2 : ¬ 1188 < (bodyB (cur ++ [ls[k]])).length := fun h => h1 (.inl h)
          rw [HLEN.out] at h2
          omega
        have HMORE := Lib.hid (HST.out.more hk2 hst HFC.out (fun h => by have := HFU.out; rw [decide_eq_true h] at this; cases this))
        rw [← HCK.out, ← HNY.out] at HMORE
        go_wp2_with fail
        go_roundw
        case rel => exact ⟨k + 1, st, sz + ny, m, c4, A4, gs, cur ++ [ck], by omega, by go_num, rfl, rfl, by go_num, by omega, by omega, HMORE, HOZ, HBZ⟩
        case measure => simp [intOf]; omega
      · have HNEXT := Lib.hid (HST.out.next hk2 HFC.out (of_decide_eq_true HFU.out.symm))
        rw [← HCK.out, ← HNY.out] at HNEXT
        go_wp2_with fail
        have HLC : Hid (k - st = cur.length) := (HST.out.len (by omega)).symm
        have hBs0 : w.heap.size ≤ W4.heap.size := HBZ.out.size
        refine (copies_k (ls := cur) (n := k - st) (c := c - st) HLC.out (by omega) (fun x hx => by have h1 := sumC_mem (c := x) (ls := ls) (by have := HST.out.ecur; rw [this] at hx; exact List.mem_of_mem_take (List.mem_of_mem_drop hx)); have h2 := HSC.out; omega) (HCUT0.out W4 HBZ.out)).mono ?_
        rintro e W5 ⟨⟨v5, rfl, ho5⟩, hb5⟩
        obtain ⟨A5, c5, hv5, h5a, h5b⟩ := ho5.slice
        have HO5 : Hid (OwnCks (W5.alloc (.cells #[v5] 42)) w.heap.size v5 cur) := (ho5.mono hBs0).grows ((Below.refl W5.heap.size W5).alloc (Nat.le_refl _) _)
        have HG5 : Hid (OwnGs (W5.alloc (.cells #[v5] 42)) w.heap.size (.slice A4 m c4) gs) := HOZ.out.grows (hb5.alloc hb5.size _)
        have HB5 : Hid (Below w.heap.size w (W5.alloc (.cells #[v5] 42))) := HBZ.out.trans ((hb5.mono hBs0).alloc (Nat.le_trans hBs0 hb5.size) _)
        have hBs : w.heap.size ≤ W5.heap.size := Nat.le_trans hBs0 hb5.size
        have HE5 : Hid (v5 = .slice A5 cur.length c5) := hv5
        rw [← HLC.out] at hv5 h5a
        subst hv5
        obtain ⟨xs, hx, hxs⟩ := HG5.out
        rw [← HST.out.em] at hx
        have HX := Lib.hid hx
        have HXS := Lib.hid hxs
        have hmm : m ≤ 75000 := by have := HST.out.mle; omega
        clear ho5 hb5 hx hxs HG5
        go_wp2_with (at_builtin; refine wpList_append_any _ rfl (.tmp 45) (.tmp 51) _ rfl w.heap.size 42 i1 _ 1 24 Try.underlying57 hi1 hz11 hz12 hz13 rfl (by omega) (.slice A4 m c4) m xs rfl HX.out (W5.heap.size + 1) (some ⟨W5.heap.size, 0, none⟩) 1 1 [.slice A5 (k - st) c5] rfl (blk_reads (Blk.new W5 42 #[.slice A5 (k - st) c5]) rfl) (by simp [Value.oneCell']) (by simp only [maxLen]; omega) (by omega) (Nat.le_trans hBs (by simp)) ?_; intro v7 w7 hown7 hg7 hat7; have HG7 : Hid (OwnGs w7 w.heap.size v7 (gs ++ [cur])) := OwnGs.snoc (A := A5) (c := c5) HST.out.em HLC.out HX.out HXS.out hg7 hown7 rfl h5a h5b HO5.out; have HB7 : Hid (Below w.heap.size w w7) := HB5.out.grown hg7 (by simp; omega) (fun b e => (HX.out.lt b e).1); obtain ⟨A7, c7, rfl, _, _⟩ := own_slice hown7; clear hown7 hg7 hat7 HX HXS HO5 HB5)
        go_roundw
        case rel => exact ⟨k + 1, k, ny, m + 1, c7, A7, gs ++ [cur], [ck], by omega, by go_num, rfl, rfl, by go_num, by omega, by omega, HNEXT, HG7, HB7⟩
        case measure => simp [intOf]; omega
    · obtain rfl : k = n := by omega
      by_cases hlast : (st : Int) < (k : Int)
      · obtain ⟨ad, _, rfl, _⟩ := HC.out 0 _ (List.getElem?_eq_getElem (by rw [← HN.out]; omega))
        have HTL : Hid (ls.take k = ls) := List.take_of_length_le (by rw [HN.out]; exact Nat.le_refl _)
        have HCUT0 : Hid (∀ V, Below w.heap.size w V → Cks V V.heap.size (some (ad.add (st * 19))) cur) := fun V hV => by rw [HST.out.ecur, List.drop_take]; exact ((HC.out.below hV).more hV.size).cut st _
        go_wp2_with fail
        have HLC : Hid (k - st = cur.length) := (HST.out.len (by rw [← HN.out]; exact Nat.le_refl _)).symm
        have hBs0 : w.heap.size ≤ wr.heap.size := HBW.out.size
        refine (copies_k (ls := cur) (n := k - st) (c := c - st) HLC.out (by omega) (fun x hx => by have h1 := sumC_mem (c := x) (ls := ls) (by have := HST.out.ecur; rw [this] at hx; exact List.mem_of_mem_take (List.mem_of_mem_drop hx)); have h2 := HSC.out; omega) (HCUT0.out wr HBW.out)).mono ?_
        rintro e W5 ⟨⟨v5, rfl, ho5⟩, hb5⟩
        obtain ⟨A5, c5, hv5, h5a, h5b⟩ := ho5.slice
        have HO5 : Hid (OwnCks (W5.alloc (.cells #[v5] 42)) w.heap.size v5 cur) := (ho5.mono hBs0).grows ((Below.refl W5.heap.size W5).alloc (Nat.le_refl _) _)
        have HG5 : Hid (OwnGs (W5.alloc (.cells #[v5] 42)) w.heap.size (.slice A4 m c4) gs) := HOG.out.grows (hb5.alloc hb5.size _)
        have HB5 : Hid (Below w.heap.size w (W5.alloc (.cells #[v5] 42))) := HBW.out.trans ((hb5.mono hBs0).alloc (Nat.le_trans hBs0 hb5.size) _)
        have hBs : w.heap.size ≤ W5.heap.size := Nat.le_trans hBs0 hb5.size
        have HE5 : Hid (v5 = .slice A5 cur.length c5) := hv5
        rw [← HLC.out] at hv5 h5a
        subst hv5
        obtain ⟨xs, hx, hxs⟩ := HG5.out
        rw [← HST.out.em] at hx
        have HX := Lib.hid hx
        have HXS := Lib.hid hxs
        have hmm : m ≤ 75000 := by have := HST.out.mle; omega
        clear ho5 hb5 hx hxs HG5
        go_wp2_with (at_builtin; refine wpList_append_any _ rfl (.tmp 63) (.tmp 68) _ rfl w.heap.size 42 i1 _ 1 24 Try.underlying57 hi1 hz11 hz12 hz13 rfl (by omega) (.slice A4 m c4) m xs rfl HX.out (W5.heap.size + 1) (some ⟨W5.heap.size, 0, none⟩) 1 1 [.slice A5 (k - st) c5] rfl (blk_reads (Blk.new W5 42 #[.slice A5 (k - st) c5]) rfl) (by simp [Value.oneCell']) (by simp only [maxLen]; omega) (by omega) (Nat.le_trans hBs (by simp)) ?_; intro v7 w7 hown7 hg7 hat7; have HG7 : Hid (OwnGs w7 w.heap.size v7 (gs ++ [cur])) := OwnGs.snoc (A := A5) (c := c5) HST.out.em HLC.out HX.out HXS.out hg7 hown7 rfl h5a h5b HO5.out; have HB7 : Hid (Below w.heap.size w w7) := HB5.out.grown hg7 (by simp; omega) (fun b e => (HX.out.lt b e).1); obtain ⟨A7, c7, rfl, _, _⟩ := own_slice hown7; clear hown7 hg7 hat7 HX HXS HO5 HB5)
        go_ret2
        have hcn : cur ≠ [] := fun e => by have := HLC.out; rw [e] at this; simp at this; omega
        have hbb : bundleB ls = gs ++ [cur] := by
          have h1 := HST.out.eq
          rw [HTL.out] at h1
          unfold bundleB
          rw [h1, if_neg hcn]
        exact ⟨.inl ⟨_, rfl, by rw [hbb]; exact HG7.out, by have := HST.out.fit; rw [HTL.out] at this; exact this⟩, HB7.out⟩
      · have HTL : Hid (ls.take k = ls) := List.take_of_length_le (by rw [HN.out]; exact Nat.le_refl _)
        have hcn : cur = [] := List.eq_nil_of_length_eq_zero (by rw [HST.out.len (by rw [← HN.out]; exact Nat.le_refl _)]; omega)
        have hbb : bundleB ls = gs := by
          have h1 := HST.out.eq
          rw [HTL.out] at h1
          unfold bundleB
          rw [h1, if_pos hcn]
        have HBB := Lib.hid hbb
        clear hbb hcn
        go_wp2_with fail
        go_ret2
        exact ⟨.inl ⟨_, rfl, by rw [HBB.out]; exact HOG.out, by have := HST.out.fit; rw [HTL.out] at this; exact this⟩, HBW.out⟩
end Go.Proofs.Ytpgklhecmafnbaa.Chk
