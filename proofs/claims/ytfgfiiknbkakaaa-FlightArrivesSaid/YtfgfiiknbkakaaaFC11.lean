/-
  Of the texts Fl6, Fl7, Fl8, Fl9: what the laws reach.
-/
import Derived.Test.YtfgfiiknbkakaaaFC10

set_option linter.unusedVariables false
set_option linter.unusedSimpArgs false
set_option maxRecDepth 20000
namespace Go.Proofs.Ytfgfiiknbkakaaa.Fl
open Go.ChangeShapes Go.WideShapes Go.ChangeAt Go.RowKit Go.Deep Go.Maps Go.Proofs.Ytfgfiiknbkakaaa.Words Go.Proofs.Ytfgfiiknbkakaaa.Oct Go.Proofs.Ytfgfiiknbkakaaa.Par Go.Proofs.Ytfgfiiknbkakaaa.Chk Go.Proofs.Ytfgfiiknbkakaaa.Mx
section
variable {α : Type}
/-- The first i of a list mapped. -/
def pre (f : α → α) (i : Nat) (l : List α) : List α := (l.take i).map f ++ l.drop i
theorem pre_zero (f : α → α) (l : List α) : pre f 0 l = l := by simp [pre]
theorem pre_all (f : α → α) (l : List α) {i : Nat} (h : l.length ≤ i) : pre f i l = l.map f := by simp [pre, List.take_of_length_le h, List.drop_of_length_le h]
theorem pre_get (f : α → α) (l : List α) (i j : Nat) : (pre f i l)[j]? = if j < i then (l[j]?).map f else l[j]? := by
  unfold pre
  rw [List.getElem?_append]
  have e : ((l.take i).map f).length = min i l.length := by simp
  rw [e]
  split
  · rename_i h
    rw [if_pos (by omega), List.getElem?_map, List.getElem?_take, if_pos (by omega)]
  · rename_i h
    rw [List.getElem?_drop]
    split
    · have : l.length ≤ j := by omega
      rw [List.getElem?_eq_none (by omega), List.getElem?_eq_none this]
      rfl
    · by_cases hl : l.length ≤ i
      · rw [List.getElem?_eq_none (by omega), List.getElem?_eq_none (by omega)]
      · congr 1
        omega
theorem pre_step (f g : α → α) (l : List α) {i : Nat} {x : α} (hx : l[i]? = some x) (hg : g x = f x) : (pre f i l).modify i g = pre f (i + 1) l := by
  apply List.ext_getElem?
  intro j
  rw [mod_get, pre_get, pre_get]
  by_cases e : i = j
  · subst e
    rw [if_pos rfl, if_neg (by omega), if_pos (by omega), hx]
    simp [hg]
  · rw [if_neg e]
    by_cases h : j < i
    · rw [if_pos h, if_pos (by omega)]
    · rw [if_neg h, if_neg (by omega)]
theorem pre_same (f : α → α) (l : List α) {i : Nat} {x : α} (hx : l[i]? = some x) (hg : f x = x) : pre f i l = pre f (i + 1) l := by
  apply List.ext_getElem?
  intro j
  rw [pre_get, pre_get]
  by_cases e : i = j
  · subst e
    rw [if_neg (by omega), if_pos (by omega), hx]
    simp [hg]
  · by_cases h : j < i
    · rw [if_pos h, if_pos (by omega)]
    · rw [if_neg h, if_neg (by omega)]
end
def lateP (p : Pt) : Pt := if p.st = 0 then p.turn 1 else p
def FS.lateK (s : FS) (i : Nat) : FS := { s with ps := pre lateP i s.ps }
section
variable {w w' : World} {p i n : Nat} {a : Ad} {m : FM} {s : FS} {q : Pt}
theorem lateK_all (s : FS) : s.lateK s.ps.length = s.late := by unfold FS.lateK FS.late; rw [pre_all _ _ (Nat.le_refl _)]; rfl
def LateDone (w : World) (p : Nat) (a : Ad) (m : FM) (s : FS) (e : Ending) (w' : World) : Prop := ∃ (k : Nat) (m' : FM), e = .returned (.int .i64 (k : Int)) ∧ FlS w' p a m' s.late ∧ Stp w w' p a m a m'
set_option maxHeartbeats 4000000 in
theorem late_s (h : FlS w p a m s) : Calls Try.prog 13 #[fptr p] w (LateDone w p a m s) := by
  obtain ⟨A, cap, hv, h1, h2, hA⟩ := h.list
  have c1 : w.cell? ⟨p, 1, none⟩ = some (.slice A s.ps.length cap) := by have := h.mem.blk.cell 1; rw [← hv]; exact this
  have hl := h.inv.lt
  obtain ⟨n, hn⟩ : ∃ n, n = s.ps.length := ⟨_, rfl⟩
  rw [← hn] at c1 hl h1 hA hv
  have H0 : Hid (FlS w p a m (s.lateK 0)) := by unfold FS.lateK; rw [pre_zero]; exact h
  have HV := Lib.hid hv
  have HA := Lib.hid hA
  have HN := Lib.hid hn
  have HR : Hid (Stp w w p a m a m) := Stp.refl _ _ _ _
  clear h hv hA hn
  go_enter Try.func13, Try.ntmps13
  go_upto_region 3 with (fail)
  obtain ⟨wo, hwo⟩ : ∃ wo : World, wo = w := ⟨_, rfl⟩
  have HWO := Lib.hid hwo
  clear hwo
  go_loopw [3, 10] (fun v3 v10 wr => ∃ (k i : Nat) (m' : FM), v3 = .int .i64 (k : Int) ∧ v10 = .int .i64 (i : Int) ∧ i ≤ n ∧ k ≤ i ∧ Hid (FlS wr p a m' (s.lateK i)) ∧ Hid (Stp w wr p a m a m')) (fun _ v10 _ => n - (intOf v10).toNat)
  case atStart => exact ⟨0, 0, m, rfl, rfl, by omega, by omega, H0, HR⟩
  case round =>
    clear H0 HR c1
    obtain ⟨k, i, m', rfl, rfl, hi, hk, HS, HT⟩ := hrel
    by_cases hlt : i < n
    · obtain ⟨g, off, rfl, hgp⟩ := HA.out (by omega)
      have hc1 : wr.cell? ⟨p, 1, none⟩ = some (.slice (some ⟨g, off, none⟩) n cap) := by have := HS.out.mem.blk.cell 1; rw [← HV.out]; exact this
      obtain ⟨q, hq⟩ : ∃ q, s.ps[i]? = some q := ⟨_, List.getElem?_eq_getElem (by rw [← HN.out]; exact hlt)⟩
      have hq' : (s.lateK i).ps[i]? = some q := by show (pre lateP i s.ps)[i]? = _; rw [pre_get, if_neg (by omega)]; exact hq
      obtain ⟨b, hx, hfr⟩ := HS.out.frag HV.out hq'
      have hc6 : wr.cell? ⟨g, off + i * 26 + 6, none⟩ = some (.int .i64 (q.st : Int)) := hfr.c 6 (by omega)
      have hi2 : (i : Int) < (n : Int) := by omega
      obtain ⟨st, hst⟩ : ∃ st, st = q.st := ⟨_, rfl⟩
      rw [← hst] at hc6
      by_cases h0 : st = 0
      · subst h0
        have htn := turn_t HS.out hq' (z := 1) (by omega) (fun _ => by unfold Pt.left; rw [← hst]; rfl)
        have he : (s.lateK i).turn i 1 = s.lateK (i + 1) := by
          unfold FS.lateK FS.turn
          have e1 := pre_step lateP (Pt.turn 1) s.ps hq (by unfold lateP; rw [if_pos hst.symm])
          simp only [e1]
        rw [he] at htn
        clear hx hfr he hst
        go_wp2_with fail
        refine htn.mono ?_
        rintro e w5 ⟨rfl, m5, H5, HT5, _⟩
        have HT6 := Lib.hid (HT.out.trans HT5.out)
        clear htn HT5 HS HT
        go_wp2_with fail
        go_roundw
        case rel => exact ⟨k + 1, i + 1, m5, by go_num, by go_num, by omega, by omega, H5, HT6⟩
        case measure => simp [intOf]; omega
      · have hb : ((st : Int) == 0) = false := beq_no (by omega)
        have he : s.lateK i = s.lateK (i + 1) := by
          unfold FS.lateK
          rw [pre_same lateP s.ps hq (by unfold lateP; rw [if_neg (by rw [← hst]; exact h0)])]
        clear hx hfr hst
        go_wp2_with fail
        go_roundw
        case rel => exact ⟨k, i + 1, m', rfl, by go_num, by omega, by omega, by rw [← he]; exact HS, HT⟩
        case measure => simp [intOf]; omega
    · have hin : i = n := by omega
      subst hin
      have H5 : Hid (FlS wr p a m' s.late) := by rw [← lateK_all, ← HN.out]; exact HS.out
      have hlt2 : ¬ (i : Int) < (i : Int) := by omega
      clear HS
      go_wp2_with fail
      go_ret
      exact ⟨k, m', rfl, H5.out, HT.out⟩
end
end Go.Proofs.Ytfgfiiknbkakaaa.Fl

set_option linter.unusedVariables false
set_option linter.unusedSimpArgs false
set_option maxRecDepth 20000
namespace Go.Proofs.Ytfgfiiknbkakaaa.Fl
open Go.ChangeShapes Go.WideShapes Go.ChangeAt Go.RowKit Go.Deep Go.Maps Go.Proofs.Ytfgfiiknbkakaaa.Words Go.Proofs.Ytfgfiiknbkakaaa.Oct Go.Proofs.Ytfgfiiknbkakaaa.Par Go.Proofs.Ytfgfiiknbkakaaa.Chk Go.Proofs.Ytfgfiiknbkakaaa.Mx
section
variable {w w' : World} {p g off cap i k n : Nat} {a : Ad} {m : FM} {s : FS} {q q' : Pt} {b : Hd} {x : XP}
/-- A fragment's plain fields have turned: neither its state nor its limit nor its message nor its chunk. -/
theorem IvM.mod (h : IvM m s) (hx : m.xs[i]? = some (q, b)) (e1 : q'.m = q.m) (e2 : q'.lk = q.lk) (e3 : q'.ln = q.ln) (e4 : q'.st = q.st) (e5 : q'.c = q.c) (ok : PtOk q') : IvM { m with xs := m.xs.set i (q', b) } { s with ps := s.ps.modify i fun _ => q' } := by
  have hp : s.ps[i]? = some q := h.at_ hx
  have el : q'.left = q.left := by unfold Pt.left; rw [e4]
  have hlen : (s.ps.modify i fun _ => q').length = s.ps.length := List.length_modify ..
  have hcnt : ∀ f : Pt → Bool, f q' = f q → ((s.ps.modify i fun _ => q').countP f : Int) = (s.ps.countP f : Int) := fun f hf => by
    rw [mid_count hp, hf]; split <;> omega
  refine ⟨h.mk_, ?_, ?_, ?_, ?_, ⟨by show m.fl ≤ (s.ps.modify i fun _ => q').length; rw [hlen]; exact h.fl.1, fun j y hj hy => ?_⟩, ⟨by show m.rl ≤ (s.ps.modify i fun _ => q').length; rw [hlen]; exact h.rl.1, fun j y hj hy => ?_, ?_⟩, h.gone, ?_, fun n => ?_, h.fresh, h.ms, h.mark, by show (s.ps.modify i fun _ => q').length ≤ _ ∧ _; rw [hlen]; exact h.len, ?_, ?_⟩
  · show (m.xs.set i (q', b)).map _ = s.ps.modify i fun _ => q'
    apply List.ext_getElem?
    intro j
    rw [mod_get, ← h.ps, List.map_set, List.getElem?_set]
    split
    · rename_i e
      subst e
      rw [if_pos (by rw [List.length_map]; exact (List.getElem?_eq_some_iff.1 hx).1), List.getElem?_map, hx]
      rfl
    · rfl
  · show m.nb = ((((s.ps.modify i fun _ => q').map bytesP).sum : Nat) : Int)
    rw [mid_sum hp, show bytesP q' = bytesP q from by unfold bytesP; rw [e4, e5], h.nb]
    show ((s.ps.map bytesP).sum : Int) = _
    omega
  · show m.nl = ((s.ps.modify i fun _ => q').countP Pt.left : Int)
    rw [hcnt _ el]; exact h.nl
  · show m.no = ((s.ps.modify i fun _ => q').countP (fun p => p.st == 1) : Int)
    rw [hcnt (fun p => p.st == 1) (by show (q'.st == 1) = (q.st == 1); rw [e4])]; exact h.no
  · change (s.ps.modify i fun _ => q')[j]? = _ at hy
    rw [mod_get] at hy
    split at hy
    · rename_i e
      subst e
      rw [hp] at hy
      injection hy with hy
      rw [← hy]
      show q'.st ≠ 1
      rw [e4]
      exact h.fl.2 i q hj hp
    · exact h.fl.2 j y hj hy
  · change (s.ps.modify i fun _ => q')[j]? = _ at hy
    rw [mod_get] at hy
    split at hy
    · rename_i e
      subst e
      rw [hp] at hy
      injection hy with hy
      rw [← hy]
      show q'.st = 3
      rw [e4]
      exact h.rl.2.1 i q hj hp
    · exact h.rl.2.1 j y hj hy
  · show m.lf = ((s.ps.modify i fun _ => q').take m.rl).foldl latF _
    rw [h.rl.2.2]
    rcases Nat.lt_or_ge i m.rl with hi | hi
    · have e6 : (s.ps.modify i fun _ => q').take m.rl = (s.ps.take m.rl).modify i fun _ => q' := by
        apply List.ext_getElem?
        intro j
        rw [List.getElem?_take, mod_get, mod_get, List.getElem?_take]
        split <;> split <;> rfl
      have hp2 : (s.ps.take m.rl)[i]? = some q := by rw [List.getElem?_take, if_pos hi]; exact hp
      rw [e6, mid_mod hp2]
      conv => lhs; rw [mid_split hp2]
      rw [List.foldl_append, List.foldl_append, List.foldl_cons, List.foldl_cons]
      congr 1
      unfold latF
      rw [e5]
    · rw [take_mod _ _ hi]
  · obtain ⟨pl, hn, hm⟩ := h.nums
    refine ⟨pl, ⟨hn.up, fun k j hj => ?_, fun j y hy hyl => ?_⟩, hm⟩
    · obtain ⟨y, h1, h2⟩ := hn.at_ k j hj
      change ∃ p, (s.ps.modify i fun _ => q')[j]? = _ ∧ _
      rw [mod_get]
      split
      · rename_i e
        subst e
        rw [hp] at h1
        injection h1 with h1
        exact ⟨q', by rw [hp]; rfl, by rw [e1, h1]; exact h2⟩
      · exact ⟨y, h1, h2⟩
    · change (s.ps.modify i fun _ => q')[j]? = _ at hy
      rw [mod_get] at hy
      split at hy
      · rename_i e
        subst e
        rw [hp] at hy
        injection hy with hy
        change q' = y at hy
        rw [← hy] at hyl ⊢
        rw [e1]
        exact hn.all i q hp (by rw [← el]; exact hyl)
      · exact hn.all j y hy hyl
  · show m.df n = ((s.ps.modify i fun _ => q').countP (dlP n) : Int)
    rw [hcnt (dlP n) (by unfold dlP; rw [el, e2, e3])]
    exact h.df n
  · intro y hy
    change y ∈ s.ps.modify i fun _ => q' at hy
    obtain ⟨j, hj⟩ := List.mem_iff_getElem?.1 hy
    rw [mod_get] at hj
    split at hj
    · rename_i e
      subst e
      rw [hp] at hj
      injection hj with hj
      rw [← hj]
      exact ok
    · exact h.ok y (List.mem_of_getElem? hj)
  · intro y hy
    change y ∈ s.ps.modify i fun _ => q' at hy
    obtain ⟨j, hj⟩ := List.mem_iff_getElem?.1 hy
    rw [mod_get] at hj
    split at hj
    · rename_i e
      subst e
      rw [hp] at hj
      injection hj with hj
      rw [← hj]
      show q'.m ∈ s.ms
      rw [e1]
      exact h.pm q (List.mem_of_getElem? hp)
    · exact h.pm y (List.mem_of_getElem? hj)
/-- One plain field of a fragment is stored. -/
theorem FlS.setq {u : Value} (h : FlS w p a m s) (hv : a.v = .slice (some ⟨g, off, none⟩) n cap) (hx : m.xs[i]? = some (q, b)) (hk : k < 26) (hc : ∀ j, j < 26 → (frA q' b)[j]? = if j = k then some u else (frA q b)[j]?) (e1 : q'.m = q.m) (e2 : q'.lk = q.lk) (e3 : q'.ln = q.ln) (e4 : q'.st = q.st) (e5 : q'.c = q.c) (ok : PtOk q') :
    FlS (w.setCell ⟨g, off + i * 26 + k, none⟩ u) p a { m with xs := m.xs.set i (q', b) } { s with ps := s.ps.modify i fun _ => q' } ∧ Stp w (w.setCell ⟨g, off + i * 26 + k, none⟩ u) p a m a { m with xs := m.xs.set i (q', b) } := by
  obtain ⟨hr, hn⟩ := h.mem.psr hv
  subst hn
  have hb : XP.bv (q', b) = XP.bv (q, b) := by unfold XP.bv; rw [e5]
  have hf : Fr (fun i => i = g) w (w.setCell ⟨g, off + i * 26 + k, none⟩ u) := fr_set _
  have h0 : m.fresh = true → off = 0 := fun e => by
    obtain ⟨g', off', cap', hv', _, _, _, h0, _⟩ := h.mem.rowAt hx
    rw [hv] at hv'
    injection hv' with e6 _ _
    injection e6 with e6
    injection e6 with _ e7 _
    rw [e7]; exact h0 e
  refine ⟨⟨h.mem.upd hx hv h0 hf (hr.set1 hx hk hc) (.inl ⟨hb, by show q'.c.body = q.c.body; rw [e5]⟩), h.inv.mod hx e1 e2 e3 e4 e5 ok⟩, Stp.of hf (fun j e => by rw [e]; exact .inr (.inl (by rw [hv]; rfl))) (fg_xs (xs := []) rfl (fun y hy => ?_))⟩
  rcases List.mem_or_eq_of_mem_set hy with hy | rfl
  · exact .inl ⟨y, hy, rfl⟩
  · exact .inl ⟨_, List.mem_of_getElem? hx, hb⟩
def FS.missK (s : FS) (i : Nat) : FS := { s with ps := pre missP i s.ps }
def MissDone (w : World) (p : Nat) (a : Ad) (m : FM) (s : FS) (n : Nat) (e : Ending) (w' : World) : Prop := ∃ (m' : FM), e = .returned (.bool ((s.ps.take n).any lostP)) ∧ FlS w' p a m' (s.miss n) ∧ Stp w w' p a m a m' ∧ m'.nums = m.nums
theorem take_any_step (l : List Pt) {i : Nat} {x : Pt} (hx : l[i]? = some x) (f : Pt → Bool) : (l.take (i + 1)).any f = ((l.take i).any f || f x) := by
  rw [List.take_add_one, hx]
  simp
theorem mod_const {l : List Pt} {i : Nat} {x : Pt} (hx : l[i]? = some x) (f : Pt → Pt) (y : Pt) (h : f x = y) : (l.modify i fun _ => y) = l.modify i f := by
  rw [mid_mod hx, mid_mod hx, h]
theorem mod_mod (l : List Pt) (i : Nat) (y : Pt) (f : Pt → Pt) : (l.modify i fun _ => y).modify i f = l.modify i fun _ => f y := by
  apply List.ext_getElem?
  intro j
  rw [mod_get, mod_get, mod_get]
  split
  · cases l[j]? <;> rfl
  · rfl
set_option maxHeartbeats 4000000 in
theorem miss_s (h : FlS w p a m s) (hmi : MiOk s) (hn : n ≤ s.ps.length) : Calls Try.prog 37 #[fptr p, .int .i64 (n : Int)] w (MissDone w p a m s n) := by
  obtain ⟨A, cap, hv, h1, h2, hA⟩ := h.list
  have hl := h.inv.lt
  obtain ⟨N, hN⟩ : ∃ n, n = s.ps.length := ⟨_, rfl⟩
  rw [← hN] at hl h1 hA hv hn
  have H0 : Hid (FlS w p a m (s.missK 0)) := by unfold FS.missK; rw [pre_zero]; exact h
  have HV := Lib.hid hv
  have HA := Lib.hid hA
  have HN := Lib.hid hN
  have HMI := Lib.hid hmi
  have HR : Hid (Stp w w p a m a m) := Stp.refl _ _ _ _
  clear h hv hA hN hmi
  go_enter Try.func37, Try.ntmps37
  go_upto_region 3 with (fail)
  obtain ⟨wo, hwo⟩ : ∃ wo : World, wo = w := ⟨_, rfl⟩
  have HWO := Lib.hid hwo
  clear hwo
  go_loopw [5, 9] (fun v5 v9 wr => ∃ (i : Nat) (m' : FM), v5 = .bool ((s.ps.take i).any lostP) ∧ v9 = .int .i64 (i : Int) ∧ i ≤ n ∧ Hid (FlS wr p a m' (s.missK i)) ∧ Hid (Stp w wr p a m a m') ∧ Hid (m'.nums = m.nums)) (fun _ v9 _ => n - (intOf v9).toNat)
  case atStart => exact ⟨0, m, rfl, rfl, by omega, H0, HR, Lib.hid rfl⟩
  case round =>
    clear H0 HR
    obtain ⟨i, m', rfl, rfl, hi, HS, HT, HU⟩ := hrel
    obtain ⟨sb, hsb⟩ : ∃ sb, sb = (s.ps.take i).any lostP := ⟨_, rfl⟩
    have HSB := Lib.hid hsb
    rw [← hsb]
    clear hsb
    by_cases hlt : i < n
    · obtain ⟨g, off, rfl, hgp⟩ := HA.out (by omega)
      have hc1 : wr.cell? ⟨p, 1, none⟩ = some (.slice (some ⟨g, off, none⟩) N cap) := by have := HS.out.mem.blk.cell 1; rw [← HV.out]; exact this
      obtain ⟨q, hq⟩ : ∃ q, s.ps[i]? = some q := ⟨_, List.getElem?_eq_getElem (by rw [← HN.out]; omega)⟩
      have hq' : (s.missK i).ps[i]? = some q := by show (pre missP i s.ps)[i]? = _; rw [pre_get, if_neg (by omega)]; exact hq
      obtain ⟨b, hx, hfr⟩ := HS.out.frag HV.out hq'
      have hc6 : wr.cell? ⟨g, off + i * 26 + 6, none⟩ = some (.int .i64 (q.st : Int)) := hfr.c 6 (by omega)
      have hi2 : (i : Int) < (n : Int) := by omega
      have hi3 : (i : Int) < (N : Int) := by omega
      have hany := take_any_step s.ps hq lostP
      have HANY := Lib.hid hany
      obtain ⟨st, hst⟩ : ∃ st, st = q.st := ⟨_, rfl⟩
      rw [← hst] at hc6
      by_cases h0 : st = 0
      · subst h0
        have hm2 := HMI.out q (List.mem_of_getElem? hq) hst.symm
        have hc5 : wr.cell? ⟨g, off + i * 26 + 5, none⟩ = some (.int .i64 (q.mi : Int)) := hfr.c 5 (by omega)
        have hf5 := (HS.out.mem.psr HV.out).1.frz (off + i * 26 + 5)
        obtain ⟨mi, hmi⟩ : ∃ mi, mi = q.mi := ⟨_, rfl⟩
        rw [← hmi] at hc5 hm2
        have ok := HS.out.inv.ok q (List.mem_of_getElem? hq')
        obtain ⟨W1, hW1⟩ : ∃ W1, W1 = wr.setCell ⟨g, off + i * 26 + 5, none⟩ (.int .i64 ((mi : Int) + 1)) := ⟨_, rfl⟩
        obtain ⟨q1, hq1⟩ : ∃ q1 : Pt, q1 = { q with mi := mi + 1 } := ⟨_, rfl⟩
        have hset := HS.out.setq (u := .int .i64 ((mi : Int) + 1)) (q' := q1) (k := 5) HV.out hx (by omega) (fun j hj => by
          rw [hq1]
          have : j = 0 ∨ j = 1 ∨ j = 2 ∨ j = 3 ∨ j = 4 ∨ j = 5 ∨ j = 6 ∨ 7 ≤ j := by omega
          rcases this with rfl | rfl | rfl | rfl | rfl | rfl | rfl | h7
          · rfl
          · rfl
          · rfl
          · rfl
          · rfl
          · show some (Value.int .i64 (((mi + 1 : Nat)) : Int)) = some _
            rw [Int.natCast_add]; rfl
          · rfl
          · rw [if_neg (by omega)]
            obtain ⟨k, rfl⟩ : ∃ k, j = k + 7 := ⟨j - 7, by omega⟩
            rfl) (by rw [hq1]) (by rw [hq1]) (by rw [hq1]) (by rw [hq1]) (by rw [hq1]) (by rw [hq1]; exact ⟨ok.m, ok.lk, ok.ln, ok.sent, ok.wn, by show mi + 1 ≤ 3; omega, ok.st, ok.ok, ok.bare, ok.len⟩)
        rw [← hW1] at hset
        obtain ⟨s1, hs1⟩ : ∃ s1 : FS, s1 = { s.missK i with ps := (s.missK i).ps.modify i fun _ => q1 } := ⟨_, rfl⟩
        obtain ⟨m1, hm1⟩ : ∃ m1 : FM, m1 = { m' with xs := m'.xs.set i (q1, b) } := ⟨_, rfl⟩
        rw [← hs1, ← hm1] at hset
        have HS1 := Lib.hid hset.1
        have HT1 := Lib.hid (HT.out.trans hset.2)
        have HU1 : Hid (m1.nums = m.nums) := by rw [hm1]; exact HU.out
        have hc1' : W1.cell? ⟨p, 1, none⟩ = some (.slice (some ⟨g, off, none⟩) N cap) := by have := HS1.out.mem.blk.cell 1; rw [← HV.out]; exact this
        have hc5' : W1.cell? ⟨g, off + i * 26 + 5, none⟩ = some (.int .i64 ((mi : Int) + 1)) := by
          rw [hW1]
          exact World.cell?_setCell_same' _ _ _ (by rw [hc5]; rfl)
        have hq2 : s1.ps[i]? = some q1 := by rw [hs1]; show ((s.missK i).ps.modify i fun _ => q1)[i]? = _; rw [mod_get, if_pos rfl, hq']; rfl
        by_cases h3 : mi = 2
        · have htn := turn_t HS1.out hq2 (z := 1) (by omega) (fun _ => by rw [hq1]; unfold Pt.left; show (q.st == 0 || _) = true; rw [← hst]; rfl)
          have he : s1.turn i 1 = s.missK (i + 1) := by
            rw [hs1]
            unfold FS.missK FS.turn
            have e1 := pre_step missP (fun _ => q1.turn 1) s.ps hq (by unfold missP; rw [if_pos hst.symm, if_pos (by rw [← hmi, h3]), hq1, hmi])
            simp only [mod_mod, e1]
          rw [he] at htn
          have hsb2 : (s.ps.take (i + 1)).any lostP = true := by rw [hany]; unfold lostP; rw [← hst, ← hmi, h3]; simp
          have HSB2 := Lib.hid hsb2
          subst h3
          clear hx hfr he hst hset hs1 hm1 hq1 hq2 hmi ok hany hsb2 hq'
          rw [show ((2 : Nat) : Int) + 1 = 3 from rfl] at hW1 hc5'
          go_upto_region 8 with (fail)
          rw [← hW1]
          clear hW1 hc5 hf5 hc6 hc1
          go_wp2_with fail
          refine htn.mono ?_
          rintro e w5 ⟨rfl, m5, H5, HT5, HU5⟩
          have HT6 := Lib.hid (HT1.out.trans HT5.out)
          have HU6 : Hid (m5.nums = m.nums) := by rw [HU5.out]; exact HU1.out
          clear htn HT5 HS HT HS1 HT1
          go_wp2_with fail
          go_roundw
          case rel => exact ⟨i + 1, m5, by rw [HSB2.out], by go_num, by omega, H5, HT6, HU6⟩
          case measure => simp [intOf]; omega
        · have hb3 : ¬ (mi : Int) + 1 = 3 := by omega
          have hb4 : ((mi : Int) + 1 == 3) = false := by simpa using hb3
          have he : s1 = s.missK (i + 1) := by
            rw [hs1]
            unfold FS.missK
            have e1 := pre_step missP (fun _ => q1) s.ps hq (by unfold missP; rw [if_pos hst.symm, if_neg (by rw [← hmi]; omega), hq1, hmi])
            simp only [e1]
          have hm4 : (mi + 1 == 3) = false := by simp; omega
          have hsb2 : (s.ps.take (i + 1)).any lostP = sb := by
            rw [hany, HSB.out]
            unfold lostP
            rw [← hst, ← hmi, hm4]
            simp
          have HSB2 := Lib.hid hsb2
          have HS6 : Hid (FlS W1 p a m1 (s.missK (i + 1))) := by rw [← he]; exact HS1.out
          clear hx hfr he hst hset hs1 hm1 hq1 hq2 hmi ok hany hsb2 hq' hm4
          go_upto_region 8 with (fail)
          rw [← hW1]
          clear hW1 hc5 hf5 hc6 hc1 HS HT HS1
          go_wp2_with fail
          go_roundw
          case rel => exact ⟨i + 1, m1, by rw [HSB2.out], by go_num, by omega, HS6, HT1, HU1⟩
          case measure => simp [intOf]; omega
      · have hb : ((st : Int) == 0) = false := beq_no (by omega)
        have hb2 : ¬ (st : Int) = 0 := by omega
        have he : s.missK i = s.missK (i + 1) := by
          unfold FS.missK
          rw [pre_same missP s.ps hq (by unfold missP; rw [if_neg (by rw [← hst]; exact h0)])]
        have hm4 : (st == 0) = false := by simp; omega
        have hsb2 : (s.ps.take (i + 1)).any lostP = sb := by
          rw [hany, HSB.out]
          unfold lostP
          rw [← hst, hm4]
          simp
        have HSB2 := Lib.hid hsb2
        clear hx hfr hst hany hsb2 hq' hm4
        go_wp2_with fail
        go_roundw
        case rel => exact ⟨i + 1, m', by rw [HSB2.out], by go_num, by omega, by rw [← he]; exact HS, HT, HU⟩
        case measure => simp [intOf]; omega
    · have hin : i = n := by omega
      subst hin
      have hlt2 : ¬ (i : Int) < (i : Int) := by omega
      go_wp2_with fail
      go_ret
      exact ⟨m', by rw [HSB.out]; rfl, HS.out, HT.out, HU.out⟩
end
end Go.Proofs.Ytfgfiiknbkakaaa.Fl

set_option linter.unusedVariables false
set_option linter.unusedSimpArgs false
set_option maxRecDepth 20000
namespace Go.Proofs.Ytfgfiiknbkakaaa.Fl
open Go.ChangeShapes Go.WideShapes Go.ChangeAt Go.RowKit Go.Deep Go.Maps Go.Proofs.Ytfgfiiknbkakaaa.Words Go.Proofs.Ytfgfiiknbkakaaa.Oct Go.Proofs.Ytfgfiiknbkakaaa.Par Go.Proofs.Ytfgfiiknbkakaaa.Chk Go.Proofs.Ytfgfiiknbkakaaa.Mx
def abP (q : Pt) : Pt := if q.left = true then q.turn 3 else q
/-- Some places of a list turned. -/
def modAll (f : Pt → Pt) (L : List Nat) (l : List Pt) : List Pt := L.foldl (fun l i => l.modify i f) l
theorem modAll_get (f : Pt → Pt) : ∀ (L : List Nat) (l : List Pt) (j : Nat), L.Nodup → (modAll f L l)[j]? = if j ∈ L then (l[j]?).map f else l[j]?
  | [], l, j, _ => by simp [modAll]
  | i :: L, l, j, hn => by
    have hn' := List.nodup_cons.1 hn
    have h := modAll_get f L (l.modify i f) j hn'.2
    show (modAll f L (l.modify i f))[j]? = _
    rw [h, mod_get]
    by_cases e : i = j
    · subst e
      rw [if_neg hn'.1, if_pos rfl, if_pos List.mem_cons_self]
    · rw [if_neg e]
      by_cases hj : j ∈ L
      · rw [if_pos hj, if_pos (List.mem_cons_of_mem _ hj)]
      · rw [if_neg hj, if_neg (fun h => (List.mem_cons.1 h).elim (fun h => e h.symm) hj)]
theorem modAll_step (f : Pt → Pt) (L : List Nat) (l : List Pt) {j i : Nat} (h : L[j]? = some i) : modAll f (L.take (j + 1)) l = (modAll f (L.take j) l).modify i f := by
  unfold modAll
  rw [List.take_add_one, h, List.foldl_append]
  rfl
theorem asc_nodup {L : List Nat} (h : L.Pairwise (· < ·)) : L.Nodup := h.imp (fun {a b} hab e => by omega)
theorem mod_same {l : List Pt} {i : Nat} {x : Pt} (h : l[i]? = some x) (f : Pt → Pt) (e : f x = x) : l.modify i f = l := by
  apply List.ext_getElem?
  intro j
  rw [mod_get]
  split
  · rename_i e2; subst e2; rw [h]; simp [e]
  · rfl
section
variable {w w' : World} {p i n : Nat} {k : Int} {a : Ad} {m : FM} {s : FS} {q : Pt}
def FS.abK (s : FS) (L : List Nat) (j : Nat) : FS := { s with ps := modAll abP (L.take j) s.ps }
theorem abK_all {pl : Int → List Nat} (h : NumOk s.ps pl) (k : Int) : (s.abK (pl k) (pl k).length).ps = (s.abandon k).ps := by
  show modAll abP ((pl k).take (pl k).length) s.ps = s.ps.map _
  rw [List.take_length]
  apply List.ext_getElem?
  intro j
  rw [modAll_get _ _ _ _ (asc_nodup (h.up k)), List.getElem?_map]
  split
  · rename_i hj
    obtain ⟨p, h1, h2⟩ := h.at_ k j hj
    rw [h1]
    simp [abP, h2]
  · rename_i hj
    cases hp : s.ps[j]? with
    | none => rfl
    | some p =>
      simp only [Option.map_some, Option.some.injEq]
      rw [if_neg (fun e => hj (by rw [← e.1]; exact h.all j p hp e.2))]
/-- What is left when a message is struck from the numbers, and told as gone. -/
theorem IvM.aband {pl : Int → List Nat} {s1 : FS} (h : IvM m s1) (hn : NumOk s.ps pl) (e1 : s1.ps = (s.abandon k).ps) (e2 : ∀ x, m.nums x = (pl x).map (tsnOf s.mark)) (e3 : s1.mark = s.mark ∧ s1.gone = s.gone ∧ s1.fresh = s.fresh ∧ s1.ms = s.ms) :
    IvM { m with nums := fun x => if x = k then [] else m.nums x, gone := fun x => decide (x = k) || m.gone x } (s.abandon k) := by
  have e4 : s.abandon k = { s1 with gone := fun x => decide (x = k) || s1.gone x } := by
    obtain ⟨a1, a2, a3, a4⟩ := e3
    unfold FS.abandon at e1 ⊢
    rw [a2]
    cases s1
    simp at a1 a2 a3 a4 e1 ⊢
    exact ⟨a1.symm, e1.symm, a3.symm, a4.symm⟩
  rw [e4]
  refine ⟨h.mk_, h.ps, h.nb, h.nl, h.no, h.fl, h.rl, ?_, ⟨fun x => if x = k then [] else pl x, ⟨fun x => ?_, fun x j hj => ?_, fun j y hy hl => ?_⟩, fun x => ?_⟩, h.df, h.fresh, h.ms, h.mark, h.len, h.ok, h.pm⟩
  · show (fun x => decide (x = k) || m.gone x) = fun x => decide (x = k) || s1.gone x
    rw [h.gone]
  · show (if x = k then [] else pl x).Pairwise _
    split
    · exact List.Pairwise.nil
    · exact hn.up x
  · change j ∈ (if x = k then [] else pl x) at hj
    split at hj
    · simp at hj
    · obtain ⟨y, h1, h2⟩ := hn.at_ x j hj
      refine ⟨if y.m = k ∧ y.left = true then y.turn 3 else y, ?_, ?_⟩
      · show s1.ps[j]? = _
        rw [e1]
        show (s.ps.map _)[j]? = _
        rw [List.getElem?_map, h1]
        rfl
      · split
        · exact h2
        · exact h2
  · change s1.ps[j]? = _ at hy
    rw [e1] at hy
    change (s.ps.map _)[j]? = _ at hy
    rw [List.getElem?_map] at hy
    cases hz : s.ps[j]? with
    | none => rw [hz] at hy; cases hy
    | some u =>
      rw [hz] at hy
      injection hy with hy
      change (if u.m = k ∧ u.left = true then u.turn 3 else u) = y at hy
      by_cases hc : u.m = k ∧ u.left = true
      · rw [if_pos hc] at hy
        rw [← hy, turn_left u (by omega)] at hl
        simp at hl
      · rw [if_neg hc] at hy
        subst hy
        show j ∈ (if u.m = k then [] else pl u.m)
        rw [if_neg (fun e => hc ⟨e, hl⟩)]
        exact hn.all j u hz hl
  · show (if x = k then [] else m.nums x) = (if x = k then [] else pl x).map (tsnOf s1.mark)
    rw [e3.1]
    split
    · rfl
    · exact e2 x
theorem numsF_del {nums : Int → List Nat} {nm : Int → Value} : delF (numsF nums nm) k = numsF (fun x => if x = k then [] else nums x) nm := funext fun x => by
  unfold delF numsF
  by_cases e : x = k
  · simp [e]
  · simp [e]
theorem goneF_put {g : Int → Bool} : putF (goneF g) k unitV = goneF (fun x => decide (x = k) || g x) := funext fun x => by
  unfold putF goneF
  by_cases e : x = k
  · simp [e]
  · simp [e]
theorem zero_nums (w : World) : (zeroValue 31).run Try.prog w = .ok nilV w := by kernel_rfl
/-- The row of a message, looked up. -/
theorem FlM.nlook (h : FlM w p a m) (hk : i64ok k) : ∃ A cap, (∀ d, (Instr.lookup 82 (.map (some a.nu)) (.int .i64 k) false).run Try.prog (w.drewN d) = .ok (.slice A (m.nums k).length cap) (w.drewN d)) ∧ (m.nums k).length ≤ cap ∧ cap ≤ 9223372036854775807 ∧
    (m.nums k ≠ [] → a.nm k = .slice A (m.nums k).length cap ∧ ∃ g off, A = some ⟨g, off, none⟩) ∧ (m.nums k = [] → A = none ∧ cap = 0) := by
  have h1 : ∀ d, MapZ Try.prog 3 (w.drewN d) a.nu (numsF m.nums a.nm) := fun d => h.num.same rfl
  have hl := fun d => MapZ.look (h1 d) (t := 82) Try.underlying82 (zero_nums _) hk
  by_cases e : m.nums k = []
  · refine ⟨none, 0, fun d => ?_, by rw [e]; exact Nat.le_refl _, by omega, fun h => absurd e h, fun _ => ⟨rfl, rfl⟩⟩
    rw [hl d]
    unfold numsF
    rw [if_pos e, e]
    rfl
  · obtain ⟨g, off, cap, cur, h2, h3, h4, _⟩ := (h.row k e).ex
    refine ⟨_, cap, fun d => ?_, h3, h4, fun _ => ⟨h2, g, off, rfl⟩, fun h => absurd h e⟩
    rw [hl d]
    unfold numsF
    rw [if_neg e, h2]
    rfl
end
end Go.Proofs.Ytfgfiiknbkakaaa.Fl

set_option linter.unusedVariables false
set_option linter.unusedSimpArgs false
set_option maxRecDepth 20000
namespace Go.Proofs.Ytfgfiiknbkakaaa.Fl
open Go.ChangeShapes Go.WideShapes Go.ChangeAt Go.RowKit Go.Deep Go.Maps Go.Proofs.Ytfgfiiknbkakaaa.Words Go.Proofs.Ytfgfiiknbkakaaa.Oct Go.Proofs.Ytfgfiiknbkakaaa.Par Go.Proofs.Ytfgfiiknbkakaaa.Chk Go.Proofs.Ytfgfiiknbkakaaa.Mx
section
variable {w w' : World} {p i n : Nat} {k : Int} {a : Ad} {m : FM} {s : FS} {q : Pt}
def AbandonDone (w : World) (p : Nat) (a : Ad) (m : FM) (s : FS) (k : Int) (e : Ending) (w' : World) : Prop := ∃ (m' : FM), e = .returned (.tuple #[]) ∧ FlS w' p a m' (s.abandon k) ∧ Stp w w' p a m a m'
set_option maxHeartbeats 4000000 in
theorem abandon_s (h : FlS w p a m s) (hk : i64ok k) (hm : k ∈ s.ms) : Calls Try.prog 40 #[fptr p, .int .i64 k] w (AbandonDone w p a m s k) := by
  obtain ⟨pl, hno, hnu⟩ := h.inv.nums
  obtain ⟨A, cap, hlk, h1, h2, h3, h4⟩ := h.mem.nlook hk
  obtain ⟨L, hL⟩ : ∃ L, L = pl k := ⟨_, rfl⟩
  have hlk0 := hlk 0
  change (Instr.lookup 82 (.map (some a.nu)) (.int .i64 k) false).run Try.prog w = _ at hlk0
  have c7 : w.cell? ⟨p, 7, none⟩ = some (.map (some a.nu)) := h.mem.blk.cell 7
  obtain ⟨n, hn⟩ : ∃ n, n = (m.nums k).length := ⟨_, rfl⟩
  have hnL : n = L.length := by rw [hn, hnu k, List.length_map, hL]
  rw [← hn] at hlk0 h1 h3
  have H0 : Hid (FlS w p a m (s.abK L 0)) := h
  have HR : Hid (Stp w w p a m a m) := Stp.refl _ _ _ _
  have HNO := Lib.hid hno
  have HNU := Lib.hid hnu
  have HNL := Lib.hid hnL
  have HL := Lib.hid hL
  have HRW := Lib.hid h3
  have HNE : Hid (0 < n → m.nums k ≠ []) := fun h0 e => by rw [hn, e] at h0; simp at h0
  have HMK : Hid (s.mark < 4294967296) := h.inv.mark
  have HLT : Hid (s.ps.length ≤ 1048576) := h.inv.lt
  have HKM := Lib.hid hm
  have HK := Lib.hid hk
  clear hlk h3 h4 hno hnu hnL hL hn h hm hk
  go_enter Try.func40, Try.ntmps40
  go_upto_region 1 with (fail)
  obtain ⟨wo, hwo⟩ : ∃ wo : World, wo = w := ⟨_, rfl⟩
  have HWO := Lib.hid hwo
  clear hwo
  go_loopw [14] (fun v14 wr => ∃ (j : Nat) (m' : FM), v14 = .int .i64 (j : Int) ∧ j ≤ n ∧ Hid (FlS wr p a m' (s.abK L j)) ∧ Hid (Stp w wr p a m a m') ∧ Hid (m'.nums = m.nums)) (fun v14 _ => n - (intOf v14).toNat)
  case atStart => exact ⟨0, m, rfl, by omega, H0, HR, Lib.hid rfl⟩
  case round =>
    clear H0 HR hlk0 c7
    obtain ⟨j, m', rfl, hj, HS, HT, HU⟩ := hrel
    by_cases hlt : j < n
    · have hne := HNE.out (by omega)
      obtain ⟨hnm, g0, off0, rfl⟩ := HRW.out hne
      -- the number
      have hLj : j < L.length := by rw [← HNL.out]; exact hlt
      obtain ⟨i, hi⟩ : ∃ i, L[j]? = some i := ⟨_, List.getElem?_eq_getElem hLj⟩
      have hiL : i ∈ pl k := by rw [← HL.out]; exact List.mem_of_getElem? hi
      obtain ⟨q, hq, hqm⟩ := HNO.out.at_ k i hiL
      have hil := (List.getElem?_eq_some_iff.1 hq).1
      have hnd := asc_nodup (HNO.out.up k)
      rw [← HL.out] at hnd
      have hnot : i ∉ L.take j := fun hx => by
        obtain ⟨y, hy⟩ := List.mem_iff_getElem?.1 hx
        rw [List.getElem?_take] at hy
        split at hy
        · rename_i hyj
          have := (List.getElem?_inj (by omega) hnd).1 (hy.trans hi.symm)
          omega
        · cases hy
      have hq' : (s.abK L j).ps[i]? = some q := by
        show (modAll abP (L.take j) s.ps)[i]? = _
        rw [modAll_get _ _ _ _ (hnd.sublist (List.take_sublist _ _)), if_neg hnot]; exact hq
      have hrow := HS.out.mem.row k (by rw [HU.out]; exact hne)
      obtain ⟨g1, off1, cap1, cur, e1, _, _, hb, _, hsz, hcur⟩ := hrow.ex
      rw [hnm] at e1
      injection e1 with e1 e8 e9
      injection e1 with e1
      injection e1 with e1 e2 e7
      clear e8 e9 e7
      subst e1 e2
      have hcn : wr.cell? ⟨g0, off0 + j, none⟩ = some (.int .u32 (tsnOf s.mark i : Int)) := by
        rw [hb.cell]
        refine hcur j _ ?_
        rw [HU.out, HNU.out k, ← HL.out, List.getElem?_map, hi]
        rfl
      have hj2 : (j : Int) < (n : Int) := by omega
      obtain ⟨B, bcap, hv, _, hbc, hB⟩ := HS.out.list
      have hps : (s.abK L j).ps.length = s.ps.length := by
        show (modAll abP (L.take j) s.ps).length = _
        clear hcn hcur hb hsz hrow
        generalize L.take j = M
        unfold modAll
        have : ∀ (M : List Nat) (l : List Pt), (M.foldl (fun l i => l.modify i abP) l).length = l.length := fun M => by
          induction M with
          | nil => intro l; rfl
          | cons x M ih => intro l; rw [List.foldl_cons, ih, List.length_modify]
        exact this M s.ps
      rw [hps] at hv hB
      obtain ⟨g, off, rfl, hgp⟩ := hB (by omega)
      have hc1 : wr.cell? ⟨p, 1, none⟩ = some (.slice (some ⟨g, off, none⟩) s.ps.length bcap) := by have := HS.out.mem.blk.cell 1; rw [← hv]; exact this
      have hc0 : wr.cell? ⟨p, 0, none⟩ = some (.int .u32 (s.mark : Int)) := by have := HS.out.mem.blk.cell 0; rw [HS.out.inv.mk_] at this; exact this
      obtain ⟨b, hx, hfr⟩ := HS.out.frag hv hq'
      have hl := left_any (w := wr) (g := g) (o := off + i * 26) (st := q.st) (hfr.c 6 (by omega))
      have hd := Ser.dist_any (s.mark : Int) (tsnOf s.mark i : Int) wr
      obtain ⟨dd, hdd⟩ : ∃ dd : Nat, dd = i + 1 := ⟨_, rfl⟩
      rw [dist_tsn HMK.out (by have := HLT.out; omega), show (i : Int) + 1 = (dd : Int) by omega] at hd
      have hi3 : (i : Int) < (s.ps.length : Int) := by omega
      obtain ⟨N, hN⟩ : ∃ N, N = s.ps.length := ⟨_, rfl⟩
      rw [← hN] at hc1 hi3 hil
      have hNl : N ≤ 1048576 := by rw [hN]; exact HLT.out
      have hbc2 : N ≤ bcap := by have := HS.out.list; obtain ⟨_, _, e3, e4, _⟩ := this; rw [hps, hv] at e3; rw [hps] at e4; injection e3 with _ _ e5; rw [hN, e5]; exact e4
      have hdb : 1 ≤ dd ∧ dd ≤ 1048577 := by omega
      have HDD : Hid ((dd : Int) - 1 = (i : Int)) := by show _ = _; omega
      clear hdd
      have hstep : ∀ z, z = q → (s.abK L (j + 1)).ps = (s.abK L j).ps.modify i abP := fun _ _ => modAll_step abP L s.ps hi
      have HST := Lib.hid (hstep q rfl)
      have HQ := Lib.hid hq'
      obtain ⟨lb, hlb⟩ : ∃ lb, lb = q.left := ⟨_, rfl⟩
      have hl2 : (q.st == 0 || q.st == 1) = lb := by rw [hlb]; rfl
      rw [hl2] at hl
      have htn : lb = true → Calls Try.prog 36 #[fptr p, .int .i64 (i : Int), .int .i64 ((3 : Nat) : Int)] wr fun e w' => e = .returned (.tuple #[]) ∧ ∃ m1, Hid (FlS w' p a m1 ((s.abK L j).turn i 3)) ∧ Hid (Stp wr w' p a m' a m1) ∧ Hid (m1.nums = m'.nums) := fun e => turn_t HS.out hq' (z := 3) (by omega) (fun _ => by rw [← hlb]; exact e)
      obtain ⟨tsn, htsn⟩ : ∃ t, t = tsnOf s.mark i := ⟨_, rfl⟩
      rw [← htsn] at hcn hd
      clear htsn hN hstep hx hfr hl2 hcur hb hsz hrow hps hnot hnd hqm hq hi hiL hLj hnm hq' hv hB
      cases lb
      · have he : (s.abK L j).ps = (s.abK L (j + 1)).ps := by
          rw [HST.out]
          exact (mod_same HQ.out abP (by unfold abP; rw [← hlb]; rfl)).symm
        have he2 : s.abK L j = s.abK L (j + 1) := by
          have h8 : modAll abP (L.take j) s.ps = modAll abP (L.take (j + 1)) s.ps := he
          unfold FS.abK
          rw [h8]
        have HS2 : Hid (FlS wr p a m' (s.abK L (j + 1))) := by rw [← he2]; exact HS.out
        clear htn hlb he he2 HS
        go_upto_region 4 with (go_at_call 35; refine hd.mono ?_; rintro e w' ⟨rfl, rfl⟩)
        rw [HDD.out]
        go_wp2_with (first
          | (go_at_call 44; refine hl.mono ?_; rintro e w' ⟨rfl, rfl⟩))
        go_roundw
        case rel => exact ⟨j + 1, m', by go_num, by omega, HS2, HT, HU⟩
        case measure => simp [intOf]; omega
      · have htn2 := htn rfl
        have he2 : (s.abK L j).turn i 3 = s.abK L (j + 1) := by
          unfold FS.turn
          have h5 : modAll abP (L.take (j + 1)) s.ps = (modAll abP (L.take j) s.ps).modify i abP := HST.out
          unfold FS.abK
          have h6 : (modAll abP (L.take j) s.ps).modify i (Pt.turn 3) = (modAll abP (L.take j) s.ps).modify i abP := by
            have h7 : (modAll abP (L.take j) s.ps)[i]? = some q := HQ.out
            rw [mid_mod h7, mid_mod h7]
            unfold abP
            rw [if_pos hlb.symm]
          simp only [h6]
          rw [h5]
        rw [he2] at htn2
        clear htn hlb he2
        go_upto_region 4 with (go_at_call 35; refine hd.mono ?_; rintro e w' ⟨rfl, rfl⟩)
        rw [HDD.out]
        go_wp2_with (first
          | (go_at_call 44; refine hl.mono ?_; rintro e w' ⟨rfl, rfl⟩)
          | (go_at_call 36; refine htn2.mono ?_; rintro e w5 ⟨rfl, m5, H5, HT5, HU5⟩))
        have HT6 := Lib.hid (HT.out.trans HT5.out)
        have HU6 : Hid (m5.nums = m.nums) := by rw [HU5.out]; exact HU.out
        clear htn2 HT5 HS HT
        go_roundw
        case rel => exact ⟨j + 1, m5, by go_num, by omega, H5, HT6, HU6⟩
        case measure => simp [intOf]; omega
    · have hjn : j = n := by omega
      subst hjn
      have hlt2 : ¬ (j : Int) < (j : Int) := by omega
      have c7 : wr.cell? ⟨p, 7, none⟩ = some (.map (some a.nu)) := HS.out.mem.blk.cell 7
      obtain ⟨W1, hdel, hm1, ht1⟩ := HS.out.mem.num.del (t := 82) Try.underlying82 HK.out 0
      have hdel2 : (Builtin.delete_ #[82, 3] 0 #[.map (some a.nu), .int .i64 k]).run Try.prog wr = .ok (.tuple #[]) W1 := hdel
      have hf1 : Fr (fun i => i = a.nu) wr W1 := (Fr.of_grown ht1.grown).mono (fun i _ e => by injection e)
      rw [numsF_del] at hm1
      have hmem1 := HS.out.mem.nms (nums := fun x => if x = k then [] else m'.nums x) (nm := a.nm) hf1 hm1 (fun x hx => by
        by_cases e : x = k
        · rw [if_pos e] at hx; exact absurd rfl hx
        · rw [if_neg e] at hx
          exact ⟨hx, rfl, fun h => by rw [if_neg e]; exact h⟩)
      have c2 : W1.cell? ⟨p, 2, none⟩ = some (.map (some a.go)) := hmem1.blk.cell 2
      have hms : m'.ms = s.ms := HS.out.inv.ms
      obtain ⟨W2, hput, hm2, ht2⟩ := hmem1.gon.put (t := 81) Try.underlying81 HK.out unitV (L := m'.ms) (fun x hx => by
        unfold goneF at hx
        split at hx
        · rename_i hg; exact HS.out.mem.mso x hg
        · exact absurd rfl hx) (Nat.le_trans HS.out.mem.msl (by omega))
      have hput2 : (Instr.mapUpdate 81 (.map (some a.go)) (.int .i64 k) (.agg #[])).run Try.prog W1 = .ok () W2 := hput
      have hf2 : Fr (fun i => i = a.go) W1 W2 := (Fr.of_grown ht2.grown).mono (fun i _ e => by injection e)
      have hmem2 := hmem1.gons hf2 (g := fun x => decide (x = k) || m'.gone x) (by rw [← goneF_put]; exact hm2) (fun x hx => by
        simp only [Bool.or_eq_true, decide_eq_true_eq] at hx
        rcases hx with hx | hx
        · rw [hx]; show k ∈ m'.ms; rw [hms]; exact HKM.out
        · exact HS.out.mem.mso x hx)
      have hinv := HS.out.inv.aband (k := k) (s := s) HNO.out (by
        have h5 := abK_all HNO.out k
        rw [← HL.out, ← HNL.out] at h5
        exact h5) (fun x => by rw [HU.out]; exact HNU.out x) ⟨rfl, rfl, rfl, rfl⟩
      have H2 : Hid (FlS W2 p a { m' with nums := fun x => if x = k then [] else m'.nums x, gone := fun x => decide (x = k) || m'.gone x } (s.abandon k)) := ⟨hmem2, hinv⟩
      have hstp : Stp wr W2 p a m' a { m' with nums := fun x => if x = k then [] else m'.nums x, gone := fun x => decide (x = k) || m'.gone x } := by
        refine ⟨(hf1.mono fun i _ e => .inr (.inr (.inr (.inl e)))).same (hf2.mono fun i _ e => .inr (.inr (.inl e))), fun i hi => .inl ?_⟩
        rcases hi with h | h | h | h | h | h | ⟨x, h1, h2⟩ | h
        · exact .inl h
        · exact .inr (.inl h)
        · exact .inr (.inr (.inl h))
        · exact .inr (.inr (.inr (.inl h)))
        · exact .inr (.inr (.inr (.inr (.inl h))))
        · exact .inr (.inr (.inr (.inr (.inr (.inl h)))))
        · refine .inr (.inr (.inr (.inr (.inr (.inr (.inl ⟨x, ?_, h2⟩))))))
          change (if x = k then [] else m'.nums x) ≠ [] at h1
          by_cases e : x = k
          · rw [if_pos e] at h1; exact absurd rfl h1
          · rwa [if_neg e] at h1
        · exact .inr (.inr (.inr (.inr (.inr (.inr (.inr h))))))
      have HT2 := Lib.hid (HT.out.trans hstp)
      clear hdel hm1 ht1 hf1 hmem1 hms hput hm2 ht2 hf2 hmem2 hinv hstp HS HT
      go_wp2_with fail
      go_end0
      exact ⟨_, rfl, H2.out, HT2.out⟩
end
end Go.Proofs.Ytfgfiiknbkakaaa.Fl
