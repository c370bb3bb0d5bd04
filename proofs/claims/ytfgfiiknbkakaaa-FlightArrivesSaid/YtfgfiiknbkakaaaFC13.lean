/-
  Of the texts Fl13, Fl14, Fl15, Fl16: what the laws reach.
-/
import Derived.Test.YtfgfiiknbkakaaaFC12

set_option linter.unusedVariables false
set_option linter.unusedSimpArgs false
set_option maxRecDepth 20000
namespace Go.Proofs.Ytfgfiiknbkakaaa.Fl
open Go.ChangeShapes Go.WideShapes Go.ChangeAt Go.RowKit Go.Deep Go.Maps Go.Proofs.Ytfgfiiknbkakaaa.Words Go.Proofs.Ytfgfiiknbkakaaa.Oct Go.Proofs.Ytfgfiiknbkakaaa.Par Go.Proofs.Ytfgfiiknbkakaaa.Chk Go.Proofs.Ytfgfiiknbkakaaa.Mx
section
variable {w w' : World} {p n t : Nat} {k : Int} {a : Ad} {m : FM} {s : FS}
def unlistF (nums : Int → List Nat) (k : Int) (t : Nat) : Int → List Nat := fun x => if x = k ∧ (nums k).head? = some t then (nums k).tail else nums x
def UnlistDone (w : World) (p : Nat) (a : Ad) (m : FM) (k : Int) (t : Nat) (e : Ending) (w' : World) : Prop := ∃ nm' : Int → Value, e = .returned (.tuple #[]) ∧ FlM w' p { a with nm := nm' } { m with nums := unlistF m.nums k t } ∧ Fr (fun i => i = a.nu) w w' ∧ ∀ x, (nm' x).ownBlock = (a.nm x).ownBlock
theorem unlist_no (h : (m.nums k).head? ≠ some t) : unlistF m.nums k t = m.nums := funext fun x => by
  unfold unlistF
  rw [if_neg (fun e => h e.2)]
set_option maxHeartbeats 4000000 in
theorem unlist_s (h : FlM w p a m) (hfr : m.fresh = false) (hk : i64ok k) (ht : t < 4294967296) : Calls Try.prog 60 #[fptr p, .int .i64 k, .int .u32 (t : Int)] w (UnlistDone w p a m k t) := by
  obtain ⟨A, cap, hlk, h1, h2, h3, h4⟩ := h.nlook hk
  have hlk0 := hlk 0
  change (Instr.lookup 82 (.map (some a.nu)) (.int .i64 k) false).run Try.prog w = .ok (.slice A (m.nums k).length cap) w at hlk0
  have c7 : w.cell? ⟨p, 7, none⟩ = some (.map (some a.nu)) := h.blk.cell 7
  obtain ⟨n, hn⟩ : ∃ n, n = (m.nums k).length := ⟨_, rfl⟩
  rw [← hn] at hlk0 h1 h3
  have H := Lib.hid h
  have HF := Lib.hid hfr
  have HK := Lib.hid hk
  have HLN := Lib.hid hn
  clear hlk hfr hk
  rcases Nat.eq_zero_or_pos n with h0 | hpos
  · have he : m.nums k = [] := List.eq_nil_of_length_eq_zero (by omega)
    obtain ⟨rfl, rfl⟩ := h4 he
    have hno : unlistF m.nums k t = m.nums := unlist_no (by rw [he]; simp)
    subst h0
    clear h3 h4 he h hn
    go_enter Try.func60, Try.ntmps60
    go_wp2_with fail
    go_end0
    exact ⟨a.nm, rfl, by rw [hno]; exact H.out, Fr.refl _ _, fun _ => rfl⟩
  · have hne : m.nums k ≠ [] := fun e => by rw [hn, e] at hpos; simp at hpos
    obtain ⟨hnm, g, off, rfl⟩ := h3 hne
    obtain ⟨g1, off1, cap1, cur, e1, _, _, hb, _, hsz, hcur⟩ := (h.row k hne).ex
    rw [hnm] at e1
    injection e1 with e1 e8 e9
    injection e1 with e1
    injection e1 with e1 e2 e7
    subst e1 e2 e9
    obtain ⟨x0, l, hl⟩ : ∃ x0 l, m.nums k = x0 :: l := by
      cases hh : m.nums k with
      | nil => exact absurd hh hne
      | cons x l => exact ⟨x, l, rfl⟩
    have cx : w.cell? ⟨g, off, none⟩ = some (.int .u32 (x0 : Int)) := by
      have h5 := hcur 0 x0 (by rw [hl]; rfl)
      rw [Nat.add_zero] at h5
      exact (hb.cell off).trans h5
    have HNM := Lib.hid hnm
    have HL := Lib.hid hl
    have HROW := Lib.hid (h.row k hne)
    have hn1 : n = l.length + 1 := by rw [hn, hl]; rfl
    have HN1 := Lib.hid hn1
    clear e8 e7 hcur hsz hb hnm hl h h3 h4 hne hn
    by_cases hx : x0 = t
    · subst hx
      by_cases hn2 : n = 1
      · -- the last of its row
        have hl0 : l = [] := List.eq_nil_of_length_eq_zero (by omega)
        subst hl0
        obtain ⟨W1, hdel, hm1, ht1⟩ := H.out.num.del (t := 82) Try.underlying82 HK.out 0
        have hdel2 : (Builtin.delete_ #[82, 3] 0 #[.map (some a.nu), .int .i64 k]).run Try.prog w = .ok (.tuple #[]) W1 := hdel
        have hf1 : Fr (fun i => i = a.nu) w W1 := (Fr.of_grown ht1.grown).mono (fun i _ e => by injection e)
        rw [numsF_del] at hm1
        have e : unlistF m.nums k x0 = fun x => if x = k then [] else m.nums x := funext fun x => by
          unfold unlistF
          rw [HL.out]
          by_cases e : x = k
          · simp [e]
          · simp [e]
        have hmem1 : FlM W1 p { a with nm := a.nm } { m with nums := unlistF m.nums k x0 } := by
          rw [e]
          refine H.out.nms hf1 hm1 (fun x hx => ?_)
          by_cases e : x = k
          · rw [if_pos e] at hx; exact absurd rfl hx
          · rw [if_neg e] at hx
            exact ⟨hx, rfl, fun h => by rw [if_neg e]; exact h⟩
        have HM1 := Lib.hid hmem1
        have HF1 := Lib.hid hf1
        subst hn2
        clear hdel hm1 ht1 hf1 e hmem1 hn1
        go_enter Try.func60, Try.ntmps60
        go_wp2_with fail
        go_end0
        exact ⟨a.nm, rfl, HM1.out, HF1.out, fun _ => rfl⟩
      · -- one of several
        have hn3 : ¬ (n : Int) = 1 := by omega
        have hn4 : ((n : Int) == 1) = false := by simpa using hn3
        have hcap2 : ¬ cap = 1 := by omega
        have hmd : MapZ Try.prog 3 w.drew a.nu (numsF m.nums a.nm) := H.out.num.same rfl
        obtain ⟨W1, hput, hm1, ht1⟩ := hmd.put (t := 82) Try.underlying82 HK.out (.slice (some ⟨g, off + 1, none⟩) (n - 1) (cap - 1)) (L := m.ms) (fun x hx => by
          unfold numsF at hx
          split at hx
          · exact absurd rfl hx
          · rename_i h5; exact H.out.msn x h5) (Nat.le_trans H.out.msl (by omega))
        have hput2 : (Instr.mapUpdate 82 (.map (some a.nu)) (.int .i64 k) (.slice (some ⟨g, off + 1, none⟩) (n - 1) (cap - 1))).run Try.prog w.drew = .ok () W1 := hput
        have hf1 : Fr (fun i => i = a.nu) w W1 := ((Fr.refl _ w).drew).same ((Fr.of_grown ht1.grown).mono (fun i _ e => by injection e))
        have hl0 : l ≠ [] := fun e => by rw [e] at hn1; simp at hn1; omega
        have hmem1 : FlM W1 p { a with nm := fun x => if x = k then .slice (some ⟨g, off + 1, none⟩) (n - 1) (cap - 1) else a.nm x } { m with nums := unlistF m.nums k x0 } := by
          refine H.out.nms hf1 ?_ (fun x hx => ?_)
          · have e2 : putF (numsF m.nums a.nm) k (.slice (some ⟨g, off + 1, none⟩) (n - 1) (cap - 1)) = numsF (unlistF m.nums k x0) (fun x => if x = k then .slice (some ⟨g, off + 1, none⟩) (n - 1) (cap - 1) else a.nm x) := funext fun x => by
              unfold putF numsF unlistF
              rw [HL.out]
              by_cases e : x = k
              · simp [e, hl0]
              · simp [e]
            rw [← e2]
            exact hm1
          · by_cases e : x = k
            · subst e
              refine ⟨by rw [HL.out]; simp, by rw [if_pos rfl, HNM.out]; rfl, fun hr => ?_⟩
              rw [if_pos rfl]
              obtain ⟨g2, off2, cap2, cur2, e3, e4, e5, e6, e7, e8, e9⟩ := hr.ex
              rw [HNM.out] at e3
              injection e3 with e3 e10 e11
              injection e3 with e3
              injection e3 with e3 e12 _
              subst e3 e12 e11
              have e13 : unlistF m.nums x x0 x = l := by unfold unlistF; rw [HL.out]; simp
              rw [e13]
              refine ⟨g, off + 1, cap - 1, cur2, by rw [HN1.out, Nat.add_sub_cancel], by omega, by unfold maxLen at *; omega, e6, (fun e => by rw [HF.out] at e; cases e), by omega, fun i y hy => ?_⟩
              have := e9 (i + 1) y (by rw [HL.out]; exact hy)
              rw [show off + 1 + i = off + (i + 1) by omega]
              exact this
            · have e13 : unlistF m.nums k x0 x = m.nums x := by unfold unlistF; simp [e]
              rw [e13] at hx
              refine ⟨hx, by simp [e], fun hr => ?_⟩
              rw [e13]
              simp only [if_neg e]
              exact hr
        have HM1 := Lib.hid hmem1
        have HF1 := Lib.hid hf1
        have HOB : Hid (∀ x, ((if x = k then (.slice (some ⟨g, off + 1, none⟩) (n - 1) (cap - 1) : Value) else a.nm x)).ownBlock = (a.nm x).ownBlock) := fun x => by
          by_cases e : x = k
          · rw [if_pos e, e, HNM.out]; rfl
          · rw [if_neg e]
        clear hput hm1 ht1 hf1 hmem1 hn1 hmd
        go_enter Try.func60, Try.ntmps60
        go_upto_region 1 with (fail)
        go_region
        go_wp2_with fail
        go_end0
        exact ⟨_, rfl, HM1.out, HF1.out, HOB.out⟩
    · have hno : unlistF m.nums k t = m.nums := unlist_no (by rw [HL.out]; simpa using hx)
      have hx2 : ¬ (x0 : Int) = (t : Int) := by omega
      have hx3 : ((x0 : Int) != (t : Int)) = true := by simpa using hx2
      have hn0 : ((n : Int) == 0) = false := by simp; omega
      clear hn1
      go_enter Try.func60, Try.ntmps60
      go_wp2_with fail
      go_end0
      exact ⟨a.nm, rfl, by rw [hno]; exact H.out, Fr.refl _ _, fun _ => rfl⟩
end
end Go.Proofs.Ytfgfiiknbkakaaa.Fl

set_option linter.unusedVariables false
set_option linter.unusedSimpArgs false
set_option maxRecDepth 20000
namespace Go.Proofs.Ytfgfiiknbkakaaa.Fl
open Go.ChangeShapes Go.WideShapes Go.ChangeAt Go.RowKit Go.Deep Go.Maps Go.Proofs.Ytfgfiiknbkakaaa.Words Go.Proofs.Ytfgfiiknbkakaaa.Oct Go.Proofs.Ytfgfiiknbkakaaa.Par Go.Proofs.Ytfgfiiknbkakaaa.Chk Go.Proofs.Ytfgfiiknbkakaaa.Mx
def frZ : Array Value := frA ⟨0, 0, 0, 0, 0, 0, 0, zeroC 0⟩ ⟨none, 0⟩
theorem zero_fr (w : World) : (zeroValue 94).run Try.prog w = .ok (.agg frZ) w := by kernel_rfl
theorem frA_one (q : Pt) (b : Hd) : ∀ u ∈ (frA q b).toList, u.oneCell' = true := by
  intro u hu
  simp only [frA, List.mem_cons, List.not_mem_nil, or_false] at hu
  rcases hu with rfl | rfl | rfl | rfl | rfl | rfl | rfl | rfl | rfl | rfl | rfl | rfl | rfl | rfl | rfl | rfl | rfl | rfl | rfl | rfl | rfl | rfl | rfl | rfl | rfl | rfl <;> rfl
theorem zeroCells_mem {z : Array Value} {n : Nat} {u : Value} (h : u ∈ (Builtin.zeroCells z n).toList) (h0 : 0 < z.size) : u ∈ z.toList := by
  unfold Builtin.zeroCells at h
  rw [Array.toList_map, List.mem_map] at h
  obtain ⟨i, _, rfl⟩ := h
  have hl : i % z.size < z.size := Nat.mod_lt _ h0
  rw [getElem!_pos z _ hl]
  exact Array.getElem_mem_toList hl
theorem run_clear_agg {P : Program} {w w1 : World} {t e ty b o m c : Nat} {z : Array Value} (ht : P.underlying t = some (.slice e)) (hv : ∀ w, (zeroValue e).run P w = .ok (.agg z) w) (hst : (storeCells ⟨b, o, none⟩ (Builtin.zeroCells z (m + 1)).toList).run P w = .ok () w1) :
    (Builtin.clear_ #[t] ty #[.slice (some ⟨b, o, none⟩) (m + 1) c]).run P w = .ok (.tuple #[]) w1 := by
  simp [Builtin.clear_, run_underlying ht, hv, Value.cells, hst]
theorem PsV.stale {w : World} {fresh f : Bool} {v : Value} {xs : List XP} (h : PsV w fresh v xs) (hf : f = true → fresh = true) : PsV w f v xs := by
  cases h with
  | nil => exact .nil
  | row h1 h2 => exact .row h1 (fun e => h2 (hf e))
/-- Some fragments of the flight's memory are made zero: what is behind them stands. -/
theorem run_clear_parts {w : World} {g off cap n : Nat} {xs : List XP} (h : PsR w g off cap xs) (hn : n ≤ xs.length) (c ty : Nat) :
    ∃ w1, (Builtin.clear_ #[87] ty #[.slice (some ⟨g, off, none⟩) n c]).run Try.prog w = .ok (.tuple #[]) w1 ∧ Fr (fun i => i = g) w w1 ∧ PsR w1 g (off + n * 26) (cap - n) (xs.drop n) := by
  obtain ⟨⟨cur, hb, hs, hc⟩, hle, hm⟩ := h
  rcases Nat.eq_zero_or_pos n with h0 | hpos
  · subst h0
    refine ⟨w, by simp [Builtin.clear_, run_underlying Try.underlying87], Fr.refl _ _, ⟨⟨cur, hb, by omega, fun i x hx j hj => ?_⟩, by simpa using hle, by omega⟩⟩
    rw [List.drop_zero] at hx
    rw [Nat.zero_mul, Nat.add_zero]
    exact hc i x hx j hj
  · have hz : frZ.size = 26 := frA_size _ _
    have hzl : (Builtin.zeroCells frZ n).toList.length = n * 26 := by rw [Array.length_toList, size_zeroCells, hz]
    have hst := run_storeCells_cells (P := Try.prog) g off (Builtin.zeroCells frZ n).toList 0 w (fun j hj => by
      rw [hzl] at hj
      rw [hb.cell, Array.getElem?_eq_getElem (by omega)]
      rfl) (fun j hj => hb.frozen _) (fun v hv => frA_one _ _ v (zeroCells_mem hv (by show 0 < frZ.size; rw [hz]; omega)))
    simp only [Nat.add_zero] at hst
    obtain ⟨cur', h1, h2, h3, _⟩ := blk_setCells (g := g) (Builtin.zeroCells frZ n).toList off w cur hb (by rw [hzl]; omega)
    rw [hzl] at h3
    refine ⟨_, ?_, fr_setCells _ _ _, ⟨⟨cur', h1, by rw [h2]; omega, fun i x hx j hj => ?_⟩, by rw [List.length_drop]; omega, by omega⟩⟩
    · obtain ⟨k, rfl⟩ : ∃ k, n = k + 1 := ⟨n - 1, by omega⟩
      exact run_clear_agg Try.underlying87 zero_fr hst
    · rw [List.getElem?_drop] at hx
      rw [h3 _ (by omega), show off + n * 26 + i * 26 + j = off + (n + i) * 26 + j by omega]
      exact hc (n + i) x hx j hj
section
variable {w w' : World} {p n i : Nat} {a : Ad} {m : FM} {s : FS} {q : Pt}
/-- Nothing is asked of where the rows begin any more. -/
theorem FlM.stale (h : FlM w p a m) {f : Bool} (hf : f = true → m.fresh = true) : FlM w p a { m with fresh := f } :=
  ⟨h.blk, h.prt.stale hf, h.bod, h.gon, h.num, fun k hk => by
    obtain ⟨g, off, cap, cur, e1, e2, e3, e4, e5, e6⟩ := (h.row k hk).ex
    exact ⟨g, off, cap, cur, e1, e2, e3, e4, fun e => e5 (hf e), e6⟩, h.inj, h.dea, h.lat, h.ne, h.mso, h.msn, h.msl, h.i64⟩
/-- What lies from a place on. -/
def fromP (i : Nat) (L : List Nat) : List Nat := L.filter fun j => decide (i ≤ j)
theorem fromP_zero (L : List Nat) : fromP 0 L = L := by unfold fromP; rw [List.filter_eq_self]; simp
theorem fromP_yes {L : List Nat} (h : L.Pairwise (· < ·)) (hi : i ∈ L) : fromP i L = i :: fromP (i + 1) L := by
  unfold fromP
  induction L with
  | nil => simp at hi
  | cons x L ih =>
    have h' := List.pairwise_cons.1 h
    rcases List.mem_cons.1 hi with rfl | hi'
    · rw [List.filter_cons_of_pos (by simp), List.filter_cons_of_neg (by simp)]
      congr 1
      exact List.filter_congr (fun y hy => by have := h'.1 y hy; simp; omega)
    · have hx := h'.1 i hi'
      rw [List.filter_cons_of_neg (by simp; omega), List.filter_cons_of_neg (by simp; omega)]
      exact ih h'.2 hi'
theorem fromP_no {L : List Nat} (hi : i ∉ L) : fromP i L = fromP (i + 1) L := by
  unfold fromP
  exact List.filter_congr (fun y hy => by
    have : y ≠ i := fun e => hi (by rw [← e]; exact hy)
    simp; omega)
def numsK (pl : Int → List Nat) (mark i : Nat) : Int → List Nat := fun x => (fromP i (pl x)).map (tsnOf mark)
theorem unlist_step {pl : Int → List Nat} {mark : Nat} (hn : NumOk s.ps pl) (hq : s.ps[i]? = some q) (hl : s.ps.length ≤ 1048576) : unlistF (numsK pl mark i) q.m (tsnOf mark i) = numsK pl mark (i + 1) := funext fun x => by
  have hil := (List.getElem?_eq_some_iff.1 hq).1
  unfold unlistF numsK
  by_cases hi : i ∈ pl x
  · obtain ⟨y, h1, h2⟩ := hn.at_ x i hi
    rw [hq] at h1
    injection h1 with h1
    rw [← h1] at h2
    rw [← h2] at hi ⊢
    rw [fromP_yes (hn.up _) hi]
    simp
  · rw [← fromP_no hi]
    by_cases e : x = q.m
    · subst e
      rw [if_neg]
      rintro ⟨_, h⟩
      rw [List.head?_map] at h
      cases hh : (fromP i (pl q.m)).head? with
      | none => rw [hh] at h; cases h
      | some j =>
        rw [hh] at h
        injection h with h
        have hj : j ∈ fromP i (pl q.m) := List.mem_of_head? hh
        unfold fromP at hj
        obtain ⟨hj1, hj2⟩ := List.mem_filter.1 hj
        obtain ⟨y, h3, _⟩ := hn.at_ _ j hj1
        have := (List.getElem?_eq_some_iff.1 h3).1
        have := tsn_inj (by omega) (by omega) h
        exact hi (by rw [← this]; exact hj1)
    · rw [if_neg (fun h => e h.1)]
/-- The flight's own cells and its fragments have turned. -/
theorem FlM.big (h : FlM w p a m) (hf : Fr (fun i => i = p ∨ a.v.ownBlock = some i) w w') {v' : Value} {ys : List XP} {mk fl rl : Nat} {nb nl no : Int} (hb : Blk w' p 89 (flArr mk v' a.go nb nl no fl a.nu a.de rl a.la)) (hp : PsV w' m.fresh v' ys) (hbod : ∀ y ∈ ys, Own w' 0 (XP.bv y) y.1.c.body) :
    FlM w' p { a with v := v' } { m with mark := mk, xs := ys, nb := nb, nl := nl, no := no, fl := fl, rl := rl } := by
  have no_ : ∀ g x, kd w g = some x → x ≠ 89 + 1 → x ≠ 94 + 1 → ¬ (g = p ∨ a.v.ownBlock = some g) := fun g x h1 h2 h3 h4 => by
    rcases h4 with rfl | h4
    · rw [kd_blk h.blk] at h1; injection h1 with h1; exact h2 h1.symm
    · rw [kd_psv h.prt h4] at h1; injection h1 with h1; exact h3 h1.symm
  exact ⟨hb, hp, hbod, h.gon.fr hf (no_ _ _ (kd_mapz h.gon) (by decide) (by decide)), h.num.fr hf (no_ _ _ (kd_mapz h.num) (by decide) (by decide)), fun k hk => (h.row k hk).fr hf (fun g hg => no_ _ _ (kd_num (h.row k hk) hg) (by decide) (by decide)), h.inj,
    h.dea.fr hf (no_ _ _ (kd_mapx h.dea) (by decide) (by decide)), h.lat.fr hf (no_ _ _ (kd_mapx h.lat) (by decide) (by decide)), h.ne, h.mso, h.msn, h.msl, h.i64⟩
theorem FlM.bods (h : FlM w p a m) (hf : Fr (fun i => i = p ∨ a.v.ownBlock = some i) w w') : ∀ x ∈ m.xs, Own w' 0 (XP.bv x) x.1.c.body := fun x hx => hf.own (h.bod x hx) (fun g hg h4 => by
  have h1 := kd_own (h.bod x hx) hg
  rcases h4 with rfl | h4
  · rw [kd_blk h.blk] at h1; exact absurd h1 (by decide)
  · rw [kd_psv h.prt h4] at h1; exact absurd h1 (by decide))
end
end Go.Proofs.Ytfgfiiknbkakaaa.Fl

set_option linter.unusedVariables false
set_option linter.unusedSimpArgs false
set_option maxRecDepth 20000
namespace Go.Proofs.Ytfgfiiknbkakaaa.Fl
open Go.ChangeShapes Go.WideShapes Go.ChangeAt Go.RowKit Go.Deep Go.Maps Go.Proofs.Ytfgfiiknbkakaaa.Words Go.Proofs.Ytfgfiiknbkakaaa.Oct Go.Proofs.Ytfgfiiknbkakaaa.Par Go.Proofs.Ytfgfiiknbkakaaa.Chk Go.Proofs.Ytfgfiiknbkakaaa.Mx
section
variable {w w' : World} {p n i : Nat} {a : Ad} {m : FM} {s : FS} {q : Pt}
theorem drop_count (l : List Pt) (n : Nat) (f : Pt → Bool) (h : ∀ (i : Nat) q, i < n → l[i]? = some q → f q = false) : (l.drop n).countP f = l.countP f := by
  have e : l.countP f = (l.take n).countP f + (l.drop n).countP f := by rw [← List.countP_append, List.take_append_drop]
  have e0 : (l.take n).countP f = 0 := List.countP_eq_zero.2 (fun q hq => by
    obtain ⟨i, hi⟩ := List.mem_iff_getElem?.1 hq
    rw [List.getElem?_take] at hi
    split at hi
    · rename_i hin
      rw [h i q hin hi]; simp
    · cases hi)
  omega
theorem drop_sum (l : List Pt) (n : Nat) (f : Pt → Nat) (h : ∀ (i : Nat) q, i < n → l[i]? = some q → f q = 0) : ((l.drop n).map f).sum = (l.map f).sum := by
  have e : (l.map f).sum = ((l.take n).map f).sum + ((l.drop n).map f).sum := by rw [← List.sum_append, ← List.map_append, List.take_append_drop]
  have e0 : ((l.take n).map f).sum = 0 := by
    have : (l.take n).map f = (l.take n).map fun _ => 0 := List.map_congr_left (fun q hq => by
      obtain ⟨i, hi⟩ := List.mem_iff_getElem?.1 hq
      rw [List.getElem?_take] at hi
      split at hi
      · rename_i hin; exact h i q hin hi
      · cases hi)
    rw [this]
    clear this e h
    generalize l.take n = k
    induction k with
    | nil => rfl
    | cons x k ih => simpa using ih
  omega
theorem IvM.forget {pl : Int → List Nat} (h : IvM m s) (hn : NumOk s.ps pl) (hd : ∀ (i : Nat) q, i < n → s.ps[i]? = some q → q.st = 2) (hle : n ≤ s.ps.length) :
    IvM { m with mark := (s.mark + n) % 4294967296, xs := m.xs.drop n, fl := m.fl - n, nums := numsK pl s.mark n, fresh := m.fresh && decide (n = 0) } (s.forget n) := by
  have hlt := h.lt
  have hnl : ∀ (i : Nat) q, i < n → s.ps[i]? = some q → q.left = false := fun i q hi hq => by unfold Pt.left; rw [hd i q hi hq]; rfl
  have hlen : (s.forget n).ps.length = s.ps.length - n := by show (s.ps.drop n).length = _; rw [List.length_drop]
  have hget : ∀ j : Nat, (s.forget n).ps[j]? = s.ps[n + j]? := fun j => by show (s.ps.drop n)[j]? = _; rw [List.getElem?_drop]
  have hrl : 0 < n → m.rl = 0 := fun h0 => by
    rcases Nat.eq_zero_or_pos m.rl with e | e
    · exact e
    · have h1 : 0 < s.ps.length := by omega
      have h2 := h.rl.2.1 0 _ e (List.getElem?_eq_getElem h1)
      have h3 := hd 0 _ h0 (List.getElem?_eq_getElem h1)
      omega
  refine ⟨rfl, ?_, ?_, ?_, ?_, ⟨?_, fun j y hj hy => ?_⟩, ⟨?_, fun j y hj hy => ?_, ?_⟩, h.gone, ⟨fun k => (fromP n (pl k)).map (· - n), ⟨fun k => ?_, fun k j hj => ?_, fun j y hy hl => ?_⟩, fun k => ?_⟩, fun x => ?_, ?_, h.ms, Nat.mod_lt _ (by omega), ?_, fun y hy => h.ok y (List.mem_of_mem_drop hy), fun y hy => h.pm y (List.mem_of_mem_drop hy)⟩
  · show (m.xs.drop n).map _ = s.ps.drop n
    rw [List.map_drop, h.ps]
  · show m.nb = ((((s.ps.drop n).map bytesP).sum : Nat) : Int)
    rw [drop_sum _ _ _ (fun i q hi hq => by unfold bytesP; rw [hd i q hi hq]; rfl)]
    exact h.nb
  · show m.nl = (((s.ps.drop n).countP Pt.left : Nat) : Int)
    rw [drop_count _ _ _ hnl]
    exact h.nl
  · show m.no = (((s.ps.drop n).countP (fun p => p.st == 1) : Nat) : Int)
    rw [drop_count _ _ _ (fun i q hi hq => by rw [hd i q hi hq]; rfl)]
    exact h.no
  · show m.fl - n ≤ _
    rw [hlen]
    have := h.fl.1
    omega
  · rw [hget] at hy
    exact h.fl.2 (n + j) y (by change j < m.fl - n at hj; omega) hy
  · show m.rl ≤ _
    rw [hlen]
    rcases Nat.eq_zero_or_pos n with h0 | h0
    · have := h.rl.1; omega
    · rw [hrl h0]; omega
  · rw [hget] at hy
    change j < m.rl at hj
    rcases Nat.eq_zero_or_pos n with h0 | h0
    · subst h0; rw [Nat.zero_add] at hy; exact h.rl.2.1 j y hj hy
    · rw [hrl h0] at hj; omega
  · show m.lf = ((s.ps.drop n).take m.rl).foldl latF _
    rcases Nat.eq_zero_or_pos n with h0 | h0
    · subst h0; rw [List.drop_zero]; exact h.rl.2.2
    · have e := h.rl.2.2
      rw [hrl h0] at e ⊢
      exact e
  · refine List.pairwise_map.2 (List.Pairwise.imp_of_mem (fun {x y} hx hy hxy => ?_) (List.Pairwise.filter _ (hn.up k)))
    have h1 := (List.mem_filter.1 hx).2
    simp at h1
    omega
  · obtain ⟨y, hy, rfl⟩ := List.mem_map.1 hj
    obtain ⟨hy1, hy2⟩ := List.mem_filter.1 hy
    simp at hy2
    obtain ⟨q, h1, h2⟩ := hn.at_ k y hy1
    exact ⟨q, by rw [hget, show n + (y - n) = y by omega]; exact h1, h2⟩
  · rw [hget] at hy
    refine List.mem_map.2 ⟨n + j, List.mem_filter.2 ⟨hn.all _ y hy hl, by simp⟩, by omega⟩
  · show numsK pl s.mark n k = ((fromP n (pl k)).map (· - n)).map (tsnOf ((s.mark + n) % 4294967296))
    unfold numsK
    rw [List.map_map]
    refine List.map_congr_left (fun y hy => ?_)
    have h1 := (List.mem_filter.1 hy).2
    simp at h1
    show tsnOf s.mark y = tsnOf ((s.mark + n) % 4294967296) (y - n)
    unfold tsnOf
    omega
  · show m.df x = (((s.ps.drop n).countP (dlP x) : Nat) : Int)
    rw [drop_count _ _ _ (fun i q hi hq => by unfold dlP; rw [hnl i q hi hq]; rfl)]
    exact h.df x
  · show (m.fresh && decide (n = 0)) = (s.fresh && decide (n = 0))
    rw [h.fresh]
  · rw [hlen]
    have h1 := h.len
    exact ⟨by show _ ≤ s.ms.length; omega, h1.2⟩
def ForgetDone (w : World) (p : Nat) (a : Ad) (m : FM) (s : FS) (n : Nat) (e : Ending) (w' : World) : Prop := ∃ (a' : Ad) (m' : FM), e = .returned (.tuple #[]) ∧ FlS w' p a' m' (s.forget n) ∧ Stp w w' p a m a' m'
theorem forget_fin {wr W1 W5 : World} {pl : Int → List Nat} {nm : Int → Value} {v' : Value} (H : FlS w p a m s) (HIV : IvM { m with mark := (s.mark + n) % 4294967296, xs := m.xs.drop n, fl := m.fl - n, nums := numsK pl s.mark n, fresh := m.fresh && decide (n = 0) } (s.forget n))
    (HM : FlM wr p { a with nm := nm } { m with nums := numsK pl s.mark n, fresh := m.fresh && decide (n = 0) }) (HT : Fr (fun i => i = a.nu) w wr) (HOB : ∀ x, (nm x).ownBlock = (a.nm x).ownBlock) (hnu : ∀ x, numsK pl s.mark n x ≠ [] → m.nums x ≠ [])
    (hf1 : Fr (fun k => a.v.ownBlock = some k) wr W1) (hf : Fr (fun k => k = p) W1 W5) (hb : Blk W5 p 89 (flArr ((s.mark + n) % 4294967296) v' a.go m.nb m.nl m.no (m.fl - n) a.nu a.de m.rl a.la)) (hp : PsV W5 (m.fresh && decide (n = 0)) v' (m.xs.drop n)) (hs : ∀ k, v'.ownBlock = some k → a.v.ownBlock = some k) :
    ForgetDone w p a m s n (.returned (.tuple #[])) W5 := by
  have hff : Fr (fun i => i = p ∨ a.v.ownBlock = some i) wr W5 := (hf1.mono fun k _ e => .inr e).same (hf.mono fun k _ e => .inl e)
  have hmem := HM.big (v' := v') (ys := m.xs.drop n) (mk := (s.mark + n) % 4294967296) (fl := m.fl - n) (rl := m.rl) (nb := m.nb) (nl := m.nl) (no := m.no) hff hb hp (fun y hy => HM.bods hff y (List.mem_of_mem_drop hy))
  refine ⟨_, _, rfl, ⟨hmem, HIV⟩, ⟨(HT.mono fun i _ e => .inr (.inr (.inr (.inl e)))).same (hff.mono fun i _ e => e.elim (fun e => .inl e) (fun e => .inr (.inl e))), fun i hi => .inl ?_⟩⟩
  rcases hi with h | h | h | h | h | h | ⟨x, h1, h2⟩ | ⟨y, hy, h2⟩
  · exact .inl h
  · exact .inr (.inl (hs i h))
  · exact .inr (.inr (.inl h))
  · exact .inr (.inr (.inr (.inl h)))
  · exact .inr (.inr (.inr (.inr (.inl h))))
  · exact .inr (.inr (.inr (.inr (.inr (.inl h)))))
  · exact .inr (.inr (.inr (.inr (.inr (.inr (.inl ⟨x, hnu x h1, by rw [← HOB x]; exact h2⟩))))))
  · exact .inr (.inr (.inr (.inr (.inr (.inr (.inr ⟨y, List.mem_of_mem_drop hy, h2⟩))))))
set_option maxHeartbeats 8000000 in
theorem forget_s (h : FlS w p a m s) (hle : n ≤ s.ps.length) (hd : ∀ (i : Nat) q, i < n → s.ps[i]? = some q → q.st = 2) : Calls Try.prog 38 #[fptr p, .int .i64 (n : Int)] w (ForgetDone w p a m s n) := by
  obtain ⟨pl, hno, hnu⟩ := h.inv.nums
  obtain ⟨B, cap, hv, hlc, hbc, hB⟩ := h.list
  have hlt := h.inv.lt
  have H := Lib.hid h
  have HNO := Lib.hid hno
  have HNU2 : Hid (∀ x, numsK pl s.mark n x ≠ [] → m.nums x ≠ []) := fun x hx e => hx (by
    have h1 := hnu x
    rw [e] at h1
    have h2 : pl x = [] := by cases hh : pl x with
      | nil => rfl
      | cons y l => rw [hh] at h1; simp at h1
    unfold numsK fromP
    rw [h2]; rfl)
  have HD := Lib.hid hd
  have H0 : Hid (FlM w p { a with nm := a.nm } { m with nums := numsK pl s.mark 0, fresh := m.fresh && decide (n = 0) }) := by
    have e : numsK pl s.mark 0 = m.nums := funext fun k => by unfold numsK; rw [fromP_zero]; exact (hnu k).symm
    rw [e]
    exact h.mem.stale (fun e => by simp at e; exact e.1)
  have HR : Hid (Fr (fun i => i = a.nu) w w) := Fr.refl _ _
  have HOB : Hid (∀ x, (a.nm x).ownBlock = (a.nm x).ownBlock) := fun _ => rfl
  have HV := Lib.hid hv
  have HB := Lib.hid hB
  obtain ⟨N, hN⟩ : ∃ N, N = s.ps.length := ⟨_, rfl⟩
  have HN := Lib.hid hN
  have HMK : Hid (s.mark < 4294967296) := h.inv.mark
  rw [← hN] at hle hlc hlt
  clear h hno hd hnu hv hB hN
  go_enter Try.func38, Try.ntmps38
  go_upto_region 1 with (fail)
  obtain ⟨wo, hwo⟩ : ∃ wo : World, wo = w := ⟨_, rfl⟩
  have HWO := Lib.hid hwo
  clear hwo
  go_loopw [6] (fun v6 wr => ∃ (i : Nat) (nm : Int → Value), v6 = .int .i64 (i : Int) ∧ i ≤ n ∧ Hid (FlM wr p { a with nm := nm } { m with nums := numsK pl s.mark i, fresh := m.fresh && decide (n = 0) }) ∧ Hid (Fr (fun i => i = a.nu) w wr) ∧ Hid (∀ x, (nm x).ownBlock = (a.nm x).ownBlock)) (fun v6 _ => n - (intOf v6).toNat)
  case atStart => exact ⟨0, a.nm, rfl, by omega, H0, HR, Lib.hid (fun _ => rfl)⟩
  case round =>
    clear H0 HR HOB
    obtain ⟨i, nm, rfl, hi, HM, HT, HOB⟩ := hrel
    by_cases hlt2 : i < n
    · obtain ⟨g, off, hBe, hgp⟩ := HB.out (by rw [← HN.out]; omega)
      subst hBe
      obtain ⟨q, hq⟩ : ∃ q, s.ps[i]? = some q := ⟨_, List.getElem?_eq_getElem (by rw [← HN.out]; omega)⟩
      obtain ⟨b, hx⟩ := H.out.inv.has hq
      have hfr : FrAt wr g (off + i * 26) q b := (HM.out.psr HV.out).1.at_ hx
      have cm : wr.cell? ⟨g, off + i * 26, none⟩ = some (.int .i64 q.m) := hfr.c 0 (by omega)
      have c1 : wr.cell? ⟨p, 1, none⟩ = some (.slice (some ⟨g, off, none⟩) N cap) := by have := HM.out.blk.cell 1; rw [HN.out, ← HV.out]; exact this
      have c0 : wr.cell? ⟨p, 0, none⟩ = some (.int .u32 (s.mark : Int)) := by have := HM.out.blk.cell 0; rw [← H.out.inv.mk_]; exact this
      have hok := H.out.inv.ok q (List.mem_of_getElem? hq)
      have hms := H.out.inv.pm q (List.mem_of_getElem? hq)
      have hi2 : (i : Int) < (N : Int) := by omega
      have hi3 : (i : Int) < (n : Int) := by omega
      have hfr0 : (m.fresh && decide (n = 0)) = false := by rw [decide_eq_false (by omega)]; simp
      have hbd : Below wr.heap.size wr wr.drew := Below.drew (Below.refl _ _)
      have hun := unlist_s (HM.out.below hbd) (k := q.m) (t := tsnOf s.mark i) hfr0 hok.m (Nat.mod_lt _ (by omega))
      have hstep := unlist_step (mark := s.mark) HNO.out hq (by rw [← HN.out]; omega)
      obtain ⟨tsn, htsn⟩ : ∃ t, t = tsnOf s.mark i := ⟨_, rfl⟩
      have hw1 : IntKind.u32.wrap (IntKind.u32.wrap ((s.mark : Int) + IntKind.u32.wrap (i : Int)) + 1) = (tsn : Int) := by rw [htsn, IntKind.wrap_u32, IntKind.wrap_u32, IntKind.wrap_u32]; unfold tsnOf; omega
      rw [← htsn] at hun hstep
      have HST := Lib.hid hstep
      obtain ⟨qm, hqm⟩ : ∃ x, x = q.m := ⟨_, rfl⟩
      rw [← hqm] at cm hun hstep
      have hst2 : unlistF (numsK pl s.mark i) qm tsn = numsK pl s.mark (i + 1) := hstep
      have HST2 := Lib.hid hst2
      obtain ⟨mk, hmk⟩ : ∃ x, x = s.mark := ⟨_, rfl⟩
      rw [← hmk] at c0 hw1
      have HMKE := Lib.hid hmk
      clear hx hfr hq hok hms htsn hqm hbd hstep hst2 hmk
      go_upto_region 3 with (fail)
      go_still_tail 17, (by kernel_rfl)
      change wpList _ _ _ _ _ wr.drew
      clear hw1 c0 c1 cm
      go_wp2_with fail
      refine hun.mono ?_
      rintro e W2 ⟨nm2, rfl, h2, f2, o2⟩
      have HM2 : Hid (FlM W2 p { a with nm := nm2 } { m with nums := numsK pl mk (i + 1), fresh := m.fresh && decide (n = 0) }) := by
        have h3 := h2
        have e : ({ ({ m with nums := numsK pl s.mark i, fresh := m.fresh && decide (n = 0) } : FM) with nums := unlistF (numsK pl s.mark i) qm tsn } : FM) = { m with nums := numsK pl mk (i + 1), fresh := m.fresh && decide (n = 0) } := by rw [HST2.out, HMKE.out]
        exact e ▸ h3
      have HT2 : Hid (Fr (fun i => i = a.nu) w W2) := HT.out.same ((Fr.refl _ wr).drew.same f2)
      have HOB2 : Hid (∀ x, (nm2 x).ownBlock = (a.nm x).ownBlock) := fun x => (o2 x).trans (HOB.out x)
      clear h2 f2 o2 hun HM HT HOB
      rw [HMKE.out] at HM2
      go_wp2_with fail
      go_roundw
      case rel => exact ⟨i + 1, nm2, by go_num, by omega, HM2, HT2, HOB2⟩
      case measure => simp [intOf]; omega
    · have hin : i = n := by omega
      subst hin
      have hlt3 : ¬ (i : Int) < (i : Int) := by omega
      have HIV := Lib.hid (H.out.inv.forget HNO.out HD.out (by rw [← HN.out]; exact hle))
      have hcl : ∃ W1, (Builtin.clear_ #[87] 0 #[.slice B i cap]).run Try.prog wr = .ok (.tuple #[]) W1 ∧ Fr (fun k => a.v.ownBlock = some k) wr W1 ∧ (i < N → ∃ g off, B = some ⟨g, off, none⟩ ∧ PsR W1 g (off + i * 26) (cap - i) (m.xs.drop i)) := by
        have hrow : 0 < N → ∃ W1, (Builtin.clear_ #[87] 0 #[.slice B i cap]).run Try.prog wr = .ok (.tuple #[]) W1 ∧ Fr (fun k => a.v.ownBlock = some k) wr W1 ∧ (i < N → ∃ g off, B = some ⟨g, off, none⟩ ∧ PsR W1 g (off + i * 26) (cap - i) (m.xs.drop i)) := fun h0 => by
          obtain ⟨g, off, hBe, _⟩ := HB.out (by rw [← HN.out]; exact h0)
          subst hBe
          have hp := (HM.out.psr HV.out)
          have hl : i ≤ m.xs.length := by have := hp.2; rw [← HN.out] at this; have e : N = m.xs.length := this; omega
          obtain ⟨W1, c1, c2, c3⟩ := run_clear_parts hp.1 hl cap 0
          exact ⟨W1, c1, c2.mono (fun k _ e => by rw [HV.out, show k = g from e]; rfl), fun _ => ⟨g, off, rfl, c3⟩⟩
        rcases Nat.eq_zero_or_pos N with h0 | h0
        · have hi0 : i = 0 := by omega
          subst hi0
          refine ⟨wr, ?_, Fr.refl _ _, fun h => by omega⟩
          cases B <;> simp [Builtin.clear_, run_underlying Try.underlying87]
        · exact hrow h0
      obtain ⟨W1, hc1, hf1, hr1⟩ := hcl
      have c1 : wr.cell? ⟨p, 1, none⟩ = some (.slice B N cap) := by have := HM.out.blk.cell 1; rw [HN.out, ← HV.out]; exact this
      have hpb : a.v.ownBlock ≠ some p := fun e => by
        have h1 := kd_psv HM.out.prt e
        rw [kd_blk HM.out.blk] at h1
        exact absurd h1 (by decide)
      have hblk1 : Blk W1 p 89 (flArr m.mark a.v a.go m.nb m.nl m.no m.fl a.nu a.de m.rl a.la) := hf1.blk HM.out.blk hpb
      have HBL1 := Lib.hid hblk1
      have c1' : W1.cell? ⟨p, 1, none⟩ = some (.slice B N cap) := by have := hblk1.cell 1; rw [HN.out, ← HV.out]; exact this
      have f1' := hblk1.frozen 1
      have HF1 := Lib.hid hf1
      have HR1 := Lib.hid hr1
      have hiz : (i : Int) ≤ (N : Int) := by omega
      have hicap : i ≤ cap := by omega
      have hicz : (i : Int) ≤ (cap : Int) := by omega
      clear hf1 hr1 hpb hblk1
      have hflb : m.fl ≤ N := by rw [HN.out]; exact H.out.inv.fl.1
      obtain ⟨mk2, hmk2⟩ : ∃ x : Nat, x = (s.mark + i) % 4294967296 := ⟨_, rfl⟩
      have hmke : m.mark = s.mark := H.out.inv.mk_
      have HMI : Hid (((m.mark : Int) + (i : Int)) % 4294967296 = (mk2 : Int)) := by show _ = _; rw [hmk2, hmke]; omega
      have HMK2 := Lib.hid hmk2
      clear hmk2 hmke
      by_cases hNn : N = i
      · subst hNn
        have hee : ((N : Int) == 0) = decide (N = 0) := by rw [Bool.eq_iff_iff]; simp
        have hfin : ∀ W5, Fr (fun k => k = p) W1 W5 → Blk W5 p 89 (flArr mk2 (Value.slice none 0 0) a.go m.nb m.nl m.no (m.fl - N) a.nu a.de m.rl a.la) → ForgetDone w p a m s N (.returned (.tuple #[])) W5 := fun W5 hfa hb5 => by
          refine forget_fin H.out HIV.out HM.out HT.out HOB.out HNU2.out HF1.out hfa (by rw [← HMK2.out]; exact hb5) ?_ (fun k hk => by cases hk)
          have h10 : N = m.xs.length := by rw [HN.out, ← H.out.inv.ps, List.length_map]
          have e : m.xs.drop N = [] := by rw [h10, List.drop_length]
          rw [e]
          exact PsV.nil
        have HFIN := Lib.hid hfin
        clear hfin
        have hflz : m.fl - N = 0 := by omega
        have HFZ := Lib.hid hflz
        clear hflz
        by_cases hce : cap = N
        · subst hce
          go_upto_region 8 with (fail)
          obtain ⟨v1, hv1⟩ : ∃ v1, v1 = Value.slice B 0 0 := ⟨_, rfl⟩
          obtain ⟨W2, hW2⟩ : ∃ W2, W2 = W1.setCell ⟨p, 1, none⟩ v1 := ⟨_, rfl⟩
          have hb2 : Blk W2 p 89 (flArr m.mark v1 a.go m.nb m.nl m.no m.fl a.nu a.de m.rl a.la) := by rw [hW2]; exact HBL1.out.set_ 1 v1
          have hf2 : Fr (fun k => k = p) W1 W2 := by rw [hW2]; exact fr_set _
          rw [← hv1, ← hW2]
          have HB2 := Lib.hid hb2
          have HF2 := Lib.hid hf2
          have d1 : W2.cell? ⟨p, 1, none⟩ = some v1 := hb2.cell 1
          have d0 : W2.cell? ⟨p, 0, none⟩ = some (.int .u32 (m.mark : Int)) := hb2.cell 0
          have g1 := hb2.frozen 1
          clear hW2 hb2 hf2 c1 c1' f1' hc1 hv1
          go_upto_region 9 with (fail)
          obtain ⟨W4, hW4⟩ : ∃ W4, W4 = W2.setCell ⟨p, 1, none⟩ (Value.slice none 0 0) := ⟨_, rfl⟩
          have hb4 : Blk W4 p 89 (flArr m.mark (Value.slice none 0 0) a.go m.nb m.nl m.no m.fl a.nu a.de m.rl a.la) := by rw [hW4]; exact HB2.out.set_ 1 _
          have hf4 : Fr (fun k => k = p) W2 W4 := by rw [hW4]; exact fr_set _
          rw [← hW4]
          have HB4 := Lib.hid hb4
          have HF4 := Lib.hid (HF2.out.same hf4)
          have d0 : W4.cell? ⟨p, 0, none⟩ = some (.int .u32 (m.mark : Int)) := hb4.cell 0
          have g0 := hb4.frozen 0
          clear hW4 hb4 hf4 d1 g1 HB2 HF2
          go_upto_region 10 with (fail)
          rw [HMI.out]
          obtain ⟨W3, hW3⟩ : ∃ W3, W3 = W4.setCell ⟨p, 0, none⟩ (.int .u32 (mk2 : Int)) := ⟨_, rfl⟩
          have hb3 : Blk W3 p 89 (flArr mk2 (Value.slice none 0 0) a.go m.nb m.nl m.no m.fl a.nu a.de m.rl a.la) := by rw [hW3]; exact HB4.out.set_ 0 _
          have hf3 : Fr (fun k => k = p) W4 W3 := by rw [hW3]; exact fr_set _
          rw [← hW3]
          have HB3 := Lib.hid hb3
          have HF3 := Lib.hid (HF4.out.same hf3)
          have e6 : W3.cell? ⟨p, 6, none⟩ = some (.int .i64 (m.fl : Int)) := hb3.cell 6
          have g6 := hb3.frozen 6
          clear hW3 hb3 hf3 d0 g0 HB4 HF4
          have hmz : ¬ (0 : Int) < (m.fl : Int) - (cap : Int) := by omega
          have hmw2 : wrap64 ((m.fl : Int) - (cap : Int)) = (m.fl : Int) - (cap : Int) := IntWalk.wrap64_in _ (by omega)
          go_wp2_with fail
          all_goals
            go_end0
            refine HFIN.out _ (HF3.out.same (fr_set _)) ?_
            rw [HFZ.out]
            exact HB3.out.set_ 6 _
        · go_upto_region 8 with (fail)
          obtain ⟨v1, hv1⟩ : ∃ v1, v1 = Value.slice (Option.map (fun x => x.add (N * 26)) B) 0 (cap - N) := ⟨_, rfl⟩
          obtain ⟨W2, hW2⟩ : ∃ W2, W2 = W1.setCell ⟨p, 1, none⟩ v1 := ⟨_, rfl⟩
          have hb2 : Blk W2 p 89 (flArr m.mark v1 a.go m.nb m.nl m.no m.fl a.nu a.de m.rl a.la) := by rw [hW2]; exact HBL1.out.set_ 1 v1
          have hf2 : Fr (fun k => k = p) W1 W2 := by rw [hW2]; exact fr_set _
          rw [← hv1, ← hW2]
          have HB2 := Lib.hid hb2
          have HF2 := Lib.hid hf2
          have d1 : W2.cell? ⟨p, 1, none⟩ = some v1 := hb2.cell 1
          have d0 : W2.cell? ⟨p, 0, none⟩ = some (.int .u32 (m.mark : Int)) := hb2.cell 0
          have g1 := hb2.frozen 1
          clear hW2 hb2 hf2 c1 c1' f1' hc1 hv1
          go_upto_region 9 with (fail)
          obtain ⟨W4, hW4⟩ : ∃ W4, W4 = W2.setCell ⟨p, 1, none⟩ (Value.slice none 0 0) := ⟨_, rfl⟩
          have hb4 : Blk W4 p 89 (flArr m.mark (Value.slice none 0 0) a.go m.nb m.nl m.no m.fl a.nu a.de m.rl a.la) := by rw [hW4]; exact HB2.out.set_ 1 _
          have hf4 : Fr (fun k => k = p) W2 W4 := by rw [hW4]; exact fr_set _
          rw [← hW4]
          have HB4 := Lib.hid hb4
          have HF4 := Lib.hid (HF2.out.same hf4)
          have d0 : W4.cell? ⟨p, 0, none⟩ = some (.int .u32 (m.mark : Int)) := hb4.cell 0
          have g0 := hb4.frozen 0
          clear hW4 hb4 hf4 d1 g1 HB2 HF2
          go_upto_region 10 with (fail)
          rw [HMI.out]
          obtain ⟨W3, hW3⟩ : ∃ W3, W3 = W4.setCell ⟨p, 0, none⟩ (.int .u32 (mk2 : Int)) := ⟨_, rfl⟩
          have hb3 : Blk W3 p 89 (flArr mk2 (Value.slice none 0 0) a.go m.nb m.nl m.no m.fl a.nu a.de m.rl a.la) := by rw [hW3]; exact HB4.out.set_ 0 _
          have hf3 : Fr (fun k => k = p) W4 W3 := by rw [hW3]; exact fr_set _
          rw [← hW3]
          have HB3 := Lib.hid hb3
          have HF3 := Lib.hid (HF4.out.same hf3)
          have e6 : W3.cell? ⟨p, 6, none⟩ = some (.int .i64 (m.fl : Int)) := hb3.cell 6
          have g6 := hb3.frozen 6
          clear hW3 hb3 hf3 d0 g0 HB4 HF4
          have hmz : ¬ (0 : Int) < (m.fl : Int) - (N : Int) := by omega
          have hmw2 : wrap64 ((m.fl : Int) - (N : Int)) = (m.fl : Int) - (N : Int) := IntWalk.wrap64_in _ (by omega)
          go_wp2_with fail
          all_goals
            go_end0
            refine HFIN.out _ (HF3.out.same (fr_set _)) ?_
            rw [HFZ.out]
            exact HB3.out.set_ 6 _
      · have hlt4 : i < N := by omega
        obtain ⟨g, off, hBe, hr⟩ := HR1.out hlt4
        subst hBe
        have hce : ¬ cap = i := by omega
        have HPR := Lib.hid hr
        clear hr
        go_upto_region 7 with (fail)
        obtain ⟨v1, hv1⟩ : ∃ v1, v1 = Value.slice (some ⟨g, off + i * 26, none⟩) (N - i) (cap - i) := ⟨_, rfl⟩
        obtain ⟨W2, hW2⟩ : ∃ W2, W2 = W1.setCell ⟨p, 1, none⟩ v1 := ⟨_, rfl⟩
        have hb2 : Blk W2 p 89 (flArr m.mark v1 a.go m.nb m.nl m.no m.fl a.nu a.de m.rl a.la) := by rw [hW2]; exact HBL1.out.set_ 1 v1
        have hf2 : Fr (fun k => k = p) W1 W2 := by rw [hW2]; exact fr_set _
        rw [hv1] at hW2
        rw [← hW2]
        have HB2 := Lib.hid hb2
        have HF2 := Lib.hid hf2
        have d1 : W2.cell? ⟨p, 1, none⟩ = some (.slice (some ⟨g, off + i * 26, none⟩) (N - i) (cap - i)) := by rw [hb2.cell 1, hv1]; rfl
        have d0 : W2.cell? ⟨p, 0, none⟩ = some (.int .u32 (m.mark : Int)) := hb2.cell 0
        have g0 := hb2.frozen 0
        have HV1 := Lib.hid hv1
        have hnz : ((N - i : Nat) : Int) = (N : Int) - (i : Int) := by omega
        have hnn : ¬ N - i = 0 := by omega
        have hnn2 : (((N - i : Nat) : Int) == 0) = false := by simp; omega
        clear hW2 hb2 hf2 c1 c1' f1' hc1 hv1 hnz
        go_upto_region 10 with (fail)
        rw [HMI.out]
        obtain ⟨W3, hW3⟩ : ∃ W3, W3 = W2.setCell ⟨p, 0, none⟩ (.int .u32 (mk2 : Int)) := ⟨_, rfl⟩
        have hb3 : Blk W3 p 89 (flArr mk2 v1 a.go m.nb m.nl m.no m.fl a.nu a.de m.rl a.la) := by rw [hW3]; exact HB2.out.set_ 0 _
        have hf3 : Fr (fun k => k = p) W2 W3 := by rw [hW3]; exact fr_set _
        rw [← hW3]
        have HB3 := Lib.hid hb3
        have HF3 := Lib.hid (HF2.out.same hf3)
        have e6 : W3.cell? ⟨p, 6, none⟩ = some (.int .i64 (m.fl : Int)) := hb3.cell 6
        have g6 := hb3.frozen 6
        clear hW3 hb3 hf3 d1 d0 g0 HB2 HF2
        have hfin : ∀ W5, Fr (fun k => k = p) W3 W5 → Blk W5 p 89 (flArr mk2 v1 a.go m.nb m.nl m.no (m.fl - i) a.nu a.de m.rl a.la) → ForgetDone w p a m s i (.returned (.tuple #[])) W5 := fun W5 hf5 hb5 => by
          have hfa := HF3.out.same hf5
          refine forget_fin H.out HIV.out HM.out HT.out HOB.out HNU2.out HF1.out hfa (by rw [← HMK2.out]; exact hb5) ?_ ?_
          · rw [HV1.out]
            have h10 : N = m.xs.length := by rw [HN.out]; exact (HM.out.psr HV.out).2
            have hl : (m.xs.drop i).length = N - i := by rw [List.length_drop, ← h10]
            have hg : g ≠ p := fun e => by
              obtain ⟨cur, h11, _⟩ := HPR.out.ex
              have h12 := kd_blk h11
              rw [e, kd_blk HBL1.out] at h12
              exact absurd h12 (by decide)
            obtain ⟨q0, hq0⟩ : ∃ q0, m.xs[0]? = some q0 := ⟨_, List.getElem?_eq_getElem (by omega)⟩
            obtain ⟨g', off', cap', e1, _, _, _, e2, _⟩ := H.out.mem.rowAt hq0
            rw [HV.out] at e1
            injection e1 with e1 _ _
            injection e1 with e1
            injection e1 with _ e1 _
            have hv2 := PsV.row (fresh := m.fresh && decide (i = 0)) HPR.out (fun e => by
              simp at e
              rw [e1, e2 e.1, e.2])
            rw [hl] at hv2
            refine hv2.fr hfa (fun k hk e => hg ?_)
            have h14 : g = k := by simpa [Value.ownBlock] using hk
            rw [h14]; exact e
          · intro k hk
            rw [HV1.out] at hk
            rw [HV.out]
            exact hk
        have HFIN := Lib.hid hfin
        clear hfin
        by_cases hfl : i < m.fl
        · have hmx : ((m.fl - i : Nat) : Int) = (m.fl : Int) - (i : Int) := by omega
          have hmz : (0 : Int) < (m.fl : Int) - (i : Int) := by omega
          have hmw : ¬ (m.fl : Int) - (i : Int) < 0 := by omega
          have hmw2 : wrap64 ((m.fl : Int) - (i : Int)) = (m.fl : Int) - (i : Int) := IntWalk.wrap64_in _ (by omega)
          have HMX := Lib.hid hmx
          clear hmx
          go_wp2_with fail
          go_end0
          refine HFIN.out _ (fr_set _) ?_
          rw [← HMX.out]
          exact HB3.out.set_ 6 _
        · have hmx : m.fl - i = 0 := by omega
          have hmz : ¬ (0 : Int) < (m.fl : Int) - (i : Int) := by omega
          have hmw2 : wrap64 ((m.fl : Int) - (i : Int)) = (m.fl : Int) - (i : Int) := IntWalk.wrap64_in _ (by omega)
          have HMX := Lib.hid hmx
          clear hmx
          go_wp2_with fail
          all_goals
            go_end0
            refine HFIN.out _ (fr_set _) ?_
            rw [HMX.out]
            exact HB3.out.set_ 6 _
end
end Go.Proofs.Ytfgfiiknbkakaaa.Fl

set_option linter.unusedVariables false
set_option linter.unusedSimpArgs false
set_option maxRecDepth 20000
namespace Go.Proofs.Ytfgfiiknbkakaaa.Fl
open Go.ChangeShapes Go.WideShapes Go.ChangeAt Go.RowKit Go.Deep Go.Maps Go.Proofs.Ytfgfiiknbkakaaa.Words Go.Proofs.Ytfgfiiknbkakaaa.Oct Go.Proofs.Ytfgfiiknbkakaaa.Par Go.Proofs.Ytfgfiiknbkakaaa.Chk Go.Proofs.Ytfgfiiknbkakaaa.Mx
section
variable {now i : Nat} {x : AS} {s : FS} {c : Ck}
theorem turn_get (s : FS) (i z j : Nat) : (s.turn i z).ps[j]? = if i = j then (s.ps[j]?).map (Pt.turn z) else s.ps[j]? := mod_get _ _ _ _
theorem turn_len (s : FS) (i z : Nat) : (s.turn i z).ps.length = s.ps.length := List.length_modify ..
structure ArOk (x y : AS) : Prop where
  mark : y.s.mark = x.s.mark
  fresh : y.s.fresh = x.s.fresh
  len : y.s.ps.length = x.s.ps.length
  mi : MiOk x.s → MiOk y.s
  nw : x.newest ≤ x.s.ps.length → y.newest ≤ x.s.ps.length
  two : ∀ (j : Nat) q, x.s.ps[j]? = some q → q.st = 2 → ∃ q', y.s.ps[j]? = some q' ∧ q'.st = 2
theorem ArOk.refl (x : AS) : ArOk x x := ⟨rfl, rfl, rfl, id, id, fun _ q h1 h2 => ⟨q, h1, h2⟩⟩
theorem ArOk.trans {x y z : AS} (h : ArOk x y) (k : ArOk y z) : ArOk x z := ⟨k.mark.trans h.mark, k.fresh.trans h.fresh, k.len.trans h.len, fun e => k.mi (h.mi e), fun e => by have h1 := k.nw (by rw [h.len]; exact h.nw e); rw [h.len] at h1; exact h1, fun j q h1 h2 => by
  obtain ⟨q', h3, h4⟩ := h.two j q h1 h2
  exact k.two j q' h3 h4⟩
theorem arrive_ok (now : Nat) (x : AS) (i : Nat) : ArOk x (arriveF now x i) := by
  unfold arriveF
  split
  · exact ArOk.refl x
  · rename_i p hp
    split
    · exact ArOk.refl x
    · refine ⟨rfl, rfl, turn_len _ _ _, fun e q hq h0 => ?_, fun _ => ?_, fun j q h1 h2 => ?_⟩
      · obtain ⟨j, hj⟩ := List.mem_iff_getElem?.1 hq
        change (x.s.turn i 2).ps[j]? = some q at hj
        rw [turn_get] at hj
        split at hj
        · cases hx : x.s.ps[j]? with
          | none => rw [hx] at hj; cases hj
          | some y =>
            rw [hx] at hj
            injection hj with hj
            rw [← hj] at h0
            exact absurd h0 (by show ¬ (2 : Nat) = 0; omega)
        · exact e q (List.mem_of_getElem? hj) h0
      · have := (List.getElem?_eq_some_iff.1 hp).1
        show i ≤ _
        omega
      · show ∃ q', (x.s.turn i 2).ps[j]? = some q' ∧ _
        rw [turn_get]
        split
        · rw [h1]; exact ⟨_, rfl, rfl⟩
        · exact ⟨q, h1, h2⟩
theorem arrive_hit (now : Nat) (x : AS) {i : Nat} (hi : i < x.s.ps.length) : ∃ q, (arriveF now x i).s.ps[i]? = some q ∧ q.st = 2 := by
  have hp : x.s.ps[i]? = some (x.s.ps[i]) := List.getElem?_eq_getElem hi
  unfold arriveF
  rw [hp]
  simp only
  split
  · rename_i h2; exact ⟨_, hp, h2⟩
  · show ∃ q, (x.s.turn i 2).ps[i]? = some q ∧ _
    rw [turn_get, if_pos rfl, hp]
    exact ⟨_, rfl, rfl⟩
theorem fold_ok (now : Nat) (l : List Nat) (x : AS) : ArOk x (l.foldl (arriveF now) x) := by
  induction l generalizing x with
  | nil => exact ArOk.refl x
  | cons i l ih => exact (arrive_ok now x i).trans (ih _)
theorem fold_hit (now : Nat) (l : List Nat) (x : AS) (h : ∀ i ∈ l, i < x.s.ps.length) : ∀ j ∈ l, ∃ q, (l.foldl (arriveF now) x).s.ps[j]? = some q ∧ q.st = 2 := by
  induction l generalizing x with
  | nil => intro j hj; cases hj
  | cons i l ih =>
    intro j hj
    rcases List.mem_cons.1 hj with rfl | hj
    · obtain ⟨q, h1, h2⟩ := arrive_hit now x (h _ List.mem_cons_self)
      exact (fold_ok now l _).two _ q h1 h2
    · exact ih _ (fun k hk => by rw [(arrive_ok now x i).len]; exact h k (List.mem_cons_of_mem _ hk)) j hj
theorem gapsOk_mem {far l : Nat} {gs : List Gp} (hl : 1 ≤ l) (h : gapsOk far l gs = true) : ∀ g ∈ gs, 1 ≤ g.1 ∧ g.1 ≤ g.2 ∧ g.2 ≤ far := by
  induction gs generalizing l with
  | nil => intro g hg; cases hg
  | cons a gs ih =>
    unfold gapsOk at h
    simp only [Bool.and_eq_true, decide_eq_true_eq] at h
    intro g hg
    rcases List.mem_cons.1 hg with rfl | hg
    · omega
    · exact ih (by omega) h.2 g hg
theorem sound_far (hm : s.mark < 4294967296) (ht : c.tsn < 4294967296) (hl : s.ps.length ≤ 1048576) (h : sound s c = true) : distN s.mark c.tsn ≤ s.ps.length ∧ ∀ g ∈ c.gaps, 1 ≤ g.1 ∧ g.1 ≤ g.2 ∧ distN s.mark c.tsn + g.2 ≤ s.ps.length := by
  unfold sound at h
  simp only [Bool.and_eq_true, decide_eq_true_eq] at h
  obtain ⟨_, h1, h2⟩ := h
  have h3 : Ser.dist (s.mark : Int) (c.tsn : Int) ≤ Ser.dist (s.mark : Int) (s.last : Int) := of_decide_eq_true h1
  have hlb : s.last < 4294967296 := Nat.mod_lt _ (by omega)
  rw [dist_nat hm ht, dist_nat hm hlb] at h3
  have h4 : distN s.mark s.last = s.ps.length := by unfold distN FS.last; omega
  have h5 : distN s.mark c.tsn + distN c.tsn s.last = distN s.mark s.last := by unfold distN at h3 ⊢; omega
  refine ⟨by omega, fun g hg => ?_⟩
  have h6 := gapsOk_mem (by omega) h2 g hg
  omega
theorem miss_get (s : FS) (n j : Nat) : (s.miss n).ps[j]? = if j < n then (s.ps[j]?).map missP else s.ps[j]? := by
  show ((s.ps.take n).map missP ++ s.ps.drop n)[j]? = _
  rw [List.getElem?_append]
  have hl : ((s.ps.take n).map missP).length = min n s.ps.length := by simp
  rw [hl]
  split
  · rename_i h
    rw [if_pos (by omega), List.getElem?_map, List.getElem?_take, if_pos (by omega)]
  · rename_i h
    rw [List.getElem?_drop]
    rcases Nat.lt_or_ge j n with h1 | h1
    · have h2 : s.ps.length ≤ j := by omega
      rw [if_pos h1, List.getElem?_eq_none (by omega), List.getElem?_eq_none h2]; rfl
    · rw [if_neg (by omega)]
      rcases Nat.lt_or_ge s.ps.length n with h3 | h3
      · rw [List.getElem?_eq_none (by omega), List.getElem?_eq_none (by omega)]
      · congr 1; omega
theorem miss_len (s : FS) (n : Nat) : (s.miss n).ps.length = s.ps.length := by
  show ((s.ps.take n).map missP ++ s.ps.drop n).length = _
  simp
  omega
theorem miss_mi (h : MiOk s) (n : Nat) : MiOk (s.miss n) := by
  intro q hq h0
  obtain ⟨j, hj⟩ := List.mem_iff_getElem?.1 hq
  rw [miss_get] at hj
  split at hj
  · cases hx : s.ps[j]? with
    | none => rw [hx] at hj; cases hj
    | some y =>
      rw [hx] at hj
      injection hj with hj
      subst hj
      have h1 := h y (List.mem_of_getElem? hx)
      unfold missP at h0 ⊢
      split at h0
      · rename_i hy
        rw [if_pos hy]
        have := h1 hy
        split at h0
        · exact absurd h0 (by show ¬ (1 : Nat) = 0; omega)
        · rename_i h2
          rw [if_neg h2]
          show y.mi + 1 ≤ 2
          omega
      · rename_i hy
        exact absurd h0 hy
  · exact h q (List.mem_of_getElem? hj) h0
theorem miss_two {n j : Nat} {q : Pt} (h : s.ps[j]? = some q) (h2 : q.st = 2) : ∃ q', (s.miss n).ps[j]? = some q' ∧ q'.st = 2 := by
  rw [miss_get]
  split
  · rw [h]
    refine ⟨missP q, rfl, ?_⟩
    unfold missP
    rw [if_neg (by omega)]
    exact h2
  · exact ⟨q, h, h2⟩
theorem forget_mi (h : MiOk s) (n : Nat) : MiOk (s.forget n) := fun q hq h0 => h q (List.mem_of_mem_drop hq) h0
theorem fold_step (now : Nat) (f : Nat → Nat) (x : AS) (k : Nat) : ((List.range (k + 1)).map f).foldl (arriveF now) x = arriveF now (((List.range k).map f).foldl (arriveF now) x) (f k) := by
  rw [List.range_succ, List.map_append, List.foldl_append]
  rfl
theorem fold_id (now : Nat) (x : AS) (k : Nat) : (List.range (k + 1)).foldl (arriveF now) x = arriveF now ((List.range k).foldl (arriveF now) x) k := by
  rw [List.range_succ, List.foldl_append]
  rfl
theorem fold_gaps (now on : Nat) (gs : List Gp) (x : AS) : (gs.map (gapPl on)).flatten.foldl (arriveF now) x = gs.foldl (fun y g => (gapPl on g).foldl (arriveF now) y) x := by
  induction gs generalizing x with
  | nil => rfl
  | cons g gs ih => rw [List.map_cons, List.flatten_cons, List.foldl_append, ih]; rfl
end
end Go.Proofs.Ytfgfiiknbkakaaa.Fl
