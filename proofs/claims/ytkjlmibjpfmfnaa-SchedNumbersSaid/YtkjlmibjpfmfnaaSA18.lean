/-
  Of the texts ScPl2, Sc: what the laws reach.
-/
import Derived.Test.YtkjlmibjpfmfnaaSA4
import Derived.Test.YtkjlmibjpfmfnaaSA17

set_option linter.unusedVariables false
set_option linter.unusedSimpArgs false
namespace Go.Proofs.Ytkjlmibjpfmfnaa.Sc
open Go.Proofs.Ytkjlmibjpfmfnaa.Words Go.Proofs.Ytkjlmibjpfmfnaa.Chk
section
variable {s s' : QS} {it : It} {l : List Lin} {most st : Nat} {its : List It} {rest : List Lin} {id lk : Int} {ln : Nat} {m : Msg} {c : Ck}
theorem bytesL_len : ∀ {l : List Lin}, (∀ x ∈ l, ∀ i ∈ x.2, i.m.body ≠ []) → (l.flatMap (·.2)).length ≤ bytesL l
  | [], _ => Nat.zero_le _
  | x :: l, h => by
    rw [List.flatMap_cons, List.length_append, bytesL_cons]
    have h1 := bytesL_len (l := l) fun y hy => h y (List.mem_cons_of_mem _ hy)
    have h2 : ∀ {k : List It}, (∀ i ∈ k, i.m.body ≠ []) → k.length ≤ bytesI k := fun {k} => by
      induction k with
      | nil => intro _; exact Nat.zero_le _
      | cons i k ih =>
        intro hk
        rw [bytesI_cons, List.length_cons]
        have := ih fun j hj => hk j (List.mem_cons_of_mem _ hj)
        have := List.length_pos_iff.2 (hk i List.mem_cons_self)
        omega
    have := h2 (h x List.mem_cons_self)
    omega
theorem newI_ok (h1 : -9223372036854775808 ≤ id ∧ id ≤ 9223372036854775807) (h2 : -9223372036854775808 ≤ lk ∧ lk ≤ 9223372036854775807) (h3 : ln < 4294967296) (h4 : m.ok) (h5 : m.body ≠ []) (h6 : m.body.length ≤ 65536) : ItOk (newI id lk ln m) :=
  ⟨h1, h2, h3, ⟨h4.st, by show 0 < _; omega, h4.pp⟩, h5, h6, by show 0 < _; omega, by show 0 + m.body.length ≤ _; omega, rfl⟩
theorem Inv.push (h : Inv s) (h1 : -9223372036854775808 ≤ id ∧ id ≤ 9223372036854775807) (h2 : -9223372036854775808 ≤ lk ∧ lk ≤ 9223372036854775807) (h3 : ln < 4294967296) (h4 : m.ok) : Inv (s.push id lk ln m) := by
  unfold QS.push
  split
  · rename_i he
    unfold QS.pushE at he
    by_cases e1 : m.body.length = 0
    · rw [if_pos e1] at he; cases he
    · rw [if_neg e1] at he
      by_cases e2 : 65536 < m.body.length
      · rw [if_pos e2] at he; cases he
      · rw [if_neg e2] at he
        by_cases e3 : 262144 < s.all + m.body.length
        · rw [if_pos e3] at he; cases he
        · have hok := newI_ok h1 h2 h3 h4 (fun e => e1 (by rw [e]; rfl)) (by omega)
          refine ⟨fun l hl i hi => ?_, fun l hl => ?_, ?_, ?_, fun l hl i hi => ?_, fun hin l hl i hi => ?_, h.num⟩
          · rcases addL_mem hl with h9 | h9 | ⟨y, hy, e9, h9⟩
            · exact h.its l h9 i hi
            · rw [h9] at hi ⊢
              rw [List.mem_singleton.1 hi]
              exact ⟨hok, rfl⟩
            · rw [h9] at hi ⊢
              rcases List.mem_append.1 hi with h8 | h8
              · exact h.its y hy i h8
              · rw [List.mem_singleton.1 h8]
                exact ⟨hok, e9.symm⟩
          · rcases addL_mem hl with h9 | h9 | ⟨y, hy, e9, h9⟩
            · exact h.ne l h9
            · rw [h9]; simp
            · rw [h9]; simp
          · show ((addL (newI id lk ln m) s.lines).map (·.1)).Nodup
            rw [addL_keys]
            split
            · exact h.dis
            · rename_i hn
              rw [List.nodup_append]
              exact ⟨h.dis, by simp, fun a ha b hb e => hn (by rw [List.mem_singleton.1 hb] at e; rw [← e]; exact ha)⟩
          · show bytesL (addL (newI id lk ln m) s.lines) ≤ _
            rw [addL_bytes]
            show s.all + m.body.length ≤ _
            omega
          · rcases addL_mem hl with h9 | h9 | ⟨y, hy, e9, h9⟩
            · exact h.bg l h9 i hi
            · rw [h9] at hi; cases hi
            · rw [h9] at hi
              have hi' : i ∈ (y.2 ++ [newI id lk ln m]).tail := hi
              have hne := h.ne y hy
              cases hy2 : y.2 with
              | nil => exact absurd hy2 hne
              | cons a b =>
                rw [hy2] at hi'
                rcases List.mem_append.1 (show i ∈ b ++ [newI id lk ln m] from hi') with h8 | h8
                · exact h.bg y hy i (by rw [hy2]; exact h8)
                · rw [List.mem_singleton.1 h8]; rfl
          · have hl' : l ∈ (addL (newI id lk ln m) s.lines).tail := hl
            cases hs : s.lines with
            | nil => rw [hs] at hl'; cases hl'
            | cons a b =>
              rw [hs] at hl'
              have key : ∀ l ∈ b, ∀ i ∈ l.2, i.bg = false := fun l hl => h.one hin l (by rw [hs]; exact hl)
              unfold addL at hl'
              split at hl'
              · exact key l hl' i hi
              · rcases addL_mem (show l ∈ addL (newI id lk ln m) b from hl') with h9 | h9 | ⟨y, hy, e9, h9⟩
                · exact key l h9 i hi
                · rw [h9] at hi
                  rw [List.mem_singleton.1 hi]; rfl
                · rw [h9] at hi
                  rcases List.mem_append.1 hi with h8 | h8
                  · exact key y hy i h8
                  · rw [List.mem_singleton.1 h8]; rfl
  · exact h
theorem numI_ok (h : ItOk it) (hn : ∀ a b, s.nums a b < 4294967296) : ItOk (s.numI it) := by
  unfold QS.numI
  split
  · exact ⟨h.id, h.lk, h.ln, ⟨h.m.st, hn _ _, h.m.pp⟩, h.ne, h.len, h.fr, h.cut, h.bgf⟩
  · exact h
theorem cutI_ok (h : ItOk it) (h1 : 1 ≤ most) (h2 : most < it.m.body.length) : ItOk (cutI most it) := by
  have e : (it.fr + 1) % 4294967296 = it.fr + 1 := by have := h.cut; omega
  refine ⟨h.id, h.lk, h.ln, ⟨h.m.st, h.m.mid, h.m.pp⟩, ?_, ?_, ?_, ?_, ?_⟩
  · show it.m.body.drop most ≠ []
    intro e9
    have := List.drop_eq_nil_iff.1 e9
    omega
  · show (it.m.body.drop most).length ≤ _
    rw [List.length_drop]
    have := h.len
    omega
  · show (it.fr + 1) % 4294967296 < _
    omega
  · show (it.fr + 1) % 4294967296 + (it.m.body.drop most).length ≤ _
    rw [e, List.length_drop]
    have := h.cut
    omega
  · show true = decide ((it.fr + 1) % 4294967296 ≠ 0)
    rw [e]
    simp
theorem numI_st (s : QS) (it : It) : (s.numI it).m.st = it.m.st ∧ (s.numI it).m.body = it.m.body := by
  unfold QS.numI
  split <;> exact ⟨rfl, rfl⟩
theorem Inv.next (h : Inv s) (h1 : 1 ≤ most) (hs : s.lines = (st, it :: its) :: rest) : Inv { s.numS it with lines := turned s.inter most st (s.numI it) its rest, t := s.t + 1 } := by
  have hl0 : ((st, it :: its) : Lin) ∈ s.lines := by rw [hs]; exact List.mem_cons_self
  have hr : ∀ l ∈ rest, l ∈ s.lines := fun l hl => by rw [hs]; exact List.mem_cons_of_mem _ hl
  have hit := h.its _ hl0 it List.mem_cons_self
  have hN := numI_ok (s := s) hit.1 h.num
  have hst := numI_st s it
  have hits : ∀ i ∈ its, ItOk i ∧ i.m.st = st := fun i hi => h.its _ hl0 i (List.mem_cons_of_mem _ hi)
  have hbg : ∀ i ∈ its, i.bg = false := fun i hi => h.bg _ hl0 i hi
  have hdis := h.dis
  rw [hs, List.map_cons, List.nodup_cons] at hdis
  have hinter : (s.numS it).inter = s.inter := by unfold QS.numS; split <;> rfl
  have hnum : ∀ a b, (s.numS it).nums a b < 4294967296 := fun a b => by
    unfold QS.numS
    split
    · show bump s.nums _ _ a b < _
      unfold bump
      split
      · omega
      · exact h.num a b
    · exact h.num a b
  have hall : bytesL (turned s.inter most st (s.numI it) its rest) ≤ 262144 := by
    have h9 := turned_bytes (most := most) (st := st) (it := s.numI it) (its := its) (rest := rest) s.inter
    have h8 := h.few
    unfold QS.all at h8
    rw [hs, bytesL_cons, bytesI_cons] at h8
    rw [hst.2] at h9
    have h8' : it.m.body.length + bytesI its + bytesL rest ≤ 262144 := h8
    omega
  have hbh : ∀ l ∈ behind st its, l = (st, its) ∧ its ≠ [] := fun l hl => by
    unfold behind at hl
    split at hl
    · cases hl
    · rename_i he
      exact ⟨List.mem_singleton.1 hl, fun e => he (by rw [e]; rfl)⟩
  by_cases hend : (s.numI it).m.body.length ≤ most
  · have et : turned s.inter most st (s.numI it) its rest = rest ++ behind st its := by unfold turned; rw [if_pos (decide_eq_true hend)]
    rw [et] at hall ⊢
    refine ⟨fun l hl i hi => ?_, fun l hl => ?_, ?_, hall, fun l hl i hi => ?_, fun hin l hl i hi => ?_, hnum⟩
    · rcases List.mem_append.1 hl with h9 | h9
      · exact h.its l (hr l h9) i hi
      · rw [(hbh l h9).1] at hi ⊢
        exact hits i hi
    · rcases List.mem_append.1 hl with h9 | h9
      · exact h.ne l (hr l h9)
      · rw [(hbh l h9).1]; exact (hbh l h9).2
    · show ((rest ++ behind st its).map (·.1)).Nodup
      rw [List.map_append, List.nodup_append]
      refine ⟨hdis.2, ?_, fun a ha b hb e => ?_⟩
      · unfold behind; split <;> simp
      · obtain ⟨l, hl, rfl⟩ := List.mem_map.1 hb
        rw [(hbh l hl).1] at e
        exact hdis.1 (by rw [← show a = st from e]; exact ha)
    · rcases List.mem_append.1 hl with h9 | h9
      · exact h.bg l (hr l h9) i hi
      · rw [(hbh l h9).1] at hi
        exact hbg i (List.mem_of_mem_tail hi)
    · have hl' := List.mem_of_mem_tail hl
      rcases List.mem_append.1 hl' with h9 | h9
      · exact h.one (by rw [← hinter]; exact hin) l (by rw [hs]; exact h9) i hi
      · rw [(hbh l h9).1] at hi
        exact hbg i hi
  · have hC := cutI_ok hN h1 (by omega)
    have hcs : (cutI most (s.numI it)).m.st = st := hst.1.trans hit.2
    have hone : ∀ i ∈ cutI most (s.numI it) :: its, ItOk i ∧ i.m.st = st := fun i hi => by
      rcases List.mem_cons.1 hi with rfl | hi
      · exact ⟨hC, hcs⟩
      · exact hits i hi
    by_cases hin : s.inter = true
    · have et : turned s.inter most st (s.numI it) its rest = rest ++ [(st, cutI most (s.numI it) :: its)] := by unfold turned; rw [if_neg (by simp; omega), if_pos hin]
      rw [et] at hall ⊢
      refine ⟨fun l hl i hi => ?_, fun l hl => ?_, ?_, hall, fun l hl i hi => ?_, fun hin2 => ?_, hnum⟩
      · rcases List.mem_append.1 hl with h9 | h9
        · exact h.its l (hr l h9) i hi
        · rw [List.mem_singleton.1 h9] at hi ⊢
          exact hone i hi
      · rcases List.mem_append.1 hl with h9 | h9
        · exact h.ne l (hr l h9)
        · rw [List.mem_singleton.1 h9]; simp
      · show ((rest ++ [(st, cutI most (s.numI it) :: its)]).map (·.1)).Nodup
        rw [List.map_append, List.nodup_append]
        refine ⟨hdis.2, by simp, fun a ha b hb e => ?_⟩
        rw [List.mem_singleton.1 (show b ∈ [st] from hb)] at e
        exact hdis.1 (by rw [← e]; exact ha)
      · rcases List.mem_append.1 hl with h9 | h9
        · exact h.bg l (hr l h9) i hi
        · rw [List.mem_singleton.1 h9] at hi
          exact hbg i hi
      · have : s.inter = false := by rw [← hinter]; exact hin2
        rw [hin] at this
        cases this
    · have hin' : s.inter = false := by cases h9 : s.inter <;> simp [h9] at hin ⊢
      have et : turned s.inter most st (s.numI it) its rest = (st, cutI most (s.numI it) :: its) :: rest := by unfold turned; rw [if_neg (by simp; omega), if_neg hin]
      rw [et] at hall ⊢
      refine ⟨fun l hl i hi => ?_, fun l hl => ?_, ?_, hall, fun l hl i hi => ?_, fun _ l hl i hi => ?_, hnum⟩
      · rcases List.mem_cons.1 hl with h9 | h9
        · rw [h9] at hi ⊢
          exact hone i hi
        · exact h.its l (hr l h9) i hi
      · rcases List.mem_cons.1 hl with h9 | h9
        · rw [h9]; simp
        · exact h.ne l (hr l h9)
      · show (((st, cutI most (s.numI it) :: its) :: rest).map (·.1)).Nodup
        rw [List.map_cons, List.nodup_cons]
        exact hdis
      · rcases List.mem_cons.1 hl with h9 | h9
        · rw [h9] at hi
          exact hbg i hi
        · exact h.bg l (hr l h9) i hi
      · exact h.one hin' l (by rw [hs]; exact hl) i hi
theorem Inv.reset (h : Inv s) (l : List Nat) : Inv (s.reset l) := ⟨h.its, h.ne, h.dis, h.few, h.bg, h.one, fun a b => by
  show (if l.isEmpty || l.contains a then 0 else s.nums a b) < _
  split
  · omega
  · exact h.num a b⟩
end
end Go.Proofs.Ytkjlmibjpfmfnaa.Sc

set_option linter.unusedVariables false
set_option linter.unusedSimpArgs false
set_option maxRecDepth 20000
namespace Go.Proofs.Ytkjlmibjpfmfnaa.Sc
open Go.ChangeShapes Go.WideShapes Go.ChangeAt Go.RowKit Go.Deep Go.Maps Go.Proofs.Ytkjlmibjpfmfnaa.Words Go.Proofs.Ytkjlmibjpfmfnaa.Oct Go.Proofs.Ytkjlmibjpfmfnaa.Par Go.Proofs.Ytkjlmibjpfmfnaa.Chk Go.Proofs.Ytkjlmibjpfmfnaa.Mx Go.Proofs.Ytkjlmibjpfmfnaa.Fl
/-- A queue in memory, as the plain one. -/
structure SRp (w : World) (G : Nat → Prop) (p : Nat) (s : QS) (e : Ev) (h : Hp) (gh : Gh) (mm : Ln → Option Nat) : Prop where
  q : QM e w h p gh mm
  g : ∀ i, G i ↔ QG e h i
  inter : e.inter = s.inter
  lines : lns gh = s.lines
  nums : ∀ a b, (mm (a, b)).getD 0 = s.nums a b
  small : ∀ k v, mm k = some v → v < 4294967296
  inv : Inv s
  adm : Adm gh s.t
def SR : Mem := fun w G p s => ∃ e h gh mm, SRp w G p s e h gh mm
section
variable {w w' : World} {G S : Nat → Prop} {p : Nat} {s s' : QS} {e : Ev} {h : Hp} {gh : Gh} {mm : Ln → Option Nat}
theorem lns_bytes (gh : Gh) : bytesL (lns gh) = bytesG gh.gl := by
  unfold bytesL lns bytesG
  rw [List.map_map]
  rfl
theorem SRp.all (k : SRp w G p s e h gh mm) : s.all = bytesG gh.gl := by
  unfold QS.all
  rw [← k.lines, lns_bytes]
theorem SRp.bytes (k : SRp w G p s e h gh mm) (st : Nat) : s.bytes st = bytesOf gh st := by
  unfold QS.bytes bytesOf
  rw [← k.lines]
  unfold lns
  rw [List.find?_map]
  show (match Option.map (fun g : GL => ((g.st, g.its) : Lin)) (List.find? (fun g : GL => decide (g.st = st)) gh.gl) with | some l => bytesI l.2 | none => 0) = _
  cases List.find? (fun g : GL => decide (g.st = st)) gh.gl <;> rfl
def idL (s : QS) : List Int := (s.lines.flatMap (·.2)).map (·.id)
theorem SRp.few (k : SRp w G p s e h gh mm) : Few (nmF gh) (idL s) ∧ (idL s).length ≤ 1073741824 := by
  refine ⟨fun x hx => ?_, ?_⟩
  · unfold nmF at hx
    cases hn : gh.N x with
    | none => rw [hn] at hx; exact absurd rfl hx
    | some n =>
      have hne := k.q.g.nn _ _ hn
      cases hl : n.l with
      | nil => exact absurd hl hne
      | cons y t =>
        obtain ⟨g, hg, z, hz, _, _, e9⟩ := k.q.g.nm _ _ hn y (by rw [hl]; exact List.mem_cons_self)
        unfold idL
        rw [← k.lines]
        refine List.mem_map.2 ⟨z.it, List.mem_flatMap.2 ⟨(g.st, g.its), List.mem_map.2 ⟨g, hg, rfl⟩, List.mem_map_of_mem hz⟩, e9⟩
  · unfold idL
    rw [List.length_map]
    have h1 := bytesL_len (l := s.lines) fun x hx i hi => (k.inv.its x hx i hi).1.ne
    have h2 := k.inv.few
    unfold QS.all at h2
    omega
theorem scI : ScI SR where
  fr := by
    rintro w w' G S p s ⟨e, h, gh, mm, k⟩ hf hS
    exact ⟨e, h, gh, mm, k.q.fr hf (fun i h1 h2 h3 => hS i h1 h2 ((k.g i).2 h3)), k.g, k.inter, k.lines, k.nums, k.small, k.inv, k.adm⟩
  lt := by
    rintro w G p s ⟨e, h, gh, mm, k⟩ i hi
    exact k.q.lt ((k.g i).1 hi)
  ok := by
    rintro w G p s ⟨e, h, gh, mm, k⟩
    exact k.inv
  new := fun w inter => (new_s w inter).mono (by
    rintro en w' ⟨e, h, p, rfl, hi, hq, hg, hb⟩
    exact ⟨QG e h, p, rfl, ⟨e, h, gh0, _, hq, fun i => Iff.rfl, hi, rfl, fun a b => rfl, fun k v hk => (by cases hk), Inv.q0 inter, ⟨Nat.le_refl _, fun g hg => (by cases hg), fun id n hn => (by cases hn)⟩⟩, hg, hb⟩)
  push := by
    rintro w G p s id lk ln m A n cp ⟨e, h, gh, mm, k⟩ hot hid hlk hln hok hn hcp hc2 hy
    have hall := k.all
    have hfew := k.few
    have hE : pushN gh m = s.pushE m := by unfold pushN QS.pushE; rw [hall]
    refine (push_s k.q k.adm (by have : s.t < 4611686018427387000 := hot; omega) (by rw [← hall]; exact k.inv.few) hfew.1 hfew.2 hid hlk hln hok hn hcp hc2 hy).mono ?_
    rintro en w' ⟨rfl, h1, h2⟩
    rw [hE] at h1 h2 ⊢
    have hinv := k.inv.push (id := id) (lk := lk) (ln := ln) (m := m) hid hlk hln hok
    by_cases h0 : s.pushE m = 0
    · obtain ⟨h', gh', q', l', a', g', f'⟩ := h2 h0
      have hs : s.push id lk ln m = { s with lines := addL (newI id lk ln m) s.lines, t := s.t + 1 } := by unfold QS.push; rw [if_pos h0]
      rw [hs] at hinv ⊢
      refine ⟨QG e h', rfl, ⟨e, h', gh', mm, q', fun i => Iff.rfl, k.inter, by rw [l', k.lines], k.nums, k.small, hinv, a' _ k.adm⟩, fun i hi => ?_, f'.mono fun i _ hi => (k.g i).2 hi⟩
      exact (g'.qg hi).imp (fun h9 => (k.g i).2 h9) (fun h9 => h9)
    · have hs : s.push id lk ln m = s := by unfold QS.push; rw [if_neg h0]
      rw [hs]
      have hb := h1 h0
      exact ⟨G, rfl, ⟨e, h, gh, mm, k.q.grows hb, k.g, k.inter, k.lines, k.nums, k.small, k.inv, k.adm⟩, fun i hi => .inl hi, (Fr.of_below hb).mono fun i h8 h9 => by omega⟩
  idle := by
    rintro w G p s most ⟨e, h, gh, mm, k⟩ hm hmay
    refine idle_s k.q hm ?_
    unfold QS.may at hmay
    rw [← k.inter, ← k.lines] at hmay
    by_cases h1 : gh.gl = []
    · exact .inl h1
    · right
      have h2 : (lns gh).isEmpty = false := by
        unfold lns
        cases hg : gh.gl with
        | nil => exact absurd hg h1
        | cons => rfl
      rw [h2] at hmay
      by_cases h3 : most < 1
      · exact .inl h3
      · right
        by_cases h4 : most ≤ (roomF e.inter : Int)
        · simp at hmay; omega
        · omega
  next := by
    rintro w G p s s' most c it ⟨e, h, gh, mm, k⟩ hot hm hmay hn
    unfold QS.may at hmay
    simp only [Bool.and_eq_true, decide_eq_true_eq] at hmay
    obtain ⟨⟨_, h1⟩, h2⟩ := hmay
    obtain ⟨M, hM⟩ : ∃ M : Nat, M = most.toNat := ⟨_, rfl⟩
    have hMi : most = (M : Int) := by omega
    rw [← hM] at hn
    have hM1 : 1 ≤ M := by omega
    have hM2 : M ≤ roomF e.inter := by rw [k.inter]; omega
    rw [hMi]
    clear hM hMi h1 h2
    unfold QS.next at hn
    split at hn
    · rename_i st it0 its rest hs
      injection hn with hn
      injection hn with hc hn
      injection hn with hi hs'
      have hln := k.lines
      rw [hs] at hln
      unfold lns at hln
      cases hg : gh.gl with
      | nil => rw [hg] at hln; cases hln
      | cons g gc =>
        rw [hg] at hln
        injection hln with hl1 hl2
        injection hl1 with hst hms
        cases hm2 : g.ms with
        | nil => unfold GL.its at hms; rw [hm2] at hms; cases hms
        | cons x cc =>
          unfold GL.its at hms
          rw [hm2] at hms
          injection hms with hx hcc
          have hmem : ((st, it0 :: its) : Lin) ∈ s.lines := by rw [hs]; exact List.mem_cons_self
          have hok := k.inv.its _ hmem it0 List.mem_cons_self
          have hxi : x.it = it0 := hx
          have hfr : fresh e.inter x.it = s.fresh it0 := by
            rw [hxi]
            unfold fresh QS.fresh
            rw [hok.1.bgf, k.inter]
            by_cases h9 : it0.fr = 0 <;> simp [h9]
          have hnum : numIt e.inter mm x.it = s.numI it0 := by
            unfold numIt QS.numI
            rw [hfr, hxi, k.nums]
            rfl
          have hallb := k.all
          refine (next_s k.q hg hm2 (by rw [hxi]; exact hok.1) (by rw [hxi, hst]; exact hok.2) hM1 hM2 k.adm (by have : s.t < 4611686018427387000 := hot; omega) (by rw [← hallb]; exact k.inv.few) k.small).mono ?_
          rintro en w' ⟨cs, h', gh', rfl, ho, q', l', a', d', g', f'⟩
          have hidl : x.it.id = it.id ∧ x.it.lk = it.lk ∧ x.it.ln = it.ln := by
            rw [← hi, hxi]
            unfold QS.numI
            split <;> exact ⟨rfl, rfl, rfl⟩
          have hpc : fragI e.inter M (numIt e.inter mm x.it) = c := by
            rw [hnum, ← hc, k.inter]
            refine fragI_piece ?_
            have := numI_ok (s := s) hok.1 k.inv.num
            exact this.bgf
          rw [hpc] at ho
          have hinv := k.inv.next hM1 hs
          refine ⟨cs, QG e h', by rw [hidl.1, hidl.2.1, hidl.2.2], ho, ⟨e, h', gh', _, q', fun i => Iff.rfl, ?_, ?_, fun a b => ?_, fun kk v hv => ?_, ?_, ?_⟩, d', fun i hi => (g'.qg hi).imp (fun h9 => (k.g i).2 h9) id, f'.mono fun i _ hi => (k.g i).2 hi⟩
          · rw [← hs', k.inter]
            show _ = (s.numS it0).inter
            unfold QS.numS
            split <;> rfl
          · rw [← hs', l', hnum, k.inter, hst, hcc, hl2]
          · rw [← hs']
            show _ = (s.numS it0).nums a b
            unfold numMm QS.numS
            rw [hfr, hxi]
            split
            · show (putM mm (it0.m.st, it0.m.lo) _ (a, b)).getD 0 = bump s.nums it0.m.st it0.m.lo a b
              unfold putM bump
              by_cases h9 : a = it0.m.st ∧ b = it0.m.lo
              · rw [if_pos (by rw [h9.1, h9.2]), if_pos h9, k.nums, h9.1, h9.2]
                rfl
              · rw [if_neg (fun e9 => h9 (by injection e9 with a1 a2; exact ⟨a1, a2⟩)), if_neg h9]
                exact k.nums a b
            · exact k.nums a b
          · unfold numMm at hv
            split at hv
            · unfold putM at hv
              split at hv
              · injection hv with hv
                omega
              · exact k.small _ _ hv
            · exact k.small _ _ hv
          · rw [← hs']; exact hinv
          · rw [← hs']; exact a' _ k.adm
    · cases hn
  reset := by
    rintro w G p s l A n cp ⟨e, h, gh, mm, k⟩ hl hn hc hc2 hA hAg
    refine (reset_s k.q hl hn hc hc2 hA (fun a ha h9 => hAg a ha ((k.g _).2 h9))).mono ?_
    rintro en w' ⟨rfl, q', f'⟩
    refine ⟨G, rfl, ⟨e, h, gh, _, q', k.g, k.inter, k.lines, fun a b => ?_, fun kk v hv => ?_, k.inv.reset l, k.adm⟩, fun i hi => .inl hi, f'.mono fun i _ hi => (k.g i).2 hi⟩
    · show _ = (if l.isEmpty || l.contains a then 0 else s.nums a b)
      cases he : l.isEmpty
      · show (resM mm l (a, b)).getD 0 = _
        unfold resM
        rw [← k.nums a b]
        cases h9 : l.contains a <;> simp
      · rfl
    · split at hv
      · cases hv
      · unfold resM at hv
        split at hv
        · cases hv
        · exact k.small _ _ hv
  bytes := by
    rintro w G p s st ⟨e, h, gh, mm, k⟩ hst
    rw [k.bytes st]
    exact bytes_s k.q hst
  all := by
    rintro w G p s ⟨e, h, gh, mm, k⟩
    rw [k.all]
    exact all_s k.q
end
end Go.Proofs.Ytkjlmibjpfmfnaa.Sc
