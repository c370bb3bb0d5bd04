/-
  Of the texts ScOb, ScRep, ScRep2: what the laws reach.
-/
import Derived.Test.YtkjlmibjpfmfnaaSA4

set_option linter.unusedVariables false
set_option linter.unusedSimpArgs false
namespace Go.Proofs.Ytkjlmibjpfmfnaa.Sc
open Go.Proofs.Ytkjlmibjpfmfnaa.Words Go.Proofs.Ytkjlmibjpfmfnaa.Chk
/-- A row's own cells. -/
structure Rw where
  fs : Option Nat
  ls : Option Nat
  ad : Nat
/-- A message in memory. -/
structure Me where
  it : It
  A : Option Addr
  cp : Nat
  s : Option Nat
  li : Option Nat
  nl : Option Nat
inductive Ob
  | q (by_ : Nat) (r : Rw)
  | st (by_ : Nat) (r : Rw) (turn : Option Nat)
  | rw (r : Rw)
  | lk (s : Bool) (own : Nat) (th pl : Nat) (bf af : Option Nat)
  | ms (x : Me)
abbrev Hp := Nat → Option Ob
def upd (h : Hp) (b : Nat) (o : Ob) : Hp := fun x => if x = b then some o else h x
def Ob.row : Ob → Option Rw
  | .q _ r => some r
  | .st _ r _ => some r
  | .rw r => some r
  | _ => none
def Ob.setR : Ob → Rw → Ob
  | .q b _, r => .q b r
  | .st b _ t, r => .st b r t
  | .rw _, r => .rw r
  | o, _ => o
def Ob.off : Ob → Nat
  | .q _ _ => 3
  | .st _ _ _ => 1
  | _ => 0
def Ob.isLk : Ob → Bool
  | .lk _ _ _ _ _ _ => true
  | _ => false
structure Lk where
  b : Nat
  th : Nat
  pl : Nat
def hd (l : List Lk) : Option Nat := l.head?.map (·.b)
def lst (l : List Lk) : Option Nat := l.getLast?.map (·.b)
def Seg (h : Hp) (s : Bool) (own : Nat) : Option Nat → List Lk → Option Nat → Prop
  | _, [], _ => True
  | pre, x :: r, post => h x.b = some (.lk s own x.th x.pl pre ((hd r).or post)) ∧ Seg h s own (some x.b) r post
section
variable {h h' : Hp} {s : Bool} {own rb : Nat} {pre post : Option Nat} {l a c : List Lk} {x y : Lk} {o : Ob} {r : Rw} {ad : Nat}
theorem upd_same (h : Hp) (b : Nat) (o : Ob) : upd h b o b = some o := if_pos rfl
theorem upd_ne (h : Hp) {b x : Nat} (o : Ob) (hx : x ≠ b) : upd h b o x = h x := if_neg hx
theorem setR_row (hr : o.row = some r) (r' : Rw) : (o.setR r').row = some r' := by cases o <;> simp [Ob.row, Ob.setR] at hr ⊢
theorem setR_off (r' : Rw) : (o.setR r').off = o.off := by cases o <;> rfl
theorem setR_setR (r r' : Rw) : (o.setR r).setR r' = o.setR r' := by cases o <;> rfl
theorem setR_self (hr : o.row = some r) : o.setR r = o := by cases o <;> simp [Ob.row, Ob.setR] at hr ⊢ <;> exact hr.symm
theorem row_not_lk (hr : o.row = some r) : o.isLk = false := by cases o <;> simp [Ob.row, Ob.isLk] at hr ⊢
theorem hd_app (a c : List Lk) : hd (a ++ c) = (hd a).or (hd c) := by cases a <;> rfl
theorem lst_app (a c : List Lk) : lst (a ++ c) = (lst c).or (lst a) := by
  unfold lst
  rw [List.getLast?_append]
  cases c.getLast? <;> simp
theorem lst_snoc (a : List Lk) (y : Lk) : lst (a ++ [y]) = some y.b := by simp [lst]
theorem lst_cons (y : Lk) (c : List Lk) : lst (y :: c) = (lst c).or (some y.b) := by
  show lst ([y] ++ c) = _
  rw [lst_app]
  rfl
theorem seg_app : ∀ (a : List Lk) (pre : Option Nat), Seg h s own pre (a ++ c) post ↔ Seg h s own pre a ((hd c).or post) ∧ Seg h s own ((lst a).or pre) c post
  | [], pre => by
    show _ ↔ True ∧ Seg h s own ((none : Option Nat).or pre) c post
    rw [Option.none_or]
    exact ⟨fun k => ⟨trivial, k⟩, fun k => k.2⟩
  | y :: a, pre => by
    show _ ∧ Seg h s own (some y.b) (a ++ c) post ↔ (_ ∧ Seg h s own (some y.b) a ((hd c).or post)) ∧ _
    have e1 : hd (List.append a c) = (hd a).or (hd c) := hd_app a c
    rw [seg_app a (some y.b), e1, lst_cons, Option.or_assoc, Option.or_assoc, and_assoc]
    rfl
theorem Seg.mono : ∀ {l : List Lk} {pre : Option Nat}, Seg h s own pre l post → (∀ x ∈ l, h' x.b = h x.b) → Seg h' s own pre l post
  | [], _, _, _ => trivial
  | y :: l, _, k, e => ⟨(e y List.mem_cons_self).trans k.1, k.2.mono fun x hx => e x (List.mem_cons_of_mem _ hx)⟩
theorem Seg.at_ : ∀ {l : List Lk} {pre : Option Nat}, Seg h s own pre l post → ∀ x ∈ l, ∃ bf af, h x.b = some (.lk s own x.th x.pl bf af)
  | y :: l, pre, k, x, hx => by
    rcases List.mem_cons.1 hx with rfl | hx
    · exact ⟨_, _, k.1⟩
    · exact k.2.at_ x hx
/-- A row: its own cells, its links in their order. -/
structure Row (h : Hp) (s : Bool) (rb ad : Nat) (l : List Lk) : Prop where
  ob : ∃ o, h rb = some o ∧ o.row = some ⟨hd l, lst l, ad⟩
  seg : Seg h s rb none l none
  nd : (l.map (·.b)).Nodup
  srt : l.Pairwise fun a b => a.pl < b.pl
  lt : ∀ x ∈ l, x.pl < ad
theorem Row.ne (k : Row h s rb ad l) (hx : x ∈ l) : x.b ≠ rb := by
  obtain ⟨o, e1, e2⟩ := k.ob
  obtain ⟨bf, af, e3⟩ := k.seg.at_ x hx
  intro e
  rw [e, e1] at e3
  injection e3 with e3
  subst e3
  cases e2
theorem Row.mono (k : Row h s rb ad l) (e0 : h' rb = h rb) (e : ∀ x ∈ l, h' x.b = h x.b) : Row h' s rb ad l := by
  obtain ⟨o, e1, e2⟩ := k.ob
  exact ⟨⟨o, e0.trans e1, e2⟩, k.seg.mono e, k.nd, k.srt, k.lt⟩
/-- The owner's other cells may turn. -/
theorem Row.mono2 (k : Row h s rb ad l) {o' : Ob} (e0 : h' rb = some o') (e1 : ∀ o, h rb = some o → o'.row = o.row) (e : ∀ x ∈ l, h' x.b = h x.b) : Row h' s rb ad l := by
  obtain ⟨o, e2, e3⟩ := k.ob
  exact ⟨⟨o', e0, (e1 o e2).trans e3⟩, k.seg.mono e, k.nd, k.srt, k.lt⟩
theorem Row.ob_eq (k : Row h s rb ad l) (e : h rb = some o) : o.row = some ⟨hd l, lst l, ad⟩ := by
  obtain ⟨o', e1, e2⟩ := k.ob
  rw [e] at e1
  injection e1 with e1
  rw [e1]
  exact e2
def setAf (o : Option Ob) (v : Option Nat) : Option Ob := o.map fun o => match o with
  | .lk s own th pl bf _ => .lk s own th pl bf v
  | o => o
def setBf (o : Option Ob) (v : Option Nat) : Option Ob := o.map fun o => match o with
  | .lk s own th pl _ af => .lk s own th pl v af
  | o => o
def updO (h : Hp) (b : Nat) (o : Option Ob) : Hp := fun x => if x = b then o else h x
theorem updO_ne (h : Hp) {b x : Nat} (o : Option Ob) (hx : x ≠ b) : updO h b o x = h x := if_neg hx
theorem updO_same (h : Hp) (b : Nat) (o : Option Ob) : updO h b o b = o := if_pos rfl
/-- The heap with one more behind a row. -/
def addH (h : Hp) (s : Bool) (rb : Nat) (o : Ob) (r : Rw) (th nb : Nat) : Hp :=
  let h1 := upd h nb (.lk s rb th r.ad r.ls none)
  match r.ls with
  | none => upd h1 rb (o.setR ⟨some nb, some nb, r.ad + 1⟩)
  | some y => upd (updO h1 y (setAf (h1 y) (some nb))) rb (o.setR ⟨r.fs, some nb, r.ad + 1⟩)
theorem addH_ne {th nb b : Nat} (h1 : b ≠ nb) (h2 : b ≠ rb) (h3 : r.ls ≠ some b) : addH h s rb o r th nb b = h b := by
  obtain ⟨fs, ls, ad⟩ := r
  unfold addH
  cases ls <;> dsimp only
  · rw [upd_ne _ _ h2, upd_ne _ _ h1]
  · rw [upd_ne _ _ h2, updO_ne _ _ (fun e' => h3 (by rw [e'])), upd_ne _ _ h1]
theorem addH_rb {th nb : Nat} : ∃ f, addH h s rb o r th nb rb = some (o.setR ⟨f, some nb, r.ad + 1⟩) := by
  obtain ⟨fs, ls, ad⟩ := r
  unfold addH
  cases ls <;> dsimp only
  · exact ⟨_, upd_same _ _ _⟩
  · exact ⟨_, upd_same _ _ _⟩
theorem Row.fresh {nb : Nat} (k : Row h s rb ad l) (hn : h nb = none) : nb ≠ rb ∧ ∀ x ∈ l, x.b ≠ nb := by
  obtain ⟨o, e1, e2⟩ := k.ob
  refine ⟨fun e => ?_, fun x hx e => ?_⟩
  · rw [e, e1] at hn; cases hn
  · obtain ⟨bf, af, e3⟩ := k.seg.at_ x hx
    rw [e, hn] at e3
    cases e3
theorem Row.add {th nb : Nat} (k : Row h s rb ad l) (e : h rb = some o) (hn : h nb = none) : Row (addH h s rb o ⟨hd l, lst l, ad⟩ th nb) s rb (ad + 1) (l ++ [⟨nb, th, ad⟩]) := by
  have ho := k.ob_eq e
  obtain ⟨n1, n2⟩ := k.fresh hn
  refine ⟨?_, ?_, ?_, ?_, ?_⟩
  · unfold addH
    dsimp only
    rw [lst_snoc, hd_app]
    rcases List.eq_nil_or_concat l with rfl | ⟨l', y, rfl⟩
    · exact ⟨_, upd_same _ _ _, setR_row ho _⟩
    · rw [List.concat_eq_append, lst_snoc]
      refine ⟨_, upd_same _ _ _, ?_⟩
      rw [setR_row ho]
      congr 2
      cases l' <;> rfl
  · rcases List.eq_nil_or_concat l with rfl | ⟨l', y, rfl⟩
    · refine ⟨?_, trivial⟩
      show addH h s rb o ⟨none, none, ad⟩ th nb nb = _
      unfold addH
      dsimp only
      rw [upd_ne _ _ n1, upd_same]
      rfl
    · rw [List.concat_eq_append] at k n2 ⊢
      have k2 := (seg_app l' none).1 k.seg
      have hy : y ∈ l' ++ [y] := List.mem_append_right _ List.mem_cons_self
      have hyb := n2 y hy
      have hyr := k.ne hy
      have hnd := k.nd
      rw [List.map_append, List.nodup_append] at hnd
      have hl' : ∀ z ∈ l', z.b ≠ y.b := fun z hz => hnd.2.2 z.b (List.mem_map_of_mem hz) y.b (by simp)
      rw [List.append_assoc]
      rw [seg_app l' none]
      refine ⟨?_, ?_⟩
      · have e1 : (hd ([y] ++ [⟨nb, th, ad⟩])).or (none : Option Nat) = (hd [y]).or none := rfl
        rw [e1]
        refine k2.1.mono fun z hz => addH_ne (n2 z (List.mem_append_left _ hz)) (k.ne (List.mem_append_left _ hz)) (by rw [lst_snoc]; intro e; injection e with e; exact hl' z hz e.symm)
      · have e2 : h y.b = some (.lk s rb y.th y.pl ((lst l').or none) none) := k2.2.1
        refine ⟨?_, ?_, trivial⟩
        · unfold addH
          dsimp only
          rw [lst_snoc]
          dsimp only
          rw [upd_ne _ _ hyr, updO_same, upd_ne _ _ hyb, e2]
          rfl
        · unfold addH
          dsimp only
          rw [lst_snoc]
          dsimp only
          rw [upd_ne _ _ n1, updO_ne _ _ hyb.symm, upd_same]
          rfl
  · rw [List.map_append, List.nodup_append]
    refine ⟨k.nd, by simp, fun a ha b hb => ?_⟩
    obtain ⟨z, hz, rfl⟩ := List.mem_map.1 ha
    rw [List.mem_singleton.1 (show b ∈ [nb] from hb)]
    exact n2 z hz
  · rw [List.pairwise_append]
    refine ⟨k.srt, List.pairwise_singleton _ _, fun a ha b hb => ?_⟩
    rw [List.mem_singleton.1 hb]
    exact k.lt a ha
  · intro z hz
    rcases List.mem_append.1 hz with hz | hz
    · exact Nat.lt_succ_of_lt (k.lt z hz)
    · rw [List.mem_singleton.1 hz]
      exact Nat.lt_succ_self _
/-- The heap with one less in a row: what stood before and after it. -/
def rmH (h : Hp) (rb : Nat) (bf af : Option Nat) : Hp :=
  let h1 := match bf with
    | none => updO h rb ((h rb).map fun o => match o.row with | some r => o.setR { r with fs := af } | none => o)
    | some b => updO h b (setAf (h b) af)
  match af with
  | none => updO h1 rb ((h1 rb).map fun o => match o.row with | some r => o.setR { r with ls := bf } | none => o)
  | some b => updO h1 b (setBf (h1 b) bf)
theorem rmH_ne {bf af : Option Nat} {b : Nat} (h1 : b ≠ rb) (h2 : bf ≠ some b) (h3 : af ≠ some b) : rmH h rb bf af b = h b := by
  unfold rmH
  cases bf <;> cases af <;> dsimp only
  · rw [updO_ne _ _ h1, updO_ne _ _ h1]
  · rw [updO_ne _ _ (fun e => h3 (by rw [e])), updO_ne _ _ h1]
  · rw [updO_ne _ _ h1, updO_ne _ _ (fun e => h2 (by rw [e]))]
  · rw [updO_ne _ _ (fun e => h3 (by rw [e])), updO_ne _ _ (fun e => h2 (by rw [e]))]
theorem rmH_rb {bf af : Option Nat} (e : h rb = some o) (hr : o.row = some r) (hb : bf ≠ some rb) (ha : af ≠ some rb) : rmH h rb bf af rb = some (o.setR ⟨if bf = none then af else r.fs, if af = none then bf else r.ls, r.ad⟩) := by
  unfold rmH
  cases bf <;> cases af <;> dsimp only
  · rw [updO_same, updO_same, e]
    simp only [Option.map_some, hr, setR_row hr, setR_setR, if_true]
  · rename_i b
    rw [updO_ne _ _ (fun e => ha (by rw [e])), updO_same, e]
    simp [hr]
  · rename_i b
    rw [updO_same, updO_ne _ _ (fun e => hb (by rw [e])), e]
    simp [hr]
  · rename_i b b'
    rw [updO_ne _ _ (fun e => ha (by rw [e])), updO_ne _ _ (fun e => hb (by rw [e])), e, ← setR_self hr]
    simp [setR_setR]
theorem Row.remove (k : Row h s rb ad (a ++ x :: c)) : Row (rmH h rb (lst a) (hd c)) s rb ad (a ++ c) := by
  obtain ⟨o, e1, e2⟩ := k.ob
  have hb : lst a ≠ some rb := fun e => by
    rcases List.eq_nil_or_concat a with rfl | ⟨a', y, rfl⟩
    · cases e
    · rw [List.concat_eq_append, lst_snoc] at e
      injection e with e
      exact k.ne (x := y) (by simp) e
  have ha : hd c ≠ some rb := fun e => by
    cases c with
    | nil => cases e
    | cons y c' => injection e with e; exact k.ne (x := y) (by simp) e
  have hs := (seg_app a none).1 k.seg
  have hnd := k.nd
  rw [List.map_append, List.map_cons, List.nodup_append, List.nodup_cons] at hnd
  obtain ⟨nd1, ⟨nd2, nd3⟩, nd4⟩ := hnd
  have hac : ∀ y ∈ a, ∀ z ∈ c, y.b ≠ z.b := fun y hy z hz => nd4 y.b (List.mem_map_of_mem hy) z.b (List.mem_cons_of_mem _ (List.mem_map_of_mem hz))
  refine ⟨⟨_, rmH_rb e1 e2 hb ha, ?_⟩, ?_, ?_, ?_, ?_⟩
  · rw [setR_row e2]
    congr 1
    rw [hd_app, lst_app, hd_app, lst_app, lst_cons]
    cases a <;> cases c <;> simp [hd, lst]
    · rename_i y t
      cases h9 : (y :: t).getLast? with
      | none => simp at h9
      | some z => simp [List.getLast?_cons] at h9 ⊢
    · rename_i y t u v
      cases h9 : (u :: v).getLast? with
      | none => simp at h9
      | some z => simp [List.getLast?_cons] at h9 ⊢
  · rw [seg_app a none]
    refine ⟨?_, ?_⟩
    · rcases List.eq_nil_or_concat a with rfl | ⟨a', y, rfl⟩
      · trivial
      · rw [List.concat_eq_append] at hs nd1 hac k hb ⊢
        have h1 := (seg_app a' none).1 hs.1
        rw [List.map_append, List.nodup_append] at nd1
        have hya : ∀ z ∈ a', z.b ≠ y.b := fun z hz => nd1.2.2 z.b (List.mem_map_of_mem hz) y.b (by simp)
        have hcy : hd c ≠ some y.b := fun e => by
          cases c with
          | nil => cases e
          | cons z c' => injection e with e; exact hac y (by simp) z List.mem_cons_self e.symm
        have hyr : y.b ≠ rb := k.ne (by simp)
        rw [seg_app a' none]
        refine ⟨?_, ?_, trivial⟩
        · refine h1.1.mono fun z hz => rmH_ne (k.ne (by simp [hz])) (by rw [lst_snoc]; intro e; injection e with e; exact hya z hz e.symm) (fun e => ?_)
          cases c with
          | nil => cases e
          | cons u c' => injection e with e; exact hac z (by simp [hz]) u List.mem_cons_self e.symm
        · have e3 : h y.b = some (.lk s rb y.th y.pl ((lst a').or none) ((hd (x :: c)).or none)) := h1.2.1
          unfold rmH
          rw [lst_snoc]
          cases c with
          | nil =>
            show updO (updO h y.b (setAf (h y.b) none)) rb _ y.b = _
            rw [updO_ne _ _ hyr, updO_same, e3]
            rfl
          | cons u c' =>
            show updO (updO h y.b (setAf (h y.b) (some u.b))) u.b _ y.b = _
            rw [updO_ne _ _ (fun e => hcy (by rw [e]; rfl)), updO_same, e3]
            rfl
    · cases c with
      | nil => trivial
      | cons z c' =>
        have h2 : Seg h s rb (some x.b) (z :: c') none := hs.2.2
        have hzr : z.b ≠ rb := k.ne (by simp)
        rw [List.map_cons, List.nodup_cons] at nd3
        have haz : lst a ≠ some z.b := fun e => by
          rcases List.eq_nil_or_concat a with rfl | ⟨a', y, rfl⟩
          · cases e
          · rw [List.concat_eq_append, lst_snoc] at e
            injection e with e
            exact hac y (by simp) z List.mem_cons_self e
        refine ⟨?_, ?_⟩
        · unfold rmH
          show updO _ z.b _ z.b = _
          rw [updO_same]
          cases hl : lst a with
          | none =>
            dsimp only
            rw [updO_ne _ _ hzr, h2.1]
            rfl
          | some y =>
            dsimp only
            rw [updO_ne _ _ (fun e => haz (by rw [hl, e])), h2.1]
            rfl
        · refine h2.2.mono fun u hu => rmH_ne (k.ne (by simp [hu])) (fun e => ?_) (fun e => ?_)
          · rcases List.eq_nil_or_concat a with rfl | ⟨a', y, rfl⟩
            · cases e
            · rw [List.concat_eq_append, lst_snoc] at e
              injection e with e
              exact hac y (by simp) u (List.mem_cons_of_mem _ hu) e
          · injection e with e
            exact nd3.1 (by rw [show z.b = u.b from e]; exact List.mem_map_of_mem hu)
  · rw [List.map_append, List.nodup_append]
    exact ⟨nd1, nd3, fun u hu v hv => nd4 u hu v (List.mem_cons_of_mem _ hv)⟩
  · have := k.srt
    rw [List.pairwise_append, List.pairwise_cons] at this
    rw [List.pairwise_append]
    exact ⟨this.1, this.2.1.2, fun u hu v hv => this.2.2 u hu v (List.mem_cons_of_mem _ hv)⟩
  · intro z hz
    refine k.lt z ?_
    rcases List.mem_append.1 hz with hz | hz
    · exact List.mem_append_left _ hz
    · exact List.mem_append_right _ (List.mem_cons_of_mem _ hz)
/-- What a row's change leaves as it was: all but the owner and links of it. -/
theorem rmH_own {bf af : Option Nat} {b : Nat} (hb : b ≠ rb) (h1 : ∀ x, bf = some x → ∃ th pl p q, h x = some (.lk s rb th pl p q)) (h2 : ∀ x, af = some x → ∃ th pl p q, h x = some (.lk s rb th pl p q)) (hn : ∀ th pl p q, h b ≠ some (.lk s rb th pl p q)) : rmH h rb bf af b = h b :=
  rmH_ne hb (fun e => by obtain ⟨_, _, _, _, k⟩ := h1 b e; exact hn _ _ _ _ k) (fun e => by obtain ⟨_, _, _, _, k⟩ := h2 b e; exact hn _ _ _ _ k)
end
end Go.Proofs.Ytkjlmibjpfmfnaa.Sc

set_option linter.unusedVariables false
set_option linter.unusedSimpArgs false
namespace Go.Proofs.Ytkjlmibjpfmfnaa.Sc
open Go.Proofs.Ytkjlmibjpfmfnaa.Words Go.Proofs.Ytkjlmibjpfmfnaa.Chk
/-- All but some blocks and the links that they own has kept. -/
def Off (C : Nat → Prop) (h h' : Hp) : Prop := ∀ b, ¬ C b → h b ≠ none → (∀ s own th pl bf af, h b = some (.lk s own th pl bf af) → ¬ C own) → h' b = h b
def Plain (h : Hp) (b : Nat) : Prop := ∀ s own th pl bf af, h b ≠ some (.lk s own th pl bf af)
section
variable {h h' h2 : Hp} {s : Bool} {b b0 rb ad : Nat} {l a c : List Lk} {x y : Lk} {o : Ob} {r : Rw} {C D : Nat → Prop}
theorem plain_of (hb : h b = some o) (ho : o.isLk = false) : Plain h b := fun s own th pl bf af e => by
  rw [hb] at e
  injection e with e
  subst e
  cases ho
theorem Off.refl (C : Nat → Prop) (h : Hp) : Off C h h := fun _ _ _ _ => rfl
theorem Off.trans (k : Off C h h') (k2 : Off C h' h2) : Off C h h2 := fun b h1 h3 h4 => by
  have e := k b h1 h3 h4
  refine (k2 b h1 (by rw [e]; exact h3) fun s own th pl bf af e2 => h4 s own th pl bf af (by rw [← e]; exact e2)).trans e
theorem Off.mono (k : Off C h h') (hs : ∀ b, C b → D b) : Off D h h' := fun b h1 h3 h4 => k b (fun e => h1 (hs b e)) h3 fun s own th pl bf af e e2 => h4 s own th pl bf af e (hs own e2)
theorem Off.at_ (k : Off C h h') (hb : h b = some o) (ho : o.isLk = false) (hn : ¬ C b) : h' b = some o :=
  (k b hn (by rw [hb]; simp) fun s own th pl bf af e => absurd e (plain_of hb ho s own th pl bf af)).trans hb
theorem Row.off (k : Row h s rb ad l) (hf : Off C h h') (hp : ∀ b, C b → Plain h b) (hn : ¬ C rb) : Row h' s rb ad l := by
  obtain ⟨o, e1, e2⟩ := k.ob
  refine k.mono ((hf.at_ e1 (row_not_lk e2) hn).trans e1.symm) fun x hx => ?_
  obtain ⟨bf, af, e5⟩ := k.seg.at_ x hx
  refine hf x.b (fun e => hp _ e _ _ _ _ _ _ e5) (by rw [e5]; simp) fun s' own th pl bf' af' e => ?_
  rw [e5] at e
  injection e with e
  injection e with _ e
  rw [← e]
  exact hn
theorem Off.upd (h : Hp) (b : Nat) (o : Ob) : Off (fun x => x = b) h (upd h b o) := fun x hx _ _ => upd_ne _ _ hx
/-- What the program's remove asks for. -/
theorem Row.rm_call (k : Row h s rb ad (a ++ x :: c)) : h x.b = some (.lk s rb x.th x.pl (lst a) (hd c)) ∧ (∀ y, lst a = some y → y ≠ x.b ∧ ∃ own th pl p q, h y = some (.lk s own th pl p q)) ∧ ∀ y, hd c = some y → y ≠ x.b ∧ lst a ≠ some y ∧ ∃ own th pl p q, h y = some (.lk s own th pl p q) := by
  have hs := (seg_app a none).1 k.seg
  have hnd := k.nd
  rw [List.map_append, List.map_cons, List.nodup_append, List.nodup_cons] at hnd
  have hla : ∀ y, lst a = some y → ∃ z ∈ a, z.b = y := fun y e => by
    rcases List.eq_nil_or_concat a with rfl | ⟨a', z, rfl⟩
    · cases e
    · rw [List.concat_eq_append, lst_snoc] at e
      injection e with e
      exact ⟨z, by simp, e⟩
  have hlc : ∀ y, hd c = some y → ∃ z ∈ c, z.b = y := fun y e => by
    cases c with
    | nil => cases e
    | cons z c' => injection e with e; exact ⟨z, by simp, e⟩
  refine ⟨?_, fun y e => ?_, fun y e => ?_⟩
  · have := hs.2.1
    rw [Option.or_none, Option.or_none] at this
    exact this
  · obtain ⟨z, hz, rfl⟩ := hla y e
    obtain ⟨bf, af, e2⟩ := k.seg.at_ z (by simp [hz])
    exact ⟨hnd.2.2 _ (List.mem_map_of_mem hz) _ List.mem_cons_self, _, _, _, _, _, e2⟩
  · obtain ⟨z, hz, rfl⟩ := hlc y e
    obtain ⟨bf, af, e2⟩ := k.seg.at_ z (by simp [hz])
    refine ⟨fun e3 => hnd.2.1.1 (by rw [← e3]; exact List.mem_map_of_mem hz), fun e3 => ?_, _, _, _, _, _, e2⟩
    obtain ⟨z2, hz2, e4⟩ := hla _ e3
    exact hnd.2.2 _ (List.mem_map_of_mem hz2) _ (List.mem_cons_of_mem _ (List.mem_map_of_mem hz)) e4
/-- What the program's add asks for. -/
theorem Row.add_call (k : Row h s rb ad l) : (lst l = none → hd l = none) ∧ ∀ y, lst l = some y → ∃ own th pl bf, h y = some (.lk s own th pl bf none) := by
  rcases List.eq_nil_or_concat l with rfl | ⟨a', z, rfl⟩
  · exact ⟨fun _ => rfl, fun y e => (by cases e)⟩
  · rw [List.concat_eq_append] at k ⊢
    rw [lst_snoc]
    refine ⟨fun e => (by cases e), fun y e => ?_⟩
    injection e with e
    have hs := (seg_app a' none).1 k.seg
    have := hs.2.1
    rw [e] at this
    exact ⟨_, _, _, _, this⟩
theorem Off.rm (k : Row h s rb ad (a ++ x :: c)) : Off (fun x => x = rb) h (rmH h rb (lst a) (hd c)) := by
  intro b hb _ hn
  refine rmH_own (s := s) hb (fun z hz => ?_) (fun z hz => ?_) (fun th pl p q e => hn _ _ _ _ _ _ e rfl)
  · rcases List.eq_nil_or_concat a with rfl | ⟨a', y, rfl⟩
    · cases hz
    · rw [List.concat_eq_append, lst_snoc] at hz
      injection hz with hz
      subst hz
      obtain ⟨bf, af, e⟩ := k.seg.at_ y (by simp)
      exact ⟨_, _, _, _, e⟩
  · cases c with
    | nil => cases hz
    | cons y c' =>
      injection hz with hz
      obtain ⟨bf, af, e⟩ := k.seg.at_ y (by simp)
      exact ⟨_, _, _, _, by rw [← hz]; exact e⟩
theorem Row.rm_ob (k : Row h s rb ad (a ++ x :: c)) (e : h rb = some o) : ∃ r, rmH h rb (lst a) (hd c) rb = some (o.setR r) := by
  refine ⟨_, rmH_rb e (k.ob_eq e) (fun e2 => ?_) (fun e2 => ?_)⟩
  · rcases List.eq_nil_or_concat a with rfl | ⟨a', y, rfl⟩
    · cases e2
    · rw [List.concat_eq_append, lst_snoc] at e2
      injection e2 with e2
      exact k.ne (x := y) (by simp) e2
  · cases c with
    | nil => cases e2
    | cons y c' => injection e2 with e2; exact k.ne (x := y) (by simp) e2
theorem Off.add {th nb : Nat} (k : Row h s rb ad l) (hn : h nb = none) : Off (fun x => x = rb) h (addH h s rb o ⟨hd l, lst l, ad⟩ th nb) := by
  intro b hb h0 hk
  refine addH_ne (fun e => h0 (by rw [e, hn])) hb fun e => ?_
  rcases List.eq_nil_or_concat l with rfl | ⟨a', y, rfl⟩
  · cases e
  · rw [List.concat_eq_append] at e k
    rw [show (⟨hd (a' ++ [y]), lst (a' ++ [y]), ad⟩ : Rw).ls = some y.b from lst_snoc a' y] at e
    injection e with e
    obtain ⟨bf, af, e2⟩ := k.seg.at_ y (by simp)
    rw [e] at e2
    exact hk _ _ _ _ _ _ e2 rfl
/-- The owner's other cells turn. -/
theorem Row.updO (k : Row h s rb ad l) {o o' : Ob} (e : h rb = some o) (e1 : o'.row = o.row) : Row (upd h rb o') s rb ad l :=
  k.mono2 (upd_same _ _ _) (fun o2 e2 => by rw [e] at e2; injection e2 with e2; rw [← e2]; exact e1) fun x hx => upd_ne _ _ (k.ne hx)
end
/-- A message that waits, and where it stands. -/
structure GM where
  it : It
  mb : Nat
  lb : Nat
  pl : Nat
  nb : Nat
  A : Option Addr
  cp : Nat
structure GL where
  st : Nat
  sb : Nat
  lb : Nat
  pl : Nat
  ad : Nat
  ms : List GM
structure NR where
  rb : Nat
  ad : Nat
  l : List Lk
structure Gh where
  gl : List GL
  ad : Nat
  N : Int → Option NR
  sm : Nat → Option Nat
def GM.me (sb : Nat) (x : GM) : Me := ⟨x.it, x.A, x.cp, some sb, some x.lb, some x.nb⟩
def GM.lk (x : GM) : Lk := ⟨x.lb, x.mb, x.pl⟩
def GL.lk (g : GL) : Lk := ⟨g.lb, g.sb, g.pl⟩
def GL.its (g : GL) : List It := g.ms.map GM.it
def bytesG (gl : List GL) : Nat := (gl.map fun g => bytesI g.its).sum
structure LineOk (h : Hp) (g : GL) : Prop where
  ob : ∃ r, h g.sb = some (.st (bytesI g.its) r (some g.lb))
  row : Row h false g.sb g.ad (g.ms.map GM.lk)
  ms : ∀ x ∈ g.ms, h x.mb = some (.ms (x.me g.sb))
/-- What is told of the heap. -/
structure RepH (h : Hp) (p : Nat) (gh : Gh) : Prop where
  q : ∃ r, h p = some (.q (bytesG gh.gl) r)
  turns : Row h true p gh.ad (gh.gl.map GL.lk)
  line : ∀ g ∈ gh.gl, LineOk h g
  num : ∀ id n, gh.N id = some n → (∃ r, h n.rb = some (.rw r)) ∧ Row h false n.rb n.ad n.l
/-- What is told of the ghosts alone. -/
structure RepG (gh : Gh) : Prop where
  ne : ∀ g ∈ gh.gl, g.ms ≠ []
  sbs : (gh.gl.map GL.sb).Nodup
  sts : (gh.gl.map GL.st).Nodup
  nn : ∀ id n, gh.N id = some n → n.l ≠ []
  inj : ∀ id id' n n', gh.N id = some n → gh.N id' = some n' → n.rb = n'.rb → id = id'
  mn : ∀ g ∈ gh.gl, ∀ x ∈ g.ms, ∃ n pl, gh.N x.it.id = some n ∧ (⟨x.nb, x.mb, pl⟩ : Lk) ∈ n.l
  nm : ∀ id n, gh.N id = some n → ∀ y ∈ n.l, ∃ g ∈ gh.gl, ∃ x ∈ g.ms, x.mb = y.th ∧ x.nb = y.b ∧ x.it.id = id
  sm1 : ∀ g ∈ gh.gl, gh.sm g.st = some g.sb
  sm2 : ∀ st sb, gh.sm st = some sb → ∃ g ∈ gh.gl, g.st = st ∧ g.sb = sb
section
variable {h h' : Hp} {p b b0 : Nat} {gh : Gh} {g g' : GL} {x x' : GM} {o : Ob} {C : Nat → Prop}
theorem LineOk.off (k : LineOk h g) (hf : Off C h h') (hp : ∀ b, C b → Plain h b) (h1 : ¬ C g.sb) (h2 : ∀ x ∈ g.ms, ¬ C x.mb) : LineOk h' g := by
  obtain ⟨r, e⟩ := k.ob
  exact ⟨⟨r, hf.at_ e rfl h1⟩, k.row.off hf hp h1, fun x hx => hf.at_ (k.ms x hx) rfl (h2 x hx)⟩
theorem nodup_inj {α β : Type} {f : α → β} : ∀ {l : List α}, (l.map f).Nodup → ∀ {a b : α}, a ∈ l → b ∈ l → f a = f b → a = b
  | [], _, _, _, h, _, _ => (by cases h)
  | z :: l, hn, a, b, ha, hb, e => by
    rw [List.map_cons, List.nodup_cons] at hn
    rcases List.mem_cons.1 ha with e1 | ha' <;> rcases List.mem_cons.1 hb with e2 | hb'
    · rw [e1, e2]
    · rw [e1] at e
      exact absurd (by rw [e]; exact List.mem_map_of_mem hb') hn.1
    · rw [e2] at e
      exact absurd (by rw [← e]; exact List.mem_map_of_mem ha') hn.1
    · exact nodup_inj hn.2 ha' hb' e
/-- A message's block tells which it is. -/
theorem RepH.mb_inj (k : RepH h p gh) (kg : RepG gh) (hg : g ∈ gh.gl) (hg' : g' ∈ gh.gl) (hx : x ∈ g.ms) (hx' : x' ∈ g'.ms) (e : x.mb = x'.mb) : g = g' ∧ x = x' := by
  have e1 := (k.line g hg).ms x hx
  have e2 := (k.line g' hg').ms x' hx'
  rw [e, e2] at e1
  injection e1 with e1
  injection e1 with e1
  unfold GM.me at e1
  injection e1 with _ _ _ e3 e4 _
  injection e3 with e3
  injection e4 with e4
  have eg := nodup_inj kg.sbs hg hg' e3.symm
  subst eg
  refine ⟨rfl, ?_⟩
  have hnd := (k.line g hg).row.nd
  rw [List.map_map] at hnd
  exact nodup_inj (f := (fun y : Lk => y.b) ∘ GM.lk) hnd hx hx' e4.symm
def cntH (h : Hp) (p sb : Nat) (bs bq : Nat) : Hp := fun y => if y = p then (h y).map fun o => match o with | .q _ r => .q bq r | o => o else if y = sb then (h y).map fun o => match o with | .st _ r t => .st bs r t | o => o else h y
theorem bytesG_app (a c : List GL) : bytesG (a ++ c) = bytesG a + bytesG c := by simp [bytesG]
theorem bytesG_cons (g : GL) (c : List GL) : bytesG (g :: c) = bytesI g.its + bytesG c := by simp [bytesG]
theorem bytesI_ap (a b : List It) : bytesI (a ++ b) = bytesI a + bytesI b := by simp [bytesI]
theorem bytesI_cs (i : It) (l : List It) : bytesI (i :: l) = i.m.body.length + bytesI l := by simp [bytesI]
/-- Bytes are counted. -/
theorem cnt_off {q sb : Nat} (bs bq : Nat) : Off (fun y => y = q ∨ y = sb) h (cntH h q sb bs bq) := fun y hy _ _ => by
  unfold cntH
  rw [if_neg (fun e => hy (.inl e)), if_neg (fun e => hy (.inr e))]
structure Rmv (h : Hp) (p : Nat) (gh : Gh) (ga gc : List GL) (g : GL) (a c : List GM) (x : GM) (n : NR) (na nc : List Lk) (pl : Nat) : Prop where
  gl : gh.gl = ga ++ g :: gc
  ms : g.ms = a ++ x :: c
  nr : gh.N x.it.id = some n
  l : n.l = na ++ ⟨x.nb, x.mb, pl⟩ :: nc
def rmvH (h : Hp) (p : Nat) (gh : Gh) (ga gc : List GL) (g : GL) (a c : List GM) (x : GM) (n : NR) (na nc : List Lk) : Hp :=
  let h1 := cntH h p g.sb (bytesI g.its - x.it.m.body.length) (bytesG gh.gl - x.it.m.body.length)
  let h2 := rmH h1 g.sb (lst (a.map GM.lk)) (hd (c.map GM.lk))
  let h3 := if a ++ c = [] then rmH h2 p (lst (ga.map GL.lk)) (hd (gc.map GL.lk)) else h2
  rmH h3 n.rb (lst na) (hd nc)
def rmvG (gh : Gh) (ga gc : List GL) (g : GL) (a c : List GM) (x : GM) (n : NR) (na nc : List Lk) : Gh where
  gl := if a ++ c = [] then ga ++ gc else ga ++ { g with ms := a ++ c } :: gc
  ad := gh.ad
  N := fun id => if id = x.it.id then (if na ++ nc = [] then none else some { n with l := na ++ nc }) else gh.N id
  sm := if a ++ c = [] then fun st => if st = g.st then none else gh.sm st else gh.sm
theorem RepH.p_ne (k : RepH h p gh) (hg : g ∈ gh.gl) : g.sb ≠ p := fun e => by
  obtain ⟨r, e1⟩ := k.q
  obtain ⟨r2, e2⟩ := (k.line g hg).ob
  rw [e, e1] at e2
  cases e2
/-- The heaps on the way, and what they hold. -/
structure RmvD (h : Hp) (p : Nat) (gh : Gh) (ga gc : List GL) (g : GL) (a c : List GM) (x : GM) (n : NR) (na nc : List Lk) (h1 h2 h3 h4 : Hp) : Prop where
  e1 : h1 = cntH h p g.sb (bytesI g.its - x.it.m.body.length) (bytesG gh.gl - x.it.m.body.length)
  e2 : h2 = rmH h1 g.sb (lst (a.map GM.lk)) (hd (c.map GM.lk))
  e3 : h3 = if a ++ c = [] then rmH h2 p (lst (ga.map GL.lk)) (hd (gc.map GL.lk)) else h2
  e4 : h4 = rmH h3 n.rb (lst na) (hd nc)
  q1 : ∃ r, h1 p = some (.q (bytesG gh.gl - x.it.m.body.length) r)
  s1 : ∃ r, h1 g.sb = some (.st (bytesI g.its - x.it.m.body.length) r (some g.lb))
  G1 : Row h1 false g.sb g.ad (a.map GM.lk ++ x.lk :: c.map GM.lk)
  q2 : ∃ r, h2 p = some (.q (bytesG gh.gl - x.it.m.body.length) r)
  s2 : ∃ r, h2 g.sb = some (.st (bytesI g.its - x.it.m.body.length) r (some g.lb))
  G2 : Row h2 false g.sb g.ad ((a ++ c).map GM.lk)
  T2 : Row h2 true p gh.ad (ga.map GL.lk ++ g.lk :: gc.map GL.lk)
  q3 : ∃ r, h3 p = some (.q (bytesG gh.gl - x.it.m.body.length) r)
  n3 : ∃ r, h3 n.rb = some (.rw r)
  R3 : ∀ pl, n.l = na ++ ⟨x.nb, x.mb, pl⟩ :: nc → Row h3 false n.rb n.ad (na ++ ⟨x.nb, x.mb, pl⟩ :: nc)
  n4 : ∃ r, h4 n.rb = some (.rw r)
  R4 : Row h4 false n.rb n.ad (na ++ nc)
  q4 : ∃ r, h4 p = some (.q (bytesG gh.gl - x.it.m.body.length) r)
  m1 : h1 x.mb = some (.ms (x.me g.sb))
  m2 : h2 x.mb = some (.ms (x.me g.sb))
  m3 : h3 x.mb = some (.ms (x.me g.sb))
  m4 : h4 x.mb = some (.ms (x.me g.sb))
  s4 : ∃ r, h4 g.sb = some (.st (bytesI g.its - x.it.m.body.length) r (some g.lb)) ∧ r.fs = hd ((a ++ c).map GM.lk)
  off : Off (fun y => y = p ∨ y = g.sb ∨ y = n.rb) h h4
  pln : ∀ b, (b = p ∨ b = g.sb ∨ b = n.rb) → Plain h b
  rep : RepH h4 p (rmvG gh ga gc g a c x n na nc)
theorem RepH.rmv {ga gc : List GL} {a c : List GM} {n : NR} {na nc : List Lk} {pl : Nat} (k : RepH h p gh) (kg : RepG gh) (m : Rmv h p gh ga gc g a c x n na nc pl) : ∃ h1 h2 h3, RmvD h p gh ga gc g a c x n na nc h1 h2 h3 (rmvH h p gh ga gc g a c x n na nc) := by
  have hg : g ∈ gh.gl := by rw [m.gl]; simp
  have hx : x ∈ g.ms := by rw [m.ms]; simp
  obtain ⟨rq, eq⟩ := k.q
  have L := k.line g hg
  obtain ⟨rs, es⟩ := L.ob
  obtain ⟨⟨rn, en⟩, R⟩ := k.num _ _ m.nr
  have hsp := k.p_ne hg
  have hnp : n.rb ≠ p := fun e => by rw [e, eq] at en; cases en
  have hns : n.rb ≠ g.sb := fun e => by rw [e, es] at en; cases en
  obtain ⟨h1, eh1⟩ : ∃ h1, h1 = cntH h p g.sb (bytesI g.its - x.it.m.body.length) (bytesG gh.gl - x.it.m.body.length) := ⟨_, rfl⟩
  obtain ⟨h2, eh2⟩ : ∃ h2, h2 = rmH h1 g.sb (lst (a.map GM.lk)) (hd (c.map GM.lk)) := ⟨_, rfl⟩
  obtain ⟨h3, eh3⟩ : ∃ h3, h3 = if a ++ c = [] then rmH h2 p (lst (ga.map GL.lk)) (hd (gc.map GL.lk)) else h2 := ⟨_, rfl⟩
  obtain ⟨h4, eh4⟩ : ∃ h4, h4 = rmH h3 n.rb (lst na) (hd nc) := ⟨_, rfl⟩
  have e4 : rmvH h p gh ga gc g a c x n na nc = h4 := by rw [eh4, eh3, eh2, eh1]; rfl
  rw [e4]
  refine ⟨h1, h2, h3, ?_⟩
  -- the count
  have o1 : Off (fun y => y = p ∨ y = g.sb) h h1 := by rw [eh1]; exact cnt_off _ _
  have q1 : h1 p = some (.q (bytesG gh.gl - x.it.m.body.length) rq) := by rw [eh1]; unfold cntH; rw [if_pos rfl, eq]; rfl
  have s1 : h1 g.sb = some (.st (bytesI g.its - x.it.m.body.length) rs (some g.lb)) := by rw [eh1]; unfold cntH; rw [if_neg hsp, if_pos rfl, es]; rfl
  have P0 : ∀ b, (b = p ∨ b = g.sb ∨ b = n.rb) → Plain h b := fun b e => by
    rcases e with rfl | rfl | rfl
    · exact plain_of eq rfl
    · exact plain_of es rfl
    · exact plain_of en rfl
  have hk1 : ∀ b s own th pl bf af, h b = some (.lk s own th pl bf af) → h1 b = some (.lk s own th pl bf af) := fun b s own th pl bf af e => by
    rw [← e, eh1]
    unfold cntH
    rw [if_neg (fun e2 => P0 b (.inl e2) _ _ _ _ _ _ e), if_neg (fun e2 => P0 b (.inr (.inl e2)) _ _ _ _ _ _ e)]
  have T1 : Row h1 true p gh.ad (gh.gl.map GL.lk) := k.turns.mono2 q1 (fun o e => by rw [eq] at e; injection e with e; rw [← e]; rfl) fun y hy => by
    obtain ⟨bf, af, e⟩ := k.turns.seg.at_ y hy
    rw [hk1 _ _ _ _ _ _ _ e, e]
  have G1 : Row h1 false g.sb g.ad (g.ms.map GM.lk) := L.row.mono2 s1 (fun o e => by rw [es] at e; injection e with e; rw [← e]; rfl) fun y hy => by
    obtain ⟨bf, af, e⟩ := L.row.seg.at_ y hy
    rw [hk1 _ _ _ _ _ _ _ e, e]
  -- out of the stream's row
  rw [m.ms, List.map_append, List.map_cons] at G1
  have G2 : Row h2 false g.sb g.ad ((a ++ c).map GM.lk) := by rw [eh2, List.map_append]; exact G1.remove
  have o2 : Off (fun y => y = g.sb) h1 h2 := by rw [eh2]; exact Off.rm G1
  have P1 : ∀ b, b = g.sb → Plain h1 b := fun b e => by rw [e]; exact plain_of s1 rfl
  have T2 : Row h2 true p gh.ad (gh.gl.map GL.lk) := T1.off o2 P1 (Ne.symm hsp)
  have q2 : h2 p = some (.q (bytesG gh.gl - x.it.m.body.length) rq) := o2.at_ q1 rfl (Ne.symm hsp)
  obtain ⟨r2, s2⟩ : ∃ r2, h2 g.sb = some (.st (bytesI g.its - x.it.m.body.length) r2 (some g.lb)) := by
    obtain ⟨r, e⟩ := G1.rm_ob s1
    exact ⟨r, by rw [eh2]; exact e⟩
  -- its line
  have o3 : Off (fun y => y = p) h2 h3 := by
    rw [eh3]
    split
    · rw [m.gl, List.map_append, List.map_cons] at T2
      exact Off.rm T2
    · exact Off.refl _ _
  have T3 : Row h3 true p gh.ad ((if a ++ c = [] then ga ++ gc else ga ++ { g with ms := a ++ c } :: gc).map GL.lk) := by
    rw [eh3]
    split
    · rw [m.gl, List.map_append, List.map_cons] at T2
      rw [List.map_append]
      exact T2.remove
    · rw [m.gl] at T2
      rw [List.map_append, List.map_cons] at T2 ⊢
      exact T2
  obtain ⟨r3, q3⟩ : ∃ r3, h3 p = some (.q (bytesG gh.gl - x.it.m.body.length) r3) := by
    rw [eh3]
    split
    · rw [m.gl, List.map_append, List.map_cons] at T2
      obtain ⟨r, e⟩ := T2.rm_ob q2
      exact ⟨r, e⟩
    · exact ⟨_, q2⟩
  have P2 : ∀ b, b = p → Plain h2 b := fun b e => by rw [e]; exact plain_of q2 rfl
  have G3 : Row h3 false g.sb g.ad ((a ++ c).map GM.lk) := G2.off o3 P2 hsp
  have s3 := o3.at_ s2 rfl hsp
  -- the number's row
  have o03 : Off (fun y => y = p ∨ y = g.sb) h h3 := (o1.trans (o2.mono fun b e => .inr e)).trans (o3.mono fun b e => .inl e)
  have R3 : Row h3 false n.rb n.ad n.l := R.off o03 (fun b e => P0 b (e.imp id .inl)) (fun e => e.elim hnp hns)
  have n3 := o03.at_ en rfl (fun e => e.elim hnp hns)
  rw [m.l] at R3
  have R4 : Row h4 false n.rb n.ad (na ++ nc) := by rw [eh4]; exact R3.remove
  have o4 : Off (fun y => y = n.rb) h3 h4 := by rw [eh4]; exact Off.rm R3
  have P3 : ∀ b, b = n.rb → Plain h3 b := fun b e => by rw [e]; exact plain_of n3 rfl
  have n4 : ∃ r, h4 n.rb = some (.rw r) := by
    obtain ⟨r, e⟩ := R3.rm_ob n3
    exact ⟨r, by rw [eh4]; exact e⟩
  have o04 : Off (fun y => y = p ∨ y = g.sb ∨ y = n.rb) h h4 := (o03.mono fun b e => e.imp id .inl).trans (o4.mono fun b e => .inr (.inr e))
  have hb : bytesI g.its = bytesI ((a ++ c).map GM.it) + x.it.m.body.length := by
    show bytesI (g.ms.map GM.it) = _
    rw [m.ms, List.map_append, List.map_cons, List.map_append, bytesI_ap, bytesI_ap, bytesI_cs]
    omega
  have hall : bytesG gh.gl = bytesG (if a ++ c = [] then ga ++ gc else ga ++ { g with ms := a ++ c } :: gc) + x.it.m.body.length := by
    rw [m.gl, bytesG_app, bytesG_cons, hb]
    split
    · rename_i e
      rw [e, bytesG_app]
      show _ + (0 + _ + _) = _
      omega
    · rw [bytesG_app, bytesG_cons]
      show _ = _ + (bytesI ((a ++ c).map GM.it) + _) + _
      omega
  have hother : ∀ g' ∈ ga ++ gc, LineOk h4 g' := fun g' hg' => by
    have hm : g' ∈ gh.gl := by
      rw [m.gl]
      rcases List.mem_append.1 hg' with h9 | h9
      · exact List.mem_append_left _ h9
      · exact List.mem_append_right _ (List.mem_cons_of_mem _ h9)
    have hne : g'.sb ≠ g.sb := fun e => by
      have hn := kg.sbs
      rw [m.gl, List.map_append, List.map_cons, List.nodup_append, List.nodup_cons] at hn
      rcases List.mem_append.1 hg' with h9 | h9
      · exact hn.2.2 _ (List.mem_map_of_mem h9) _ List.mem_cons_self e
      · exact hn.2.1.1 (by rw [← e]; exact List.mem_map_of_mem h9)
    have L' := k.line g' hm
    obtain ⟨r', e'⟩ := L'.ob
    refine L'.off o04 P0 (fun e => ?_) (fun y hy e => ?_)
    · rcases e with e | e | e
      · exact k.p_ne hm e
      · exact hne e
      · rw [e, en] at e'; cases e'
    · have e9 := L'.ms y hy
      rcases e with e | e | e
      · rw [e, eq] at e9; cases e9
      · rw [e, es] at e9; cases e9
      · rw [e, en] at e9; cases e9
  have hmine : LineOk h4 { g with ms := a ++ c } := by
    refine ⟨⟨r2, ?_⟩, G3.off o4 P3 (Ne.symm hns), fun y hy => ?_⟩
    · have := o4.at_ s3 rfl (Ne.symm hns)
      rw [hb, Nat.add_sub_cancel] at this
      exact this
    · have e9 := L.ms y (by
        rw [m.ms]
        rcases List.mem_append.1 hy with h9 | h9
        · exact List.mem_append_left _ h9
        · exact List.mem_append_right _ (List.mem_cons_of_mem _ h9))
      refine o04.at_ e9 rfl fun e => ?_
      rcases e with e | e | e
      · rw [e, eq] at e9; cases e9
      · rw [e, es] at e9; cases e9
      · rw [e, en] at e9; cases e9
  have hmx := L.ms x hx
  have hm0 : ¬ (x.mb = p ∨ x.mb = g.sb ∨ x.mb = n.rb) := fun e => by
    rcases e with e | e | e
    · rw [e, eq] at hmx; cases hmx
    · rw [e, es] at hmx; cases hmx
    · rw [e, en] at hmx; cases hmx
  have m1 := o1.at_ hmx rfl (fun e => hm0 (e.imp id .inl))
  have m2 := o2.at_ m1 rfl (fun e => hm0 (.inr (.inl e)))
  have m3 := o3.at_ m2 rfl (fun e => hm0 (.inl e))
  have m4 := o4.at_ m3 rfl (fun e => hm0 (.inr (.inr e)))
  have T2' := T2
  rw [m.gl, List.map_append, List.map_cons] at T2'
  have s4 := o4.at_ s3 rfl (Ne.symm hns)
  refine ⟨eh1, eh2, eh3, eh4, ⟨rq, q1⟩, ⟨rs, s1⟩, G1, ⟨rq, q2⟩, ⟨r2, s2⟩, G2, T2', ⟨r3, q3⟩, ⟨_, n3⟩, fun pl' e => by rw [← e, m.l]; exact R3, n4, R4, ⟨r3, o4.at_ q3 rfl (Ne.symm hnp)⟩, m1, m2, m3, m4, ⟨r2, s4, ?_⟩, o04, P0, ?_⟩
  · have := (G3.off o4 P3 (Ne.symm hns)).ob_eq s4
    injection this with this
    rw [this]
  refine ⟨⟨r3, ?_⟩, T3.off o4 P3 (Ne.symm hnp), fun g' hg' => ?_, fun id n' hn' => ?_⟩
  · have := o4.at_ q3 rfl (Ne.symm hnp)
    rw [hall, Nat.add_sub_cancel] at this
    exact this
  · have hg2 : g' ∈ (if a ++ c = [] then ga ++ gc else ga ++ { g with ms := a ++ c } :: gc) := hg'
    split at hg2
    · exact hother g' hg2
    · rcases List.mem_append.1 hg2 with h9 | h9
      · exact hother g' (List.mem_append_left _ h9)
      · rcases List.mem_cons.1 h9 with h9 | h9
        · rw [h9]; exact hmine
        · exact hother g' (List.mem_append_right _ h9)
  · have hn2 : (if id = x.it.id then (if na ++ nc = [] then none else some { n with l := na ++ nc }) else gh.N id) = some n' := hn'
    split at hn2
    · split at hn2
      · cases hn2
      · injection hn2 with hn2
        subst hn2
        exact ⟨n4, R4⟩
    · rename_i hid
      obtain ⟨⟨r', e'⟩, R'⟩ := k.num _ _ hn2
      have hC : ¬ (n'.rb = p ∨ n'.rb = g.sb ∨ n'.rb = n.rb) := fun e => by
        rcases e with e | e | e
        · rw [e, eq] at e'; cases e'
        · rw [e, es] at e'; cases e'
        · exact hid (kg.inj _ _ _ _ hn2 m.nr e)
      exact ⟨⟨r', o04.at_ e' rfl hC⟩, R'.off o04 P0 hC⟩
end
end Go.Proofs.Ytkjlmibjpfmfnaa.Sc

set_option linter.unusedVariables false
set_option linter.unusedSimpArgs false
namespace Go.Proofs.Ytkjlmibjpfmfnaa.Sc
open Go.Proofs.Ytkjlmibjpfmfnaa.Words Go.Proofs.Ytkjlmibjpfmfnaa.Chk
section
variable {h h' : Hp} {p b b0 : Nat} {gh : Gh} {g g' : GL} {x x' : GM} {ga gc : List GL} {a c : List GM} {n : NR} {na nc : List Lk} {pl : Nat}
def glR (ga gc : List GL) (g : GL) (a c : List GM) : List GL := if a ++ c = [] then ga ++ gc else ga ++ { g with ms := a ++ c } :: gc
theorem Rmv.x_not (k : RepH h p gh) (m : Rmv h p gh ga gc g a c x n na nc pl) : x ∉ a ++ c := fun hx => by
  have hnd := (k.line g (by rw [m.gl]; simp)).row.nd
  rw [m.ms, List.map_map, List.map_append, List.map_cons, List.nodup_append, List.nodup_cons] at hnd
  rcases List.mem_append.1 hx with h1 | h1
  · exact hnd.2.2 _ (List.mem_map_of_mem h1) _ List.mem_cons_self rfl
  · exact hnd.2.1.1 (List.mem_map_of_mem h1)
theorem Rmv.fwd (m : Rmv h p gh ga gc g a c x n na nc pl) {g1 : GL} {x1 : GM} (h1 : g1 ∈ gh.gl) (h2 : x1 ∈ g1.ms) (h3 : x1 ≠ x) : ∃ g2 ∈ glR ga gc g a c, x1 ∈ g2.ms ∧ g2.st = g1.st ∧ g2.sb = g1.sb := by
  rw [m.gl] at h1
  have hcase : g1 ∈ ga ++ gc ∨ g1 = g := by
    rcases List.mem_append.1 h1 with h9 | h9
    · exact .inl (List.mem_append_left _ h9)
    · rcases List.mem_cons.1 h9 with h9 | h9
      · exact .inr h9
      · exact .inl (List.mem_append_right _ h9)
  rcases hcase with h9 | rfl
  · refine ⟨g1, ?_, h2, rfl, rfl⟩
    unfold glR
    split
    · exact h9
    · rcases List.mem_append.1 h9 with h9 | h9
      · exact List.mem_append_left _ h9
      · exact List.mem_append_right _ (List.mem_cons_of_mem _ h9)
  · have h4 : x1 ∈ a ++ c := by
      rw [m.ms] at h2
      rcases List.mem_append.1 h2 with h9 | h9
      · exact List.mem_append_left _ h9
      · rcases List.mem_cons.1 h9 with h9 | h9
        · exact absurd h9 h3
        · exact List.mem_append_right _ h9
    refine ⟨{ g1 with ms := a ++ c }, ?_, h4, rfl, rfl⟩
    unfold glR
    rw [if_neg (fun e => by rw [e] at h4; cases h4)]
    simp
theorem Rmv.bwd (k : RepH h p gh) (m : Rmv h p gh ga gc g a c x n na nc pl) {g2 : GL} (h1 : g2 ∈ glR ga gc g a c) : ∃ g1 ∈ gh.gl, g2.st = g1.st ∧ g2.sb = g1.sb ∧ g2.ms ⊆ g1.ms ∧ (g2.ms = [] → g1.ms = []) ∧ (g1 = g → g2.ms = a ++ c) := by
  have hord : ∀ y ∈ ga ++ gc, ∃ g1 ∈ gh.gl, y.st = g1.st ∧ y.sb = g1.sb ∧ y.ms ⊆ g1.ms ∧ (y.ms = [] → g1.ms = []) ∧ (g1 = g → y = g1) := fun y hy => by
    refine ⟨y, ?_, rfl, rfl, fun _ h => h, fun h => h, fun _ => rfl⟩
    rw [m.gl]
    rcases List.mem_append.1 hy with h9 | h9
    · exact List.mem_append_left _ h9
    · exact List.mem_append_right _ (List.mem_cons_of_mem _ h9)
  have hT := k.turns.nd
  rw [List.map_map, m.gl, List.map_append, List.map_cons, List.nodup_append, List.nodup_cons] at hT
  have hnot : ∀ y ∈ ga ++ gc, y ≠ g := fun y hy e => by
    subst e
    rcases List.mem_append.1 hy with h9 | h9
    · exact hT.2.2 _ (List.mem_map_of_mem h9) _ List.mem_cons_self rfl
    · exact hT.2.1.1 (List.mem_map_of_mem h9)
  have hold : ∀ y ∈ ga ++ gc, ∃ g1 ∈ gh.gl, y.st = g1.st ∧ y.sb = g1.sb ∧ y.ms ⊆ g1.ms ∧ (y.ms = [] → g1.ms = []) ∧ (g1 = g → y.ms = a ++ c) := fun y hy => by
    obtain ⟨g1, e1, e2, e3, e4, e5, e6⟩ := hord y hy
    exact ⟨g1, e1, e2, e3, e4, e5, fun e => absurd ((e6 e).trans e) (hnot y hy)⟩
  unfold glR at h1
  split at h1
  · exact hold _ h1
  · rename_i hne
    rcases List.mem_append.1 h1 with h9 | h9
    · exact hold _ (List.mem_append_left _ h9)
    · rcases List.mem_cons.1 h9 with rfl | h9
      · refine ⟨g, by rw [m.gl]; simp, rfl, rfl, fun y hy => ?_, fun e => absurd e hne, fun _ => rfl⟩
        rw [m.ms]
        rcases List.mem_append.1 hy with h9 | h9
        · exact List.mem_append_left _ h9
        · exact List.mem_append_right _ (List.mem_cons_of_mem _ h9)
      · exact hold _ (List.mem_append_right _ h9)
theorem glR_nodup {β : Type} (f : GL → β) (hf : f { g with ms := a ++ c } = f g) (hn : ((ga ++ g :: gc).map f).Nodup) : ((glR ga gc g a c).map f).Nodup := by
  rw [List.map_append, List.map_cons] at hn
  unfold glR
  split
  · rw [List.map_append]
    rw [List.nodup_append, List.nodup_cons] at hn
    rw [List.nodup_append]
    exact ⟨hn.1, hn.2.1.2, fun u hu v hv => hn.2.2 u hu v (List.mem_cons_of_mem _ hv)⟩
  · rw [List.map_append, List.map_cons, hf]
    exact hn
theorem RepG.rmv (k : RepH h p gh) (kg : RepG gh) (m : Rmv h p gh ga gc g a c x n na nc pl) : RepG (rmvG gh ga gc g a c x n na nc) := by
  have hg : g ∈ gh.gl := by rw [m.gl]; simp
  have hxm : x ∈ g.ms := by rw [m.ms]; simp
  have hxn := m.x_not k
  obtain ⟨_, R⟩ := k.num _ _ m.nr
  have hgl : (rmvG gh ga gc g a c x n na nc).gl = glR ga gc g a c := rfl
  have hN : ∀ id, (rmvG gh ga gc g a c x n na nc).N id = if id = x.it.id then (if na ++ nc = [] then none else some { n with l := na ++ nc }) else gh.N id := fun _ => rfl
  have hx2 : ∀ g2 ∈ glR ga gc g a c, ∀ y ∈ g2.ms, ∃ g1 ∈ gh.gl, y ∈ g1.ms ∧ y ≠ x := fun g2 h2 y hy => by
    obtain ⟨g1, e1, _, _, e4, _, e6⟩ := m.bwd k h2
    refine ⟨g1, e1, e4 hy, fun e => ?_⟩
    have hy1 := e4 hy
    rw [e] at hy1
    have e7 := (k.mb_inj kg e1 hg hy1 hxm rfl).1
    rw [e6 e7, e] at hy
    exact hxn hy
  have hs : (rmvG gh ga gc g a c x n na nc).sm = if a ++ c = [] then fun st => if st = g.st then none else gh.sm st else gh.sm := rfl
  refine ⟨fun g2 h2 e => ?_, ?_, ?_, fun id n' hn' => ?_, fun id id' n1 n2 h1 h2 e => ?_, fun g2 h2 y hy => ?_, fun id n' hn' y hy => ?_, fun g2 h2 => ?_, fun st sb h2 => ?_⟩
  · obtain ⟨g1, e1, _, _, _, e5, _⟩ := m.bwd k (by rw [← hgl]; exact h2)
    exact kg.ne g1 e1 (e5 e)
  · rw [hgl]
    exact glR_nodup GL.sb rfl (by rw [← m.gl]; exact kg.sbs)
  · rw [hgl]
    exact glR_nodup GL.st rfl (by rw [← m.gl]; exact kg.sts)
  · rw [hN] at hn'
    split at hn'
    · split at hn'
      · cases hn'
      · rename_i hne
        injection hn' with hn'
        subst hn'
        exact hne
    · exact kg.nn _ _ hn'
  · have key : ∀ i n0, (if i = x.it.id then (if na ++ nc = [] then none else some { n with l := na ++ nc }) else gh.N i) = some n0 → ∃ n9, gh.N i = some n9 ∧ n9.rb = n0.rb := fun i n0 hi => by
      split at hi
      · rename_i e
        split at hi
        · cases hi
        · injection hi with hi
          exact ⟨n, by rw [e]; exact m.nr, by rw [← hi]⟩
      · exact ⟨n0, hi, rfl⟩
    rw [hN] at h1 h2
    obtain ⟨m1, e1, e2⟩ := key _ _ h1
    obtain ⟨m2, e3, e4⟩ := key _ _ h2
    exact kg.inj _ _ _ _ e1 e3 (by rw [e2, e4]; exact e)
  · obtain ⟨g1, e1, e2, e3⟩ := hx2 g2 (by rw [← hgl]; exact h2) y hy
    obtain ⟨n1, pl1, e4, e5⟩ := kg.mn g1 e1 y e2
    by_cases hid : y.it.id = x.it.id
    · rw [hid, m.nr] at e4
      injection e4 with e4
      subst e4
      have h9 : (⟨y.nb, y.mb, pl1⟩ : Lk) ∈ na ++ nc := by
        rw [m.l] at e5
        rcases List.mem_append.1 e5 with h9 | h9
        · exact List.mem_append_left _ h9
        · rcases List.mem_cons.1 h9 with h9 | h9
          · injection h9 with _ h9
            exact absurd (k.mb_inj kg e1 hg e2 hxm h9).2 e3
          · exact List.mem_append_right _ h9
      refine ⟨{ n with l := na ++ nc }, pl1, ?_, h9⟩
      rw [hN, if_pos hid, if_neg (fun e => by rw [e] at h9; cases h9)]
    · exact ⟨n1, pl1, by rw [hN, if_neg hid]; exact e4, e5⟩
  · rw [hN] at hn'
    split at hn'
    · rename_i hid
      split at hn'
      · cases hn'
      · injection hn' with hn'
        subst hn'
        have hy' : y ∈ n.l := by
          rw [m.l]
          rcases List.mem_append.1 hy with h9 | h9
          · exact List.mem_append_left _ h9
          · exact List.mem_append_right _ (List.mem_cons_of_mem _ h9)
        obtain ⟨g1, e1, x1, e2, e3, e4, e5⟩ := kg.nm _ _ m.nr y hy'
        have hne : x1 ≠ x := fun e => by
          have hnd := R.nd
          rw [m.l, List.map_append, List.map_cons, List.nodup_append, List.nodup_cons] at hnd
          rw [e] at e4
          rcases List.mem_append.1 hy with h9 | h9
          · exact hnd.2.2 _ (List.mem_map_of_mem h9) _ List.mem_cons_self e4.symm
          · exact hnd.2.1.1 (by show x.nb ∈ _; rw [e4]; exact List.mem_map_of_mem h9)
        obtain ⟨g2, e6, e7, _⟩ := m.fwd e1 e2 hne
        exact ⟨g2, e6, x1, e7, e3, e4, by rw [hid]; exact e5⟩
    · rename_i hid
      obtain ⟨g1, e1, x1, e2, e3, e4, e5⟩ := kg.nm _ _ hn' y hy
      obtain ⟨g2, e6, e7, _⟩ := m.fwd e1 e2 (fun e => hid (by rw [← e5, e]))
      exact ⟨g2, e6, x1, e7, e3, e4, e5⟩
  · obtain ⟨g1, e1, e2, e3, _, _, e6⟩ := m.bwd k (by rw [← hgl]; exact h2)
    rw [hs, e2, e3]
    split
    · rename_i hac
      have hg1 : g1 ≠ g := fun e => by
        have h9 := e6 e
        rw [hac] at h9
        obtain ⟨g0, e10, _, _, _, e11, _⟩ := m.bwd k (by rw [← hgl]; exact h2)
        exact kg.ne _ e10 (e11 h9)
      show (if g1.st = g.st then none else gh.sm g1.st) = _
      rw [if_neg (fun e => hg1 (nodup_inj kg.sts e1 hg e))]
      exact kg.sm1 g1 e1
    · exact kg.sm1 g1 e1
  · rw [hs] at h2
    have h3 : gh.sm st = some sb ∧ (a ++ c = [] → st ≠ g.st) := by
      split at h2
      · rename_i hac
        dsimp only at h2
        split at h2
        · cases h2
        · rename_i hst
          exact ⟨h2, fun _ => hst⟩
      · rename_i hac
        exact ⟨h2, fun e => absurd e hac⟩
    obtain ⟨g1, e1, e2, e3⟩ := kg.sm2 _ _ h3.1
    rw [m.gl] at e1
    rw [hgl]
    unfold glR
    split
    · rename_i hac
      refine ⟨g1, ?_, e2, e3⟩
      rcases List.mem_append.1 e1 with h9 | h9
      · exact List.mem_append_left _ h9
      · rcases List.mem_cons.1 h9 with h9 | h9
        · exact absurd (by rw [← e2, h9]) (h3.2 hac)
        · exact List.mem_append_right _ h9
    · rcases List.mem_append.1 e1 with h9 | h9
      · exact ⟨g1, List.mem_append_left _ h9, e2, e3⟩
      · rcases List.mem_cons.1 h9 with h9 | h9
        · exact ⟨{ g with ms := a ++ c }, by simp, by rw [← e2, h9], by rw [← e3, h9]⟩
        · exact ⟨g1, List.mem_append_right _ (List.mem_cons_of_mem _ h9), e2, e3⟩
end
end Go.Proofs.Ytkjlmibjpfmfnaa.Sc
