/-
  Of the texts Tm4, Tm5, Tm6, TmR4, TmPl: what the laws reach.
-/
import Derived.Test.YtfgfiiknbkakaaaTB5
import Derived.Test.YtfgfiiknbkakaaaTB4
import Derived.Test.YtfgfiiknbkakaaaTB2
import Derived.Test.YtfgfiiknbkakaaaTB3

set_option linter.unusedVariables false
set_option linter.unusedSimpArgs false
set_option maxRecDepth 20000
namespace Go.Proofs.Ytfgfiiknbkakaaa.Tm
open Go.ChangeShapes Go.WideShapes Go.ChangeAt Go.RowKit Go.Deep Go.Maps Go.Proofs.Ytfgfiiknbkakaaa.Words Go.Proofs.Ytfgfiiknbkakaaa.Mx Go.Proofs.Ytfgfiiknbkakaaa.Fl
/-- What the map holds. -/
def mpF (n : Nat) (f : Hp) : Int → Option Value := fun k => ((List.range n).find? fun j => decide ((f j).k = k)).map fun j => tptr (f j).b
section
variable {w w' W : World} {p n cap i j m : Nat} {mv : Value} {A : Option Addr} {f g : Hp} {S G : Nat → Prop} {L : List K} {k : Int} {mo : Option Nat}
def InjK (f : Hp) (n : Nat) : Prop := ∀ i j, i < n → j < n → (f i).k = (f j).k → i = j
theorem mpF_some (h : InjK f n) (hj : j < n) : mpF n f (f j).k = some (tptr (f j).b) := by
  unfold mpF
  cases hf : (List.range n).find? fun x => decide ((f x).k = (f j).k) with
  | none => exact absurd (List.find?_eq_none.1 hf j (List.mem_range.2 hj)) (by simp)
  | some x =>
    have h1 := List.mem_range.1 (List.mem_of_find?_eq_some hf)
    have h2 : (f x).k = (f j).k := by simpa using List.find?_some hf
    rw [h x j h1 hj h2]
    rfl
theorem mpF_none (h : ∀ j, j < n → (f j).k ≠ k) : mpF n f k = none := by
  unfold mpF
  rw [List.find?_eq_none.2 (fun x hx => by simpa using h x (List.mem_range.1 hx))]
  rfl
theorem mpF_ext {n' : Nat} (hf : InjK f n) (hg : InjK g n') (h1 : ∀ i, i < n → ∃ j, j < n' ∧ (f i).k = (g j).k ∧ (f i).b = (g j).b) (h2 : ∀ j, j < n' → ∃ i, i < n ∧ (g j).k = (f i).k) : mpF n f = mpF n' g := by
  funext k
  rcases Classical.em (∃ j, j < n ∧ (f j).k = k) with ⟨j, hj, rfl⟩ | hno
  · obtain ⟨x, hx, e1, e2⟩ := h1 j hj
    rw [mpF_some hf hj, e1, mpF_some hg hx, e2]
  · rw [mpF_none (fun j hj e => hno ⟨j, hj, e⟩), mpF_none (fun j hj e => by
      obtain ⟨i, hi, e2⟩ := h2 j hj
      exact hno ⟨i, hi, by rw [← e2, e]⟩)]
theorem mpF_prm (hf : InjK f n) (hg : InjK g n) (hp : Prm f g n) : mpF n f = mpF n g := by
  refine mpF_ext hf hg (fun i hi => ?_) (fun j hj => ?_)
  · obtain ⟨x, hx, e⟩ := hp.rl i hi
    exact ⟨x, hx, by rw [e], by rw [e]⟩
  · obtain ⟨x, hx, e⟩ := hp.lr j hj
    exact ⟨x, hx, by rw [e]⟩
theorem mapz_ne {P : Program} {kt : TypeId} {b g : Nat} {t : TypeId} {cs : Array Value} {F : Int → Option Value} (h : MapZ P kt w b F) (hb : Blk w g t cs) : b ≠ g := by
  rintro rfl
  obtain ⟨D, n, ⟨es, clock, h1, _⟩, _⟩ := h.ex
  unfold Blk at hb
  rw [h1] at hb
  cases hb
theorem mapz_own {P : Program} {kt : TypeId} {b B n size : Nat} {e : TypeId} {v : Value} {xs : List Value} {F : Int → Option Value} (h : MapZ P kt w b F) (ho : w.ownsRow B e size v n xs) : v.ownBlock ≠ some b := by
  intro hv
  rcases ho.2 with ⟨rfl, _⟩ | ⟨g, c, cur, rfl, _, h2, _⟩
  · cases hv
  · injection hv with hv
    subst hv
    exact mapz_ne h (show Blk w g e cur from h2) rfl
theorem mapz_lookOk {P : Program} {kt : TypeId} {b : Nat} {F : Int → Option Value} (h : MapZ P kt w b F) {t e : TypeId} (ht : P.underlying t = some (.map kt e)) {z : Value} (hz : (zeroValue e).run P w = .ok z w) {x : Int} (hx : i64ok x) :
    (Instr.lookup t (.map (some b)) (.int .i64 x) true).run P w = .ok (.tuple #[(F x).getD z, .bool (F x).isSome]) w := by
  obtain ⟨D, n, ⟨es, clock, hb, F', _, rfl⟩, _, h2⟩ := h.ex
  have h3 := h2 x hx
  rcases Maps.fit_look true (int_keyed h.und) ht hz hb F' (keyz h.und hx) with ⟨hrun, _, hat⟩ | ⟨e0, y, _, _, hrun, hRv, hat, _⟩
  · unfold Mx.look at h3
    rw [hat .nil] at h3
    rw [h3, hrun]
    rfl
  · unfold Mx.look at h3
    rw [hat .nil] at h3
    have e1 : y.1 = .held e0.val := by unfold anyE at hRv; injection hRv with hRv; rw [← hRv]
    rw [e1] at h3
    have h4 : F x = some e0.val := h3
    rw [h4, hrun]
    rfl
/-- The table whole. -/
structure TRp (w : World) (G : Nat → Prop) (p : Nat) (L : List K) (mo : Option Nat) (A : Option Addr) (n cap : Nat) (f : Hp) : Prop where
  q : QM w p (.map mo) A n cap f
  hp : Heap f n
  hs : Holds f n L
  ok : Ok L
  mp : ∀ mb, mo = some mb → MapZ Try.prog 3 w mb (mpF n f)
  mn : mo = none → n = 0
  g : ∀ i, G i ↔ (QG p A n f i ∨ mo = some i)
def TR : Mem := fun w G p L => ∃ mo A n cap f, TRp w G p L mo A n cap f
theorem TRp.injK (h : TRp w G p L mo A n cap f) : InjK f n := h.hs.inj
theorem TRp.mb_ne (h : TRp w G p L mo A n cap f) {mb : Nat} (hm : mo = some mb) : ¬ QG p A n f mb := by
  have hz := h.mp mb hm
  rintro (e | ⟨a, ha, e⟩ | ⟨j, hj, e⟩)
  · exact mapz_ne hz h.q.blk e
  · exact mapz_own hz h.q.row (by rw [ha]; exact congrArg some e)
  · exact mapz_ne hz (h.q.ent j hj) e.symm
theorem tr_rep : Rep TR where
  fr := by
    rintro w w' G S p L ⟨mo, A, n, cap, f, h⟩ hf hS
    have hlt : ∀ i, G i → i < w.heap.size := fun i hi => by
      rcases (h.g i).1 hi with h1 | h1
      · exact h.q.lt h1
      · exact (h.mp i h1).lt
    have hs : ∀ i, S i → ¬ G i := fun i h1 h2 => hS i h1 (hlt i h2) h2
    exact ⟨mo, A, n, cap, f, h.q.fr hf (fun i h1 h2 => hs i h1 ((h.g i).2 (.inl h2))), h.hp, h.hs, h.ok, fun mb hm => (h.mp mb hm).fr hf (fun h1 => hs mb h1 ((h.g mb).2 (.inr hm))), h.mn, h.g⟩
  lt := by
    rintro w G p L ⟨mo, A, n, cap, f, h⟩ i hi
    rcases (h.g i).1 hi with h1 | h1
    · exact h.q.lt h1
    · exact (h.mp i h1).lt
  ok := by
    rintro w G p L ⟨mo, A, n, cap, f, h⟩
    exact ⟨h.ok, by rw [h.hs.len]; exact h.q.few⟩
theorem zero_t (hb : Blk w p 58 #[.slice none 0 0, .map none]) : TR w (fun i => i = p) p [] :=
  ⟨none, none, 0, 0, fun _ => ⟨0, 0, 0⟩, ⟨hb, World.ownsRow_nil _ _ _ _, fun j hj => absurd hj (Nat.not_lt_zero _), fun i j hi => absurd hi (Nat.not_lt_zero _), Nat.zero_le _, fun j hj => absurd hj (Nat.not_lt_zero _)⟩,
    fun j _ hj => absurd hj (Nat.not_lt_zero _), ⟨rfl, fun z => ⟨fun h => (by cases h), fun ⟨j, hj, _⟩ => absurd hj (Nat.not_lt_zero _)⟩, fun i j hi => absurd hi (Nat.not_lt_zero _)⟩, Ok.nil, fun mb h => (by cases h), fun _ => rfl,
    fun i => ⟨fun h => .inl (.inl h), fun h => by
      rcases h with (h | ⟨a, h, _⟩ | ⟨j, hj, _⟩) | h
      · exact h
      · cases h
      · exact absurd hj (Nat.not_lt_zero _)
      · cases h⟩⟩
theorem len_t (h : TR w G p L) : Calls Try.prog 26 #[tptr p] w fun e w' => e = .returned (.int .i64 (L.length : Int)) ∧ w = w' := by
  obtain ⟨mo, A, n, cap, f, h⟩ := h
  have hn := h.hs.len
  have hfew := h.q.few
  have c0 : w.cell? ⟨p, 0, none⟩ = some (.slice A n cap) := h.q.blk.cell 0
  rw [hn]
  clear hn h
  go_enter Try.func26, Try.ntmps26
  go_wp2_with fail
  go_ret
  exact ⟨rfl, rfl⟩
def nextV (L : List K) : Ending := .returned (.tuple #[.int .u64 ((L.head?.map (·.1)).getD 0 : Nat), .bool (!L.isEmpty)])
theorem next_t (h : TR w G p L) : Calls Try.prog 24 #[tptr p] w fun e w' => e = nextV L ∧ Below w.heap.size w w' := by
  obtain ⟨mo, A, n, cap, f, h⟩ := h
  have hn := h.hs.len
  have hfew := h.q.few
  have c0 : w.cell? ⟨p, 0, none⟩ = some (.slice A n cap) := h.q.blk.cell 0
  cases hL : L with
  | nil =>
    obtain rfl : n = 0 := by rw [← hn, hL]; rfl
    clear hn h
    go_enter Try.func24, Try.ntmps24
    go_wp2_with fail
    go_ret2
    exact ⟨rfl, Below.refl _ _⟩
  | cons z t =>
    have hpos : 0 < n := by rw [← hn, hL]; exact Nat.succ_pos _
    have hz : (f 0).key = z := h.hs.head h.ok h.hp hL
    obtain ⟨q, rfl, cq, _⟩ := h.q.at_ hpos
    have ce := h.q.ent 0 hpos
    have ca : w.cell? ⟨(f 0).b, 1, none⟩ = some (.int .u64 ((f 0).a : Int)) := ce.cell 1
    obtain ⟨b, hb⟩ : ∃ b, b = (f 0).b := ⟨_, rfl⟩
    obtain ⟨a, ha⟩ : ∃ a, a = (f 0).a := ⟨_, rfl⟩
    rw [← hb, ← ha] at ca
    rw [← hb] at cq
    have HZ : Hid (nextV (z :: t) = .returned (.tuple #[.int .u64 (a : Int), .bool true])) := by rw [← hz, ha]; rfl
    have hn0 : ¬ (n : Int) = 0 := by omega
    have hn1 : (0 : Int) < (n : Int) := by omega
    have hnc := h.q.cap_
    clear hn h hL hz ce hb ha
    go_enter Try.func24, Try.ntmps24
    go_wp2_with fail
    go_ret2
    rw [HZ.out]
    exact ⟨rfl, Below.refl _ _⟩
theorem nil_lookT (k : Int) (W : World) : (Instr.lookup 56 (.map none) (.int .i64 k) true).run Try.prog W = .ok (.tuple #[.pointer none, .bool false]) W := by kernel_rfl
/-- What the map tells. -/
theorem TRp.look (h : TRp w G p L mo A n cap f) (hk : i64ok k) : (∃ j, j < n ∧ (f j).k = k ∧ has k L = true ∧ at_ k L = some (f j).a ∧ ∀ d, (Instr.lookup 56 (.map mo) (.int .i64 k) true).run Try.prog (w.drewN d) = .ok (.tuple #[tptr (f j).b, .bool true]) (w.drewN d)) ∨
    ((∀ j, j < n → (f j).k ≠ k) ∧ has k L = false ∧ at_ k L = none ∧ ∀ d, (Instr.lookup 56 (.map mo) (.int .i64 k) true).run Try.prog (w.drewN d) = .ok (.tuple #[.pointer none, .bool false]) (w.drewN d)) := by
  have zv : ∀ W : World, (zeroValue 109).run Try.prog W = .ok (.pointer none) W := fun W => by kernel_rfl
  rcases Classical.em (∃ j, j < n ∧ (f j).k = k) with ⟨j, hj, rfl⟩ | hno
  · left
    have hm := (h.hs.mem _).2 ⟨j, hj, rfl⟩
    refine ⟨j, hj, rfl, has_iff.2 ⟨_, hm, rfl⟩, at_some h.ok hm, fun d => ?_⟩
    cases hmo : mo with
    | none => have := h.mn hmo; omega
    | some mb =>
      have hz : MapZ Try.prog 3 (w.drewN d) mb (mpF n f) := (h.mp mb hmo).same rfl
      have := mapz_lookOk hz (t := 56) Try.underlying56 (zv _) hk
      rw [mpF_some h.injK hj] at this
      exact this
  · right
    have h1 : ∀ j, j < n → (f j).k ≠ k := fun j hj e => hno ⟨j, hj, e⟩
    have h2 : has k L = false := has_no.2 (fun z hz e => by
      obtain ⟨j, hj, e2⟩ := (h.hs.mem z).1 hz
      exact h1 j hj (by rw [← e, ← e2]; rfl))
    refine ⟨h1, h2, at_none h2, fun d => ?_⟩
    cases hmo : mo with
    | none => exact nil_lookT k _
    | some mb =>
      have hz : MapZ Try.prog 3 (w.drewN d) mb (mpF n f) := (h.mp mb hmo).same rfl
      have := mapz_lookOk hz (t := 56) Try.underlying56 (zv _) hk
      rw [mpF_none h1] at this
      exact this
def atV (k : Int) (L : List K) : Ending := .returned (.tuple #[.int .u64 (((at_ k L).getD 0 : Nat) : Int), .bool (has k L)])
theorem at_t (h : TR w G p L) (hk : -9223372036854775808 ≤ k ∧ k ≤ 9223372036854775807) : Calls Try.prog 25 #[tptr p, .int .i64 k] w fun e w' => e = atV k L ∧ Below w.heap.size w w' := by
  obtain ⟨mo, A, n, cap, f, h⟩ := h
  have c1 : w.cell? ⟨p, 1, none⟩ = some (.map mo) := h.q.blk.cell 1
  rcases h.look hk with ⟨j, hj, rfl, h1, h2, hl⟩ | ⟨_, h1, h2, hl⟩
  · have ce := h.q.ent j hj
    have ca : w.cell? ⟨(f j).b, 1, none⟩ = some (.int .u64 ((f j).a : Int)) := ce.cell 1
    have HZ : Hid (atV (f j).k L = .returned (.tuple #[.int .u64 ((f j).a : Int), .bool true])) := by unfold atV; rw [h1, h2]; rfl
    generalize (f j).b = b at *
    generalize (f j).a = a at *
    have hl0 := hl 0
    rw [World.drewN_zero] at hl0
    clear h ce h1 h2
    go_enter Try.func25, Try.ntmps25
    go_wp2_with fail
    go_ret2
    rw [HZ.out]
    exact ⟨rfl, Below.refl _ _⟩
  · have HZ : Hid (atV k L = .returned (.tuple #[.int .u64 0, .bool false])) := by unfold atV; rw [h1, h2]; rfl
    have hl0 := hl 0
    rw [World.drewN_zero] at hl0
    clear h h1 h2
    go_enter Try.func25, Try.ntmps25
    go_wp2_with fail
    go_ret2
    rw [HZ.out]
    exact ⟨rfl, Below.refl _ _⟩
end
end Go.Proofs.Ytfgfiiknbkakaaa.Tm

set_option linter.unusedVariables false
set_option linter.unusedSimpArgs false
set_option maxRecDepth 20000
namespace Go.Proofs.Ytfgfiiknbkakaaa.Tm
open Go.ChangeShapes Go.WideShapes Go.ChangeAt Go.RowKit Go.Deep Go.Maps Go.Proofs.Ytfgfiiknbkakaaa.Words Go.Proofs.Ytfgfiiknbkakaaa.Mx Go.Proofs.Ytfgfiiknbkakaaa.Fl
section
variable {w w' W : World} {p n cap i j m : Nat} {mv : Value} {A : Option Addr} {f g : Hp} {S G : Nat → Prop} {L : List K} {k : Int} {mo : Option Nat}
theorem ta_f (W : World) (b : Nat) : (Instr.typeAssert (.iface 109 (tptr b)) 20 109 false).run Try.prog W = .ok (tptr b) W := by kernel_rfl
theorem stop_head {z : K} {t : List K} (h : Ok (z :: t)) : stop z.2 (z :: t) = t := by
  have h1 : ∀ x ∈ t, x.2 ≠ z.2 := fun x hx e => by
    have := h.kds x (List.mem_cons_of_mem _ hx) z List.mem_cons_self e
    rw [this] at hx
    exact lt_irrefl z ((List.pairwise_cons.1 h.srt).1 z hx)
  unfold stop
  rw [List.filter_cons_of_neg (by simp)]
  rw [List.filter_eq_self]
  intro x hx
  rw [decide_eq_true_eq]
  exact h1 x hx
theorem mpF_del (hg : InjK g (n + 1)) : delF (mpF (n + 1) g) (g n).k = mpF n g := by
  have hg' : InjK g n := fun i j hi hj e => hg i j (by omega) (by omega) e
  funext y
  unfold delF
  split
  · rename_i e
    subst e
    exact (mpF_none (fun j hj e => by have := hg j n (by omega) (by omega) e; omega)).symm
  · rename_i hy
    rcases Classical.em (∃ j, j < n ∧ (g j).k = y) with ⟨j, hj, rfl⟩ | hno
    · rw [mpF_some hg (by omega), mpF_some hg' hj]
    · rw [mpF_none (fun j hj e => hno ⟨j, hj, e⟩), mpF_none (fun j hj e => by
        rcases Nat.lt_or_ge j n with h1 | h1
        · exact hno ⟨j, h1, e⟩
        · exact hy (by rw [← e, show j = n by omega]))]
theorem injK_prm (hf : InjK f n) (hp : Prm f g n) (hb : ∀ i j, i < n → j < n → (g i).b = (g j).b → i = j) : InjK g n := by
  intro i j hi hj e
  obtain ⟨a, ha, e1⟩ := hp.lr i hi
  obtain ⟨b, hb', e2⟩ := hp.lr j hj
  rw [e1, e2] at e
  have := hf a b ha hb' e
  exact hb i j hi hj (by rw [e1, e2, this])
/-- One is taken out of the queue, and still stands in the map. -/
structure Out (w V : World) (G : Nat → Prop) (p : Nat) (L : List K) (mb : Nat) (A : Option Addr) (n cap : Nat) (f g : Hp) (i : Nat) : Prop where
  q : QM V p (.map (some mb)) A n cap g
  hp : Heap g n
  prm : Prm f g (n + 1)
  at_ : g n = f i
  blk : Blk V (f i).b 112 (enA (f i) n)
  fr : Fr (QG p A (n + 1) f) w V
  mp : MapZ Try.prog 3 V mb (mpF (n + 1) f)
theorem TRp.some_mb (h : TRp w G p L mo A n cap f) (hn : 0 < n) : ∃ mb, mo = some mb := by
  cases mo with
  | none => have := h.mn rfl; omega
  | some mb => exact ⟨mb, rfl⟩
theorem Out.injB {V : World} {mb : Nat} (h : Out w V G p L mb A n cap f g i) : ∀ x y, x < n + 1 → y < n + 1 → (g x).b = (g y).b → x = y := by
  have key : ∀ x, x < n → (g x).b ≠ (g n).b := fun x hx e => by
    have h1 := h.q.ent x hx
    have h2 := h.blk
    rw [e, h.at_] at h1
    unfold Blk at h1 h2
    rw [h1] at h2
    injection h2 with h2
    injection h2 with h2 _
    have h3 := congrArg (fun a : Array Value => a[2]?) h2
    simp [enA] at h3
    omega
  intro x y hx hy e
  rcases Nat.lt_or_ge x n with h1 | h1
  · rcases Nat.lt_or_ge y n with h2 | h2
    · exact h.q.inj x y h1 h2 e
    · rw [show y = n by omega] at e; exact absurd e (key x h1)
  · rcases Nat.lt_or_ge y n with h2 | h2
    · rw [show x = n by omega] at e; exact absurd e.symm (key y h2)
    · omega
theorem Out.fin {V V' : World} {mb : Nat} (h0 : TRp w G p L (some mb) A (n + 1) cap f) (hi : i < n + 1) (h : Out w V G p L mb A n cap f g i) (hm : MapZ Try.prog 3 V' mb (delF (mpF (n + 1) f) (f i).k)) (hf : Fr (fun x => x = mb) V V') :
    TRp V' (fun x => QG p A n g x ∨ some mb = some x) p (stop (f i).k L) (some mb) A n cap g ∧ (∀ x, (QG p A n g x ∨ some mb = some x) → G x) ∧ Fr G w V' := by
  have hK := injK_prm h0.injK h.prm h.injB
  have hN := h0.mb_ne rfl
  have hsub : ∀ x, QG p A n g x → QG p A (n + 1) f x := fun x hx => by
    rcases hx with hx | hx | ⟨j, hj, rfl⟩
    · exact .inl hx
    · exact .inr (.inl hx)
    · obtain ⟨y, hy, e⟩ := h.prm.lr j (by omega)
      exact .inr (.inr ⟨y, hy, by rw [e]⟩)
  refine ⟨⟨h.q.fr hf (fun x hx hq => hN (by rw [← show x = mb from hx]; exact hsub x hq)), h.hp, ?_, h0.ok.stop _, fun mb' e => ?_, fun e => (by cases e), fun x => Iff.rfl⟩, fun x hx => ?_, ?_⟩
  · have := (h0.hs.prm h.prm h.injB).pop h0.ok
    rw [h.at_] at this
    exact this
  · injection e with e
    subst e
    rw [mpF_prm h0.injK hK h.prm, ← h.at_, mpF_del hK] at hm
    exact hm
  · rcases hx with hx | hx
    · exact (h0.g x).2 (.inl (hsub x hx))
    · exact (h0.g x).2 (.inr hx)
  · refine (h.fr.mono (fun x _ hx => (h0.g x).2 (.inl hx))).trans hf (fun x _ hx => (h0.g x).2 (.inr (by rw [show x = mb from hx])))
/-- What remove leaves. -/
def RemoveDone (w : World) (G : Nat → Prop) (p : Nat) (L : List K) (mo : Option Nat) (A : Option Addr) (n cap : Nat) (f : Hp) (i : Nat) (e : Ending) (w' : World) : Prop :=
  ∃ (G' : Nat → Prop) (g : Hp), e = .returned (.int .i64 (f i).k) ∧ TRp w' G' p (stop (f i).k L) mo A n cap g ∧ (∀ x, G' x → G x) ∧ Fr G w w'
theorem remove_t (h : TRp w G p L mo A (n + 1) cap f) (hi : i < n + 1) : Calls Try.prog 50 #[tptr p, .int .i64 (i : Int)] w (RemoveDone w G p L mo A n cap f i) := by
  obtain ⟨mb, rfl⟩ := h.some_mb (Nat.succ_pos n)
  have hr := remove_h h.q h.hp hi
  have H0 := Lib.hid h
  have hmne := h.mb_ne rfl
  clear h
  go_enter Try.func50, Try.ntmps50
  have hta := fun W : World => ta_f W (f i).b
  go_upto_region 2 with (first
    | (go_at_call 71; refine hr.mono ?_; rintro e w5 ⟨rfl, g, hq5, hh5, hp5, ha5, hb5, hf5⟩))
  have HO : Hid (Out w w5 G p L mb A n cap f g i) := ⟨hq5, hh5, hp5, ha5, hb5, hf5, (H0.out.mp mb rfl).fr hf5 hmne⟩
  clear hq5 hh5 hp5 ha5 hb5 hf5 hta
  have c1 : w5.cell? ⟨p, 1, none⟩ = some (.map (some mb)) := HO.out.q.blk.cell 1
  have ck : w5.cell? ⟨(f i).b, 0, none⟩ = some (.int .i64 (f i).k) := HO.out.blk.cell 0
  have hbk : i64ok (f i).k := (H0.out.q.bnd i hi).2
  have hmd : MapZ Try.prog 3 w5.drew mb (mpF (n + 1) f) := HO.out.mp.same rfl
  obtain ⟨W6, hdel, hm6, ht6⟩ := hmd.del (t := 56) Try.underlying56 hbk 0
  have hdel2 : (Builtin.delete_ #[56, 3] 0 #[.map (some mb), .int .i64 (f i).k]).run Try.prog w5.drew = .ok (.tuple #[]) W6 := hdel
  have hf6 : Fr (fun x => x = mb) w5 W6 := ((Fr.refl (fun x => x = mb) w5).drew).same ((Fr.of_grown ht6.grown).mono (fun x _ e => by injection e))
  have HFIN := Lib.hid (HO.out.fin H0.out hi hm6 hf6)
  have ck6 : W6.cell? ⟨(f i).b, 0, none⟩ = some (.int .i64 (f i).k) := by
    have hne : (f i).b ≠ mb := fun e => hmne (by rw [← e]; exact .inr (.inr ⟨i, hi, rfl⟩))
    exact (hf6.blk HO.out.blk hne).cell 0
  generalize (f i).b = b at *
  obtain ⟨kk, hkk⟩ : ∃ kk, kk = (f i).k := ⟨_, rfl⟩
  have HKK := Lib.hid hkk
  rw [← hkk] at ck ck6 hdel2
  clear hdel hm6 ht6 hf6 hmd hbk hkk hr
  go_region
  go_wp2_with fail
  go_ret
  rw [HKK.out]
  exact ⟨_, g, rfl, HFIN.out.1, HFIN.out.2.1, HFIN.out.2.2⟩
theorem stop_t (h : TR w G p L) (hk : -9223372036854775808 ≤ k ∧ k ≤ 9223372036854775807) : Calls Try.prog 20 #[tptr p, .int .i64 k] w fun e w' => ∃ G', e = .returned (.bool (has k L)) ∧ TR w' G' p (stop k L) ∧ (∀ i, G' i → G i ∨ w.heap.size ≤ i) ∧ Fr G w w' := by
  obtain ⟨mo, A, n, cap, f, h⟩ := h
  have c1 : w.cell? ⟨p, 1, none⟩ = some (.map mo) := h.q.blk.cell 1
  rcases h.look hk with ⟨j, hj, rfl, h1, h2, hl⟩ | ⟨_, h1, h2, hl⟩
  · obtain ⟨m, rfl⟩ : ∃ m, n = m + 1 := ⟨n - 1, by omega⟩
    have ce := h.q.ent j hj
    have ca : w.cell? ⟨(f j).b, 2, none⟩ = some (.int .i64 (j : Int)) := ce.cell 2
    have hr := remove_t h hj
    have hl0 := hl 0
    rw [World.drewN_zero] at hl0
    have hjb : j ≤ 1000000 := by have := h.q.few; omega
    generalize hkk : (f j).k = kk at *
    generalize (f j).b = b at *
    have HH := Lib.hid h1
    clear h ce h1 h2 hl
    go_enter Try.func20, Try.ntmps20
    go_wp2_with (go_at_call 50; refine hr.mono ?_; rintro e w5 ⟨G5, g5, rfl, ht5, hg5, hf5⟩)
    go_ret
    rw [hkk] at ht5
    rw [HH.out]
    exact ⟨G5, rfl, ⟨_, _, _, _, _, ht5⟩, fun i hi => .inl (hg5 i hi), hf5⟩
  · have hl0 := hl 0
    rw [World.drewN_zero] at hl0
    have HH := Lib.hid h1
    have HT : Hid (TR w G p L) := ⟨mo, A, n, cap, f, h⟩
    clear h h1 h2 hl
    go_enter Try.func20, Try.ntmps20
    go_wp2_with fail
    go_ret
    rw [HH.out, stop_none HH.out]
    exact ⟨G, rfl, HT.out, fun i hi => .inl hi, Fr.refl _ _⟩
end
end Go.Proofs.Ytfgfiiknbkakaaa.Tm

set_option linter.unusedVariables false
set_option linter.unusedSimpArgs false
set_option maxRecDepth 20000
namespace Go.Proofs.Ytfgfiiknbkakaaa.Tm
open Go.ChangeShapes Go.WideShapes Go.ChangeAt Go.RowKit Go.Deep Go.Maps Go.Proofs.Ytfgfiiknbkakaaa.Words Go.Proofs.Ytfgfiiknbkakaaa.Mx Go.Proofs.Ytfgfiiknbkakaaa.Fl
section
variable {w w' W : World} {p n cap i j m now : Nat} {mv : Value} {A : Option Addr} {f g : Hp} {S G : Nat → Prop} {L D R : List K} {k : Int} {mo : Option Nat}
def lenAt (w : World) (p : Nat) : Nat := match w.cell? ⟨p, 0, none⟩ with
  | some (.slice _ n _) => n
  | _ => 0
theorem lenAt_t (h : TRp w G p L mo A n cap f) : lenAt w p = n := by
  unfold lenAt
  rw [h.q.blk.cell 0]
  rfl
theorem take_all {α : Type} {q : α → Bool} : ∀ {l : List α}, (∀ x ∈ l, q x = true) → l.takeWhile q = l
  | [], _ => rfl
  | x :: l, h => by rw [List.takeWhile_cons_of_pos (h x List.mem_cons_self), take_all (fun y hy => h y (List.mem_cons_of_mem _ hy))]
theorem due_all (h : ∀ x ∈ D, x.1 ≤ now) : dueL now (D ++ []) = D ∧ dueR now (D ++ []) = [] := by
  rw [List.append_nil]
  have h1 : dueL now D = D := take_all (fun x hx => by simpa using h x hx)
  refine ⟨h1, ?_⟩
  have h2 := due_app (now := now) (L := D)
  rw [h1] at h2
  exact List.append_right_eq_self.1 h2
theorem due_cut {z : K} {t : List K} (h : ∀ x ∈ D, x.1 ≤ now) (hz : ¬ z.1 ≤ now) : dueL now (D ++ z :: t) = D ∧ dueR now (D ++ z :: t) = z :: t := by
  have h1 : dueL now (D ++ z :: t) = D := by
    unfold dueL
    rw [List.takeWhile_append_of_pos (fun x hx => by simpa using h x hx), List.takeWhile_cons_of_neg (by simpa using hz), List.append_nil]
  refine ⟨h1, ?_⟩
  have h2 := due_app (now := now) (L := D ++ z :: t)
  rw [h1] at h2
  exact List.append_cancel_left h2
/-- While kinds are handed out. -/
structure DueS (w wr : World) (G : Nat → Prop) (p : Nat) (L : List K) (now : Nat) (mo : Option Nat) (A : Option Addr) (cap : Nat) (D R : List K) (n : Nat) (g : Hp) (v : Value) : Prop where
  eq : L = D ++ R
  le : ∀ x ∈ D, x.1 ≤ now
  own : wr.ownsRow w.heap.size 3 1 v D.length (z64 (D.map (·.2)))
  rep : ∃ G', TRp wr G' p R mo A n cap g ∧ (∀ x, G' x → G x)
  fr : Fr G w wr
def DueDone (w : World) (G : Nat → Prop) (p : Nat) (L : List K) (now : Nat) (e : Ending) (w' : World) : Prop :=
  ∃ (G' : Nat → Prop) (v : Value), e = .returned v ∧ w'.ownsRow w.heap.size 3 1 v (dueL now L).length (z64 ((dueL now L).map (·.2))) ∧ TR w' G' p (dueR now L) ∧ (∀ i, G' i → G i ∨ w.heap.size ≤ i) ∧ (∀ g, v.ownBlock = some g → ¬ G' g) ∧ Fr G w w'
theorem DueS.done {wr : World} {v : Value} (hG : ∀ i, G i → i < w.heap.size) (h : DueS w wr G p L now mo A cap D R n g v) (hd : dueL now L = D ∧ dueR now L = R) : DueDone w G p L now (.returned v) wr := by
  obtain ⟨G', hr, hs⟩ := h.rep
  refine ⟨G', v, rfl, by rw [hd.1]; exact h.own, by rw [hd.2]; exact ⟨_, _, _, _, _, hr⟩, fun i hi => .inl (hs i hi), fun b hb hx => ?_, h.fr⟩
  have := (h.own.lt b hb).1
  have := hG b (hs b hx)
  omega
/-- One kind more. -/
theorem DueS.next {wr w5 W10 : World} {v : Value} {z : K} {t : List K} {A10 : Option Addr} {c10 m N1 : Nat} {o : Obj} {G5 : Nat → Prop} {g5 : Hp} (hG : ∀ i, G i → i < w.heap.size) (h : DueS w wr G p L now mo A cap D (z :: t) (m + 1) g v) (hz : z.1 ≤ now)
    (ht : TRp w5 G5 p t mo A m cap g5) (hs : ∀ x, G5 x → G x) (hf : Fr G wr w5) (hN : N1 = D.length + 1) (ho : W10.ownsRow w.heap.size 3 1 (.slice A10 N1 c10) N1 (z64 (D.map (·.2)) ++ [.int .i64 z.2])) (hg : (w5.alloc o).grownBy W10 v.ownBlock) :
    DueS w W10 G p L now mo A cap (D ++ [z]) t m g5 (.slice A10 N1 c10) := by
  have hf5 : Fr (fun i => v.ownBlock = some i) w5 W10 := ((Fr.refl _ w5).alloc o).grown hg (fun b e => .inl e)
  have hv : ∀ b, v.ownBlock = some b → ¬ G b := fun b hb hx => by have := (h.own.lt b hb).1; have := hG b hx; omega
  refine ⟨by rw [h.eq]; simp, fun x hx => ?_, ?_, ⟨G5, ?_, hs⟩, ?_⟩
  · rcases List.mem_append.1 hx with hx | hx
    · exact h.le x hx
    · rw [List.mem_singleton.1 hx]; exact hz
  · have e1 : (D ++ [z]).length = N1 := by rw [hN]; simp
    have e2 : z64 ((D ++ [z]).map (·.2)) = z64 (D.map (·.2)) ++ [.int .i64 z.2] := by simp
    rw [e1, e2]
    exact ho
  · have hlt : ∀ i, G5 i → i < w5.heap.size := fun i hi => tr_rep.lt ⟨_, _, _, _, _, ht⟩ i hi
    have hn : ∀ i, v.ownBlock = some i → ¬ G5 i := fun i hi hx => hv i hi (hs i hx)
    exact ⟨ht.q.fr hf5 (fun i h1 h2 => hn i h1 ((ht.g i).2 (.inl h2))), ht.hp, ht.hs, ht.ok, fun mb hm => (ht.mp mb hm).fr hf5 (fun h1 => hn mb h1 ((ht.g mb).2 (.inr hm))), ht.mn, ht.g⟩
  · exact (h.fr.trans hf (fun x _ hx => hx)).trans hf5 (fun x hx e => by have := (h.own.lt x e).1; omega)
theorem DueS.own5 {wr w5 : World} {v : Value} {o : Obj} (hG : ∀ i, G i → i < w.heap.size) (h : DueS w wr G p L now mo A cap D R n g v) (hf : Fr G wr w5) : (w5.alloc o).ownsRow w.heap.size 3 1 v D.length (z64 (D.map (·.2))) :=
  (hf.own h.own (fun b hb hx => by have := (h.own.lt b hb).1; have := hG b hx; omega)).alloc o
theorem blk1i (W : World) (v : Value) : Reads (W.alloc (.cells #[v] 3)) (W.heap.size + 1) 1 (some ⟨W.heap.size, 0, none⟩) 1 [v] := by
  have h := Blk.new W 3 #[v]
  refine ⟨rfl, fun _ => ⟨_, rfl, Nat.lt_succ_self _, fun j u hu => ?_⟩⟩
  rw [h.cellAdd j, ← Array.getElem?_toList]
  exact hu
set_option maxHeartbeats 3200000 in
theorem due_t (h : TR w G p L) (hnow : now ≤ 18446744073709551615) : Calls Try.prog 22 #[tptr p, .int .u64 (now : Int)] w (DueDone w G p L now) := by
  have hG : ∀ i, G i → i < w.heap.size := fun i hi => tr_rep.lt h i hi
  obtain ⟨mo, A, n0, cap, f, h⟩ := h
  have hLb := h.hs.len
  have hfew := h.q.few
  obtain ⟨i0, hi0, hz0, hz1, hz2⟩ := info_parts3 (show (Try.prog.info? 3).map (fun i => (i.zero, i.size, i.bytes)) = some (some (.int .i64 0), 1, 8) by kernel_rfl)
  have HS0 : Hid (DueS w w G p L now mo A cap [] L n0 f (.slice none 0 0)) := ⟨rfl, fun x hx => (by cases hx), World.ownsRow_nil _ _ _ _, ⟨G, h, fun _ hx => hx⟩, Fr.refl _ _⟩
  have HL : Hid (L.length ≤ 1000000) := by rw [hLb]; exact hfew
  have HGG := Lib.hid hG
  clear h hLb hfew hG
  go_enter Try.func22, Try.ntmps22
  go_wp2_with fail
  obtain ⟨wo, hwo⟩ : ∃ wo : World, wo = w := ⟨_, rfl⟩
  go_loopw [5] (fun v5 wr => ∃ (D R : List K) (n : Nat) (g : Hp) (Av : Option Addr) (nv cv : Nat), v5 = .slice Av nv cv ∧ nv = D.length ∧ nv ≤ cv ∧ Hid (DueS w wr G p L now mo A cap D R n g (.slice Av nv cv))) (fun _ wr => lenAt wr p)
  case atStart => exact ⟨[], L, n0, f, none, 0, 0, rfl, rfl, Nat.le_refl _, HS0⟩
  case round =>
    obtain ⟨D, R, n, g, Av, nv, cv, rfl, hnv, hcv, HS⟩ := hrel
    clear HS0
    obtain ⟨G', hr, hs⟩ := HS.out.rep
    have HNV := Lib.hid hnv
    clear hnv
    have hnv' : nv ≤ 1000000 := by
      have h1 := HL.out
      rw [HS.out.eq, List.length_append] at h1
      rw [HNV.out]
      omega
    have c0 : wr.cell? ⟨p, 0, none⟩ = some (.slice A n cap) := hr.q.blk.cell 0
    have hnfew := hr.q.few
    have hRn := hr.hs.len
    cases hR : R with
    | nil =>
      subst hR
      obtain rfl : n = 0 := by rw [← hRn]; rfl
      have HD : Hid (DueDone w G p L now (.returned (.slice Av nv cv)) wr) := HS.out.done HGG.out (by rw [HS.out.eq]; exact due_all HS.out.le)
      clear hr hs hRn
      go_wp2_with fail
      go_ret
      exact HD.out
    | cons z t =>
      subst hR
      obtain ⟨m, rfl⟩ : ∃ m, n = m + 1 := ⟨t.length, by rw [← hRn]; rfl⟩
      have hz := hr.hs.head hr.ok hr.hp rfl
      obtain ⟨q, rfl, cq, _⟩ := hr.q.at_ (Nat.succ_pos m)
      have ca : wr.cell? ⟨(g 0).b, 1, none⟩ = some (.int .u64 ((g 0).a : Int)) := (hr.q.ent 0 (Nat.succ_pos m)).cell 1
      have hrm := remove_t hr (Nat.succ_pos m)
      rw [show (((0 : Nat)) : Int) = (0 : Int) from rfl] at hrm
      have hz1' : (g 0).a = z.1 := by rw [← hz]; rfl
      have hz2' : (g 0).k = z.2 := by rw [← hz]; rfl
      have hst : stop (g 0).k (z :: t) = t := by rw [hz2']; exact stop_head hr.ok
      have hnc := hr.q.cap_
      have HLEN := Lib.hid (lenAt_t hr)
      rw [hz1'] at ca
      obtain ⟨a, ha⟩ : ∃ a, a = z.1 := ⟨_, rfl⟩
      rw [← ha] at ca
      have HA := Lib.hid ha
      obtain ⟨N, hN⟩ : ∃ N, N = m + 1 := ⟨_, rfl⟩
      have hNpos : (0 : Int) < (N : Int) := by omega
      have HR1 := Lib.hid (And.intro hz2' hst)
      rw [← hN] at c0 hnfew hnc
      have HN := Lib.hid hN
      generalize hb0 : (g 0).b = b at *
      have HS' := Lib.hid (And.intro hr hs)
      clear hr hs hRn hz hz1' hz2' hst ha hN
      by_cases hle : a ≤ now
      · go_upto_region 3 with (fail)
        obtain ⟨N1, hN1⟩ : ∃ N1, N1 = nv + 1 := ⟨_, rfl⟩
        have HN1 : Hid (N1 = nv + 1) := hN1
        clear hN1
        go_wp2_with (first
          | (go_at_call 50; go_loud (refine hrm.mono ?_; rintro e w5 ⟨G5, g5, rfl, ht5, hg5, hf5⟩; rw [HR1.out.1]; rw [HR1.out.2] at ht5; have HT5 := Lib.hid ht5; have hf5' : Fr G wr w5 := hf5.mono (fun x _ hx => HS'.out.2 x hx); have HF5 := Lib.hid hf5'; have HO5 := Lib.hid (HS.out.own5 (o := .cells #[.int .i64 z.2] 3) HGG.out hf5'); have HG5 := Lib.hid hg5; rw [← HNV.out] at HO5; have HB5 := Lib.hid (blk1i w5 (.int .i64 z.2)); have HW5 := Lib.hid (Nat.le_trans (Nat.le_trans HS.out.fr.size hf5'.size) (show w5.heap.size ≤ (w5.alloc (.cells #[.int .i64 z.2] 3)).heap.size by rw [World.size_alloc]; exact Nat.le_succ _)); clear ht5 hg5 hf5 hf5'))
          | (at_builtin; refine wpList_append_any _ rfl (.tmp 25) (.tmp 28) _ rfl w.heap.size 3 i0 _ 1 8 Try.underlying50 hi0 hz0 hz1 hz2 rfl (by omega) (.slice Av nv cv) nv (z64 (D.map (·.2))) rfl HO5.out _ (some ⟨w5.heap.size, 0, none⟩) 1 1 [.int .i64 z.2] rfl HB5.out (by simp [Value.oneCell']) (by simp only [maxLen]; omega) (by omega) HW5.out ?_; rw [← HN1.out]; intro v10 W10 ho10 hg10 _; obtain ⟨A10, c10, rfl, hc10, _⟩ := own_slice ho10; have HNX := Lib.hid (HS.out.next (m := m) HGG.out (by rw [← HA.out]; exact hle) HT5.out (fun x hx => HS'.out.2 x (HG5.out x hx)) HF5.out (by rw [HN1.out, HNV.out]) ho10 hg10); clear ho10 hg10))
        go_roundw
        case rel => exact ⟨D ++ [z], _, _, _, _, _, _, rfl, by rw [HN1.out, HNV.out]; simp, hc10, HNX⟩
        case measure =>
          obtain ⟨G7, h7, _⟩ := HNX.out.rep
          rw [lenAt_t h7, HLEN.out]
          exact Nat.lt_succ_self _
      · have HD : Hid (DueDone w (G) p L now (.returned (.slice Av nv cv)) wr) := HS.out.done HGG.out (by rw [HS.out.eq]; exact due_cut HS.out.le (by rw [← HA.out]; exact hle))
        have hle' : ¬ (a : Int) ≤ (now : Int) := by omega
        clear hrm
        go_wp2_with fail
        go_ret
        exact HD.out
end
end Go.Proofs.Ytfgfiiknbkakaaa.Tm

set_option linter.unusedVariables false
set_option linter.unusedSimpArgs false
set_option maxRecDepth 20000
namespace Go.Proofs.Ytfgfiiknbkakaaa.Tm
open Go.ChangeShapes Go.WideShapes Go.ChangeAt Go.RowKit Go.Deep Go.Proofs.Ytfgfiiknbkakaaa.Words
section
variable {w w' W V : World} {p n cap i B m now : Nat} {A A' : Option Addr} {L M l D R t : List K} {G S : Nat → Prop} {k : Int} {x y z : K} {a : Nat} {v v' : Value}
theorem tail_reads {ad : Addr} (h : Reads V B 2 (some ad) (n + 1) (tmC (z :: t))) : Reads V B 2 (some ⟨ad.block, ad.off + 2, none⟩) n (tmC t) := by
  obtain ⟨h1, h2⟩ := h
  obtain ⟨ad', e, hB, hc⟩ := h2 (Nat.succ_pos n)
  injection e with e
  subst e
  refine ⟨by have : (tmC (z :: t)).length = (tmC t).length + 2 := rfl; omega, fun _ => ⟨_, rfl, hB, fun j u hu => ?_⟩⟩
  have := hc (j + 2) u (by simpa [tmC] using hu)
  rw [← add_lit ad (by omega), add_of_add, Nat.add_comm 2 j]
  exact this
/-- One timer less. -/
theorem RTp.tail {c' : Nat} {ad : Addr} (h : RTp w G p (z :: t) (some ad) (n + 1) cap) (hA : n = 0 ∨ A' = some ⟨ad.block, ad.off + 2, none⟩) (hc : n ≤ c' ∧ c' ≤ 9223372036854775807) :
    ∃ G', RTp (w.setCell ⟨p, 0, none⟩ (.slice A' n c')) G' p t A' n c' ∧ (∀ i, G' i → G i) ∧ Fr G w (w.setCell ⟨p, 0, none⟩ (.slice A' n c')) := by
  have hGp : G p := (h.g p).2 (.inl rfl)
  have hf : Fr (fun i => i = p) w (w.setCell ⟨p, 0, none⟩ (.slice A' n c')) := (Fr.refl (fun i => i = p) w).setCell (p := ⟨p, 0, none⟩) (.inl rfl) _
  have hlen : n = t.length := by have := h.hn; simpa using this
  have hne := h.ne ad rfl (Nat.succ_pos n)
  have hblk : ∀ a : Addr, A' = some a → 0 < n → a.block = ad.block := fun a e h0 => by
    rcases hA with hA | hA
    · omega
    · rw [e] at hA
      injection hA with hA
      rw [hA]
  refine ⟨fun i => i = p ∨ (0 < n ∧ ∃ ad : Addr, A' = some ad ∧ ad.block = i), ⟨h.blk.set_ 0 _, hlen, hc, ?_, h.ok.tail, by have := h.few; simp at this; omega, fun a e h0 => by rw [hblk a e h0]; exact hne, fun i => Iff.rfl⟩, fun i hi => ?_, hf.mono (fun x _ e => by rw [show x = p from e]; exact hGp)⟩
  · rcases Nat.eq_zero_or_pos n with h0 | h0
    · subst h0
      have : t = [] := List.eq_nil_of_length_eq_zero hlen.symm
      subst this
      exact ⟨rfl, fun e => absurd e (by omega)⟩
    · rcases hA with hA | hA
      · omega
      · subst hA
        exact (hf.reads (tail_reads h.rd) (Nat.le_refl _) (fun a e e2 => by injection e with e; subst e; exact hne e2)).more hf.size
  · rcases hi with rfl | ⟨h0, a, e, rfl⟩
    · exact hGp
    · rw [hblk a e h0]
      exact (h.g _).2 (.inr ⟨Nat.succ_pos n, ad, rfl, rfl⟩)
structure RDueS (w wr : World) (G : Nat → Prop) (p : Nat) (L : List K) (now : Nat) (D R : List K) (A : Option Addr) (n cap : Nat) (v : Value) : Prop where
  eq : L = D ++ R
  le : ∀ x ∈ D, x.1 ≤ now
  own : wr.ownsRow w.heap.size 3 1 v D.length (z64 (D.map (·.2)))
  rep : ∃ G', RTp wr G' p R A n cap ∧ (∀ x, G' x → G x)
  fr : Fr G w wr
def RDueDone (w : World) (G : Nat → Prop) (p : Nat) (L : List K) (now : Nat) (e : Ending) (w' : World) : Prop :=
  ∃ (G' : Nat → Prop) (v : Value), e = .returned v ∧ w'.ownsRow w.heap.size 3 1 v (dueL now L).length (z64 ((dueL now L).map (·.2))) ∧ RT w' G' p (dueR now L) ∧ (∀ i, G' i → G i ∨ w.heap.size ≤ i) ∧ (∀ g, v.ownBlock = some g → ¬ G' g) ∧ Fr G w w'
theorem RDueS.done {wr : World} (hG : ∀ i, G i → i < w.heap.size) (h : RDueS w wr G p L now D R A n cap v) (hd : dueL now L = D ∧ dueR now L = R) : RDueDone w G p L now (.returned v) wr := by
  obtain ⟨G', hr, hs⟩ := h.rep
  refine ⟨G', v, rfl, by rw [hd.1]; exact h.own, by rw [hd.2]; exact ⟨_, _, _, hr⟩, fun i hi => .inl (hs i hi), fun b hb hx => ?_, h.fr⟩
  have := (h.own.lt b hb).1
  have := hG b (hs b hx)
  omega
/-- One kind more, its timer still there. -/
theorem RDueS.next {wr W10 : World} {A10 : Option Addr} {c10 N1 : Nat} {o : Obj} (hG : ∀ i, G i → i < w.heap.size) (h : RDueS w wr G p L now D (z :: t) A n cap v) (hN : N1 = D.length + 1)
    (ho : W10.ownsRow w.heap.size 3 1 (.slice A10 N1 c10) N1 (z64 (D.map (·.2)) ++ [.int .i64 z.2])) (hg : (wr.alloc o).grownBy W10 v.ownBlock) :
    (∃ G', RTp W10 G' p (z :: t) A n cap ∧ (∀ x, G' x → G x)) ∧ Fr G w W10 ∧ W10.ownsRow w.heap.size 3 1 (.slice A10 N1 c10) (D ++ [z]).length (z64 ((D ++ [z]).map (·.2))) := by
  have hf5 : Fr (fun i => v.ownBlock = some i) wr W10 := ((Fr.refl _ wr).alloc o).grown hg (fun b e => .inl e)
  have hv : ∀ b, v.ownBlock = some b → ¬ G b := fun b hb hx => by have := (h.own.lt b hb).1; have := hG b hx; omega
  obtain ⟨G', hr, hs⟩ := h.rep
  refine ⟨⟨G', hr.fr hf5 (fun i h1 h2 => hv i h1 (hs i h2)), hs⟩, h.fr.trans hf5 (fun x hx e => by have := (h.own.lt x e).1; omega), ?_⟩
  have e1 : (D ++ [z]).length = N1 := by rw [hN]; simp
  have e2 : z64 ((D ++ [z]).map (·.2)) = z64 (D.map (·.2)) ++ [.int .i64 z.2] := by simp
  rw [e1, e2]
  exact ho
theorem RDueS.step {W10 : World} {ad : Addr} {c' : Nat} (hG : ∀ i, G i → i < w.heap.size) (heq : L = D ++ z :: t) (hle : ∀ x ∈ D, x.1 ≤ now) (hz : z.1 ≤ now) (hr : ∃ G', RTp W10 G' p (z :: t) (some ad) (n + 1) cap ∧ (∀ x, G' x → G x)) (hf : Fr G w W10) (ho : W10.ownsRow w.heap.size 3 1 v (D ++ [z]).length (z64 ((D ++ [z]).map (·.2))))
    (hA : n = 0 ∨ A' = some ⟨ad.block, ad.off + 2, none⟩) (hc : n ≤ c' ∧ c' ≤ 9223372036854775807) : RDueS w (W10.setCell ⟨p, 0, none⟩ (.slice A' n c')) G p L now (D ++ [z]) t A' n c' v := by
  obtain ⟨G', hr, hs⟩ := hr
  obtain ⟨G2, h1, h2, h3⟩ := hr.tail hA hc
  refine ⟨by rw [heq]; simp, fun x hx => ?_, h3.own ho (fun g hg hx => ?_), ⟨G2, h1, fun x hx => hs x (h2 x hx)⟩, hf.trans h3 (fun x _ hx => hs x hx)⟩
  · rcases List.mem_append.1 hx with hx | hx
    · exact hle x hx
    · rw [List.mem_singleton.1 hx]; exact hz
  · have := (ho.lt g hg).1
    have := hG g (hs g hx)
    omega
set_option maxHeartbeats 3200000 in
theorem rdue_t (h : RT w G p L) (hnow : now ≤ 18446744073709551615) : Calls Try.prog 23 #[tptr p, .int .u64 (now : Int)] w (RDueDone w G p L now) := by
  have hG : ∀ i, G i → i < w.heap.size := fun i hi => rt_rep.lt h i hi
  obtain ⟨A, n0, cap, h⟩ := h
  have hfew := h.few
  obtain ⟨i0, hi0, hz0, hz1, hz2⟩ := info_parts3 (show (Try.prog.info? 3).map (fun i => (i.zero, i.size, i.bytes)) = some (some (.int .i64 0), 1, 8) by kernel_rfl)
  have HS0 : Hid (RDueS w w G p L now [] L A n0 cap (.slice none 0 0)) := ⟨rfl, fun x hx => (by cases hx), World.ownsRow_nil _ _ _ _, ⟨G, h, fun _ hx => hx⟩, Fr.refl _ _⟩
  have HL : Hid (L.length ≤ 1000000) := hfew
  have HGG := Lib.hid hG
  clear h hfew hG
  go_enter Try.func23, Try.ntmps23
  go_wp2_with fail
  obtain ⟨wo, hwo⟩ : ∃ wo : World, wo = w := ⟨_, rfl⟩
  go_loopw [5] (fun v5 wr => ∃ (D R : List K) (A : Option Addr) (n cap : Nat) (Av : Option Addr) (nv cv : Nat), v5 = .slice Av nv cv ∧ nv = D.length ∧ nv ≤ cv ∧ Hid (RDueS w wr G p L now D R A n cap (.slice Av nv cv))) (fun _ wr => lenAt wr p)
  case atStart => exact ⟨[], L, A, n0, cap, none, 0, 0, rfl, rfl, Nat.le_refl _, HS0⟩
  case round =>
    clear HS0
    clear A cap
    obtain ⟨D, R, A, n, cap, Av, nv, cv, rfl, hnv, hcv, HS⟩ := hrel
    obtain ⟨G', hr, hs⟩ := HS.out.rep
    have HNV := Lib.hid hnv
    clear hnv
    have hnv' : nv ≤ 1000000 := by
      have h1 := HL.out
      rw [HS.out.eq, List.length_append] at h1
      rw [HNV.out]
      omega
    have c0 : wr.cell? ⟨p, 0, none⟩ = some (.slice A n cap) := hr.blk.cell 0
    have f0 := hr.blk.frozen 0
    have hnfew : n ≤ 1000000 := by rw [hr.hn]; exact hr.few
    have hRn := hr.hn
    have hcap := hr.hc
    have HLEN : Hid (lenAt wr p = n) := by show lenAt wr p = n; unfold lenAt; rw [c0]
    cases hR : R with
    | nil =>
      subst hR
      obtain rfl : n = 0 := by rw [hRn]; rfl
      have HD : Hid (RDueDone w G p L now (.returned (.slice Av nv cv)) wr) := HS.out.done HGG.out (by rw [HS.out.eq]; exact due_all HS.out.le)
      clear hr hs hRn
      go_wp2_with fail
      go_ret
      exact HD.out
    | cons z t =>
      subst hR
      obtain ⟨m, rfl⟩ : ∃ m, n = m + 1 := ⟨t.length, by rw [hRn]; rfl⟩
      obtain ⟨ad, x, rfl, _, hx, c1, c2⟩ := tm_at hr.rd hRn (Nat.succ_pos m)
      obtain rfl : z = x := by injection hx
      have e0 : ad.add (0 * 2) = ad := by simp [Addr.add]
      rw [e0] at c1 c2
      obtain ⟨a, ha⟩ : ∃ a, a = z.1 := ⟨_, rfl⟩
      rw [← ha] at c2
      have HA := Lib.hid ha
      obtain ⟨N, hN⟩ : ∃ N, N = m + 1 := ⟨_, rfl⟩
      have hNpos : (0 : Int) < (N : Int) := by omega
      rw [← hN] at c0 hnfew hcap
      have HN := Lib.hid hN
      clear hr hs hRn hx ha hN e0
      by_cases hle : a ≤ now
      · go_upto_region 3 with (fail)
        obtain ⟨N1, hN1⟩ : ∃ N1, N1 = nv + 1 := ⟨_, rfl⟩
        have HN1 : Hid (nv + 1 = N1) := hN1.symm
        clear hN1
        have HO5 : Hid ((wr.alloc (.cells #[.int .i64 z.2] 3)).ownsRow w.heap.size 3 1 (.slice Av nv cv) nv (z64 (D.map (·.2)))) := by
          have h := HS.out.own.alloc (.cells #[.int .i64 z.2] 3)
          rw [← HNV.out] at h
          exact h
        have HB5 := Lib.hid (blk1i wr (.int .i64 z.2))
        have HW5 : Hid (w.heap.size ≤ (wr.alloc (.cells #[.int .i64 z.2] 3)).heap.size) := by show _ ≤ _; rw [World.size_alloc]; have := HS.out.fr.size; omega
        go_upto_region 4 with (at_builtin; refine wpList_append_any _ rfl (.tmp 23) (.tmp 31) _ rfl w.heap.size 3 i0 _ 1 8 Try.underlying50 hi0 hz0 hz1 hz2 rfl (by omega) (.slice Av nv cv) nv (z64 (D.map (·.2))) rfl HO5.out _ (some ⟨wr.heap.size, 0, none⟩) 1 1 [.int .i64 z.2] rfl HB5.out (by simp [Value.oneCell']) (by simp only [maxLen]; omega) (by omega) HW5.out ?_; rw [HN1.out]; intro v10 W10 ho10 hg10 _; obtain ⟨A10, c10, rfl, hc10, _⟩ := own_slice ho10; have HNX := Lib.hid (HS.out.next HGG.out (by rw [← HN1.out, HNV.out]) ho10 hg10); clear ho10 hg10)
        have c0' : W10.cell? ⟨p, 0, none⟩ = some (.slice (some ad) N cap) := by
          obtain ⟨⟨G7, h7, _⟩, _⟩ := HNX.out
          rw [HN.out]
          exact h7.blk.cell 0
        have f0' : W10.frozen? ⟨p, 0, none⟩ = false := by
          obtain ⟨⟨G7, h7, _⟩, _⟩ := HNX.out
          exact h7.blk.frozen 0
        have HST : Hid (∀ (A' : Option Addr) (c' : Nat), (m = 0 ∨ A' = some ⟨ad.block, ad.off + 2, none⟩) → (m ≤ c' ∧ c' ≤ 9223372036854775807) → RDueS w (W10.setCell ⟨p, 0, none⟩ (.slice A' m c')) G p L now (D ++ [z]) t A' m c' (.slice A10 N1 c10)) := fun A' c' h1 h2 =>
          RDueS.step HGG.out HS.out.eq HS.out.le (by rw [← HA.out]; exact hle) HNX.out.1 HNX.out.2.1 HNX.out.2.2 h1 h2
        have hNm : N - 1 = m := by have := HN.out; omega
        have hNmI : (N : Int) - 1 = (m : Int) := by have := HN.out; omega
        clear c0 c1 c2 HO5 HB5 HW5
        have HMS : Hid (∀ (A' : Option Addr) (c' : Nat), (m = 0 ∨ A' = some ⟨ad.block, ad.off + 2, none⟩) → (m ≤ c' ∧ c' ≤ 9223372036854775807) → lenAt (W10.setCell ⟨p, 0, none⟩ (.slice A' m c')) p = m) := fun A' c' h1 h2 => by
          obtain ⟨G7, h7, _⟩ := (HST.out A' c' h1 h2).rep
          unfold lenAt
          rw [h7.blk.cell 0]
          rfl
        by_cases hcap1 : cap = 1
        · have hm0 : m = 0 := by have := HN.out; omega
          have hN1' : N = 1 := by have := HN.out; omega
          subst hcap1
          subst hN1'
          subst hm0
          go_wp2_with fail
          go_roundw
          case rel => exact ⟨D ++ [z], t, _, _, _, A10, N1, c10, rfl, by rw [← HN1.out, HNV.out]; simp, hc10, HST.out _ _ (.inl rfl) (by omega)⟩
          case measure =>
            rw [HLEN.out]
            have h := HMS.out
            first
              | (rw [h _ _ (.inl rfl) (by omega)]; omega)
              | (refine Nat.lt_of_le_of_lt (Nat.le_of_eq (h _ _ (.inl rfl) (by omega))) ?_; omega)
        · go_wp2_with fail
          go_roundw
          case rel =>
            first
              | exact ⟨D ++ [z], t, _, _, _, A10, N1, c10, rfl, by rw [← HN1.out, HNV.out]; simp, hc10, HST.out _ _ (.inr rfl) (by omega)⟩
              | (rw [hNm]; exact ⟨D ++ [z], t, _, _, _, A10, N1, c10, rfl, by rw [← HN1.out, HNV.out]; simp, hc10, HST.out _ _ (.inr rfl) (by omega)⟩)
          case measure =>
            rw [HLEN.out]
            have h := HMS.out
            first
              | (rw [h _ _ (.inr rfl) (by omega)]; omega)
              | (rw [hNm, h _ _ (.inr rfl) (by omega)]; omega)
      · have HD : Hid (RDueDone w G p L now (.returned (.slice Av nv cv)) wr) := HS.out.done HGG.out (by rw [HS.out.eq]; exact due_cut HS.out.le (by rw [← HA.out]; exact hle))
        have hle' : ¬ (a : Int) ≤ (now : Int) := by omega
        go_wp2_with fail
        go_ret
        exact HD.out
end
end Go.Proofs.Ytfgfiiknbkakaaa.Tm

set_option linter.unusedVariables false
set_option linter.unusedSimpArgs false
set_option maxRecDepth 20000
namespace Go.Proofs.Ytfgfiiknbkakaaa.Tm
open Go.ChangeShapes Go.WideShapes Go.ChangeAt Go.RowKit Go.Deep Go.Proofs.Ytfgfiiknbkakaaa.Words
abbrev OpSh : Sh := .strct (.pair (.int .i64) (.pair (.int .i64) (.pair (.int .u64) .nil)))
/-- The i-th op of a script. -/
def OpAt3 (w : World) (ad : Addr) (i : Nat) (K F : Int) (T : Nat) : Prop :=
  w.cell? (ad.add (i * 3)) = some (.int .i64 K) ∧ w.cell? ⟨(ad.add (i * 3)).block, (ad.add (i * 3)).off + 1, none⟩ = some (.int .i64 F) ∧ w.cell? ⟨(ad.add (i * 3)).block, (ad.add (i * 3)).off + 2, none⟩ = some (.int .u64 (T : Int)) ∧
  (-9223372036854775808 ≤ K ∧ K ≤ 9223372036854775807) ∧ (-9223372036854775808 ≤ F ∧ F ≤ 9223372036854775807) ∧ T ≤ 18446744073709551615
theorem opAt3_of {w : World} {A : Option Addr} {n : Nat} (h : ∀ i, i < n → ∃ a cs', A = some a ∧ cs'.length = OpSh.size ∧ (∀ j u, cs'[j]? = some u → w.cell? (a.add (i * OpSh.size + j)) = some u) ∧ Sees w OpSh cs') (i : Nat) (hi : i < n) :
    ∃ ad K F T, A = some ad ∧ OpAt3 w ad i K F T := by
  obtain ⟨a, cs, hA, hl, hc, hs⟩ := h i hi
  obtain ⟨c1, r1, rfl, h1, ⟨K, rfl, hK⟩, c2, r2, rfl, h2, ⟨F, rfl, hF⟩, c3, r3, rfl, h3, ⟨T, rfl, hT⟩, rfl⟩ := hs
  obtain ⟨t, rfl, ht⟩ := nat_u64a hT
  refine ⟨a, K, F, t, hA, ?_, ?_, ?_, bounds_i64 hK, bounds_i64 hF, ht⟩
  · exact hc 0 _ rfl
  · have := hc 1 _ rfl
    rw [← add_of_add, add_lit _ (by omega)] at this
    exact this
  · have := hc 2 _ rfl
    rw [← add_of_add, add_lit _ (by omega)] at this
    exact this
theorem OpAt3.keep {w w' : World} {ad : Addr} {i : Nat} {K F : Int} {T : Nat} (h : OpAt3 w ad i K F T) (hb : Below w.heap.size w w') : OpAt3 w' ad i K F T := by
  obtain ⟨h1, h2, h3, h4, h5, h6⟩ := h
  have k : ∀ {p : Addr} {u : Value}, w.cell? p = some u → w'.cell? p = some u := fun {p u} h => (hb.cell (World.block_lt_of_cell? w _ h)).trans h
  exact ⟨k h1, k h2, k h3, h4, h5, h6⟩
section
variable {R1 R2 : Mem} {w V V' W : World} {p1 p2 g : Nat} {L1 L2 L : List K} {S : Nat → Prop} {k : Int} {a now : Nat} {kd F : Int} {T : Nat}
/-- A table just made by the document. -/
theorem TW.refzero (I2 : Rep R2) {q : Nat} (h : TW Triv R2 w V p1 p2 [] L2 S) (hb : Below V.heap.size V V') (hq : Blk V' q 62 #[.slice Option.none 0 0]) (hn : V.heap.size ≤ q) : TW RT R2 w V' q p2 [] L2 S := by
  obtain ⟨G1, G2, h⟩ := h
  have h' := h.grows triv_rep I2 hb
  exact ⟨fun i => i = q, G2, ref_zero hq, h'.r2, fun i hi => by rw [show i = q from hi]; exact Nat.le_trans h.bel.size hn, h'.o2, fun i hi h2 => by have := I2.lt h.r2 i h2; rw [show i = q from hi] at this; omega, fun i hi => ⟨(h'.si i hi).1, fun e => by have := (h.si i hi).1; rw [show i = q from e] at this; omega, (h'.si i hi).2.2⟩, h'.bel⟩
/-- The tables, and the round's own op in block g. -/
structure TO (R : Mem) (w V : World) (p q : Nat) (L1 L2 : List K) (G1 G2 : Nat → Prop) (g : Nat) (kd F : Int) (T : Nat) : Prop where
  t : T2 R RT w V p q L1 L2 (fun i => i = g) G1 G2
  o : Blk V g 65 #[(.int .i64 kd), .int .i64 F, .int .u64 (T : Int)]
  gw : w.heap.size ≤ g
variable {R : Mem} {p q : Nat} {G1 G2 G' : Nat → Prop}
theorem TO.prog (h : TO R w V p q L1 L2 G1 G2 g kd F T) (hr : R V' G' p L) (hg : ∀ i, G' i → G1 i ∨ V.heap.size ≤ i) (hf : Fr G1 V V') : TO R w V' p q L L2 G' G2 g kd F T :=
  ⟨h.t.step rt_rep hr hg hf, hf.blk h.o (fun e => (h.t.si g rfl).2.1 e), h.gw⟩
theorem T2.swap {S : Nat → Prop} (h : T2 R1 R2 w V p1 p2 L1 L2 S G1 G2) : T2 R2 R1 w V p2 p1 L2 L1 S G2 G1 := ⟨h.r2, h.r1, h.o2, h.o1, fun i h2 h1 => h.ap i h1 h2, fun i hi => ⟨(h.si i hi).1, (h.si i hi).2.2, (h.si i hi).2.1⟩, h.bel⟩
theorem TO.ref (I : Rep R) (h : TO R w V p q L1 L2 G1 G2 g kd F T) (hr : RT V' G' q L) (hg : ∀ i, G' i → G2 i ∨ V.heap.size ≤ i) (hf : Fr G2 V V') : TO R w V' p q L1 L G1 G' g kd F T :=
  ⟨(h.t.swap.step I hr hg hf).swap, hf.blk h.o (fun e => (h.t.si g rfl).2.2 e), h.gw⟩
theorem TO.grows (I : Rep R) (h : TO R w V p q L1 L2 G1 G2 g kd F T) (hb : Below V.heap.size V V') : TO R w V' p q L1 L2 G1 G2 g kd F T := ⟨h.t.grows I rt_rep hb, (hb.block g h.o.lt).trans h.o, h.gw⟩
theorem TO.tw (I : Rep R) (h : TO R w V p q L1 L2 G1 G2 g kd F T) : TW R RT w V p q L1 L2 (fun _ => False) := TW.more I rt_rep ⟨G1, G2, h.t⟩ (Below.refl _ _) (fun i hi => hi.elim)
/-- The tables while the one and then the other turn: at stage j. -/
def one0 (a b : List K) : Nat → List K := fun j => match j with
  | 0 => a
  | _ => b
def one1 (a b : List K) : Nat → List K := fun j => match j with
  | 0 => a
  | 1 => a
  | _ => b
def PlS (R : Mem) (w : World) (p q : Nat) (l1 l2 : Nat → List K) (g : Nat) (kd F : Int) (T : Nat) (j : Nat) (V : World) : Prop := ∃ G1 G2, TO R w V p q (l1 j) (l2 j) G1 G2 g kd F T
theorem PlS.o {l1 l2 : Nat → List K} {j : Nat} (h : PlS R w p q l1 l2 g kd F T j V) : V.cell? ⟨g, 1, none⟩ = some (.int .i64 F) ∧ V.cell? ⟨g, 2, none⟩ = some (.int .u64 (T : Int)) := by
  obtain ⟨_, _, h⟩ := h
  exact ⟨h.o.cell 1, h.o.cell 2⟩
/-- A row of kinds, as Due hands it out, in memory that is younger than W. -/
def RowP (W : World) (l : List Int) (v : Value) (V : World) : Prop := V.ownsRow W.heap.size 3 1 v l.length (z64 l)
theorem RowP.lasts {l : List Int} {v : Value} (h : RowP W l v V) (hf : Fr (fun i => i < W.heap.size) V V') : RowP W l v V' := Fr.own hf h (fun g hg hx => by have := (World.ownsRow.lt h g hg).1; have hx' : g < W.heap.size := hx; omega)
/-- .. with what each table had, all below B, as long as it has not turned. -/
def PlD (R : Mem) (w : World) (B p q : Nat) (l1 l2 : Nat → List K) (g : Nat) (kd F : Int) (T : Nat) (j : Nat) (V : World) : Prop := ∃ G1 G2, TO R w V p q (l1 j) (l2 j) G1 G2 g kd F T ∧ (j = 0 → ∀ i, G1 i → i < B) ∧ (j ≤ 1 → ∀ i, G2 i → i < B) ∧ B ≤ V.heap.size
theorem PlD.o {l1 l2 : Nat → List K} {B j : Nat} (h : PlD R w B p q l1 l2 g kd F T j V) : V.cell? ⟨g, 1, none⟩ = some (.int .i64 F) ∧ V.cell? ⟨g, 2, none⟩ = some (.int .u64 (T : Int)) := by
  obtain ⟨_, _, h, _⟩ := h
  exact ⟨h.o.cell 1, h.o.cell 2⟩
theorem PlD.due (I : TmI R) {W : World} {l1 l2 : Nat → List K} (hT : T ≤ 18446744073709551615) (h0 : l1 0 = L) (h1 : l1 1 = dueR T L) (h2 : l2 0 = l2 1) (h : PlD R w W.heap.size p q l1 l2 g kd F T 0 V) :
    Calls Try.prog 22 #[tptr p, .int .u64 (T : Int)] V fun e w' => ∃ v, e = .returned v ∧ Fr (fun i => i < W.heap.size) V w' ∧ RowP W ((dueL T L).map (·.2)) v w' ∧ PlD R w W.heap.size p q l1 l2 g kd F T 1 w' := by
  obtain ⟨G1, G2, ht, b1, b2, hB⟩ := h
  have hr := ht.t.r1
  rw [h0] at hr
  refine (I.due hr hT).mono ?_
  rintro e w' ⟨G', v, rfl, ho, hr', hg, _, hf⟩
  refine ⟨v, rfl, hf.mono (fun x _ hx => b1 rfl x hx), ?_, G', G2, ?_, fun e => (by omega), fun _ => b2 (by omega), Nat.le_trans hB hf.size⟩
  · have h5 := own_mono ho hB
    unfold RowP
    rw [List.length_map]
    exact h5
  · have := ht.prog hr' hg hf
    rw [← h1, h2] at this
    exact this
theorem PlD.rdue (I : Rep R) {W : World} {l1 l2 : Nat → List K} (hT : T ≤ 18446744073709551615) (h0 : l2 1 = L) (h1 : l2 2 = dueR T L) (h2 : l1 1 = l1 2) (h : PlD R w W.heap.size p q l1 l2 g kd F T 1 V) :
    Calls Try.prog 23 #[tptr q, .int .u64 (T : Int)] V fun e w' => ∃ v, e = .returned v ∧ Fr (fun i => i < W.heap.size) V w' ∧ RowP W ((dueL T L).map (·.2)) v w' ∧ PlD R w W.heap.size p q l1 l2 g kd F T 2 w' := by
  obtain ⟨G1, G2, ht, b1, b2, hB⟩ := h
  have hr := ht.t.r2
  rw [h0] at hr
  refine (rdue_t hr hT).mono ?_
  rintro e w' ⟨G', v, rfl, ho, hr', hg, _, hf⟩
  refine ⟨v, rfl, hf.mono (fun x _ hx => b2 (Nat.le_refl _) x hx), ?_, G1, G', ?_, fun e => (by omega), fun e => (by omega), Nat.le_trans hB hf.size⟩
  · have h5 := own_mono ho hB
    unfold RowP
    rw [List.length_map]
    exact h5
  · have := ht.ref I hr' hg hf
    rw [← h1, h2] at this
    exact this
theorem dueR_le : (dueR now L).length ≤ L.length := (List.dropWhile_sublist _).length_le
/-- What the law looks for in the document's row. -/
def wantF (k : Int) (L : List K) : Nat → Nat × Bool
  | 0 => (0, false)
  | i + 1 => match L[i]? with
    | some x => if x.2 = k then (x.1, true) else wantF k L i
    | none => wantF k L i
theorem wantF_no : ∀ i, (∀ j, j < i → ∀ x, L[j]? = some x → x.2 ≠ k) → wantF k L i = (0, false)
  | 0, _ => rfl
  | i + 1, h => by
    unfold wantF
    cases hx : L[i]? with
    | none => exact wantF_no i (fun j hj => h j (by omega))
    | some x =>
      dsimp only
      rw [if_neg (h i (Nat.lt_succ_self i) x hx)]
      exact wantF_no i (fun j hj => h j (by omega))
theorem wantF_yes (ho : Ok L) {x : K} (hx : x ∈ L) (hk : x.2 = k) : ∀ i, (∃ j, j < i ∧ L[j]? = some x) → wantF k L i = (x.1, true)
  | 0, ⟨j, hj, _⟩ => by omega
  | i + 1, ⟨j, hj, he⟩ => by
    unfold wantF
    cases hy : L[i]? with
    | none =>
      dsimp only
      refine wantF_yes ho hx hk i ⟨j, ?_, he⟩
      rcases Nat.lt_or_ge j i with h1 | h1
      · exact h1
      · rw [show j = i by omega, hy] at he; cases he
    | some y =>
      dsimp only
      by_cases hyk : y.2 = k
      · rw [if_pos hyk, ho.kds y (List.mem_of_getElem? hy) x hx (by rw [hyk, hk])]
      · rw [if_neg hyk]
        refine wantF_yes ho hx hk i ⟨j, ?_, he⟩
        rcases Nat.lt_or_ge j i with h1 | h1
        · exact h1
        · rw [show j = i by omega, hy] at he
          injection he with he
          rw [he] at hyk
          exact absurd hk hyk
theorem wantF_end (ho : Ok L) : wantF k L L.length = ((at_ k L).getD 0, has k L) := by
  cases hh : has k L with
  | false =>
    rw [at_none hh]
    exact wantF_no _ (fun j _ x hx => has_no.1 hh x (List.mem_of_getElem? hx))
  | true =>
    obtain ⟨x, hx, e⟩ := has_iff.1 hh
    obtain ⟨j, hj⟩ := List.mem_iff_getElem?.1 hx
    have hjl : j < L.length := (List.getElem?_eq_some_iff.1 hj).1
    rw [wantF_yes ho hx e L.length ⟨j, hjl, hj⟩]
    have h1 : at_ k L = some x.1 := at_some ho (by rw [← e]; exact hx)
    rw [h1]
    rfl
end
end Go.Proofs.Ytfgfiiknbkakaaa.Tm
