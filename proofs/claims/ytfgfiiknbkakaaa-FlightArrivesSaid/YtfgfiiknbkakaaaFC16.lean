/-
  Of the texts Fl26, Fl27, FlLib2: what the laws reach.
-/
import Derived.Test.YtfgfiiknbkakaaaFC15
import Derived.Shelf.SlGeneric
import Derived.Shelf.SlSortCmp.WholeK
import Derived.Shelf.SlSortCmp.NoneTotal
import Derived.Test.YtfgfiiknbkakaaaChecked

set_option linter.unusedVariables false
set_option linter.unusedSimpArgs false
set_option maxRecDepth 20000
namespace Go.Proofs.Ytfgfiiknbkakaaa.Fl
open Go.ChangeShapes Go.WideShapes Go.ChangeAt Go.RowKit Go.Deep Go.Maps Go.Proofs.Ytfgfiiknbkakaaa.Words Go.Proofs.Ytfgfiiknbkakaaa.Oct Go.Proofs.Ytfgfiiknbkakaaa.Par Go.Proofs.Ytfgfiiknbkakaaa.Chk Go.Proofs.Ytfgfiiknbkakaaa.Mx
section
variable {w w' : World} {p : Nat} {a : Ad} {m : FM} {s : FS} {k : Int} {t : Nat} {d v' : Value}
def putNums (m : FM) (k : Int) (t : Nat) : FM := { m with nums := fun x => if x = k then m.nums k ++ [t] else m.nums x, ms := k :: m.ms }
def putNm (a : Ad) (k : Int) (v : Value) : Ad := { a with nm := fun x => if x = k then v else a.nm x }
/-- What a message's numbers are looked up as. -/
def NumD (a : Ad) (m : FM) (k : Int) (d : Value) : Prop := (m.nums k = [] → d = nilV) ∧ (m.nums k ≠ [] → d = a.nm k)
theorem NumD.row0 (h : FlM w p a m) (hfr : m.fresh = true) (hd : NumD a m k d) : w.ownsRow 0 22 1 d (m.nums k).length (n32 (m.nums k)) := by
  by_cases e : m.nums k = []
  · rw [hd.1 e, e]
    exact World.ownsRow_nil _ _ _ _
  · rw [hd.2 e]
    have h1 := h.row k e
    rw [hfr] at h1
    exact h1.row0
theorem u32_infoF : (Try.prog.info? 22).map (fun i => (i.zero, i.size, i.bytes)) = some (some (.int .u32 0), 1, 4) := by kernel_rfl
theorem app_num {W : World} {l : List Nat} {g : Nat} (h : W.ownsRow 0 22 1 d l.length (n32 l)) (hl : l.length ≤ 1048576) (hb : Blk W g 22 #[.int .u32 (t : Int)]) :
    ∃ v' w', (Builtin.append_ #[31, 31] 31 #[d, .slice (some ⟨g, 0, none⟩) 1 1]).run Try.prog W = .ok v' w' ∧ AppR W 22 1 d (l ++ [t]).length (n32 (l ++ [t])) v' w' ∧ Fr (fun i => d.ownBlock = some i) W w' := by
  obtain ⟨i0, hi0, hz0, hz1, hz2⟩ := info_parts3 u32_infoF
  obtain ⟨v', w', h1, h2, h3, h4⟩ := run_append_any (P := Try.prog) W 0 31 31 22 i0 _ 1 4 Try.underlying31 hi0 hz0 hz1 hz2 rfl (by omega) d l.length (n32 l) h (g + 1) (some ⟨g, 0, none⟩) 1 1 [.int .u32 (t : Int)] (blk_reads hb rfl) (by simp [Value.oneCell']) (by simp only [maxLen]; omega) (by omega) (Nat.zero_le _)
  refine ⟨v', w', h1, ⟨?_, h4.imp id (fun e => ⟨_, e, Nat.le_refl _⟩)⟩, (Fr.refl _ W).grown h3 (fun g hg => .inl hg)⟩
  have e : n32 (l ++ [t]) = n32 l ++ [.int .u32 (t : Int)] := by simp [n32]
  rw [e, List.length_append]
  exact h2
theorem FlM.puts (h : FlM w p a m) (hfr : m.fresh = true) (hk : i64ok k) (hd : NumD a m k d) (hf : Fr (fun i => d.ownBlock = some i) w w') (ha : AppR w 22 1 d (m.nums k ++ [t]).length (n32 (m.nums k ++ [t])) v' w') (hl : m.ms.length < 1048576) :
    ∃ w'', (Instr.mapUpdate 82 (.map (some a.nu)) (.int .i64 k) v').run Try.prog w' = .ok () w'' ∧ Fr (fun i => i = a.nu) w' w'' ∧ FlM w'' p (putNm a k v') (putNums m k t) := by
  have kdd : ∀ i, d.ownBlock = some i → kd w i = some (22 + 1) := fun i hi => by
    by_cases e : m.nums k = []
    · rw [hd.1 e] at hi; simp [Value.ownBlock] at hi
    · rw [hd.2 e] at hi; exact kd_num (h.row k e) hi
  have K := h.kept hf (K := 22 + 1) (fun i e _ => kdd i e)
  have rows : ∀ x, x ≠ k → m.nums x ≠ [] → NumV w' m.fresh (a.nm x) (m.nums x) := fun x hx hn => (h.row x hn).fr hf (fun g hg e => by
    have e' : d.ownBlock = some g := e
    by_cases e2 : m.nums k = []
    · rw [hd.1 e2] at e'; simp [Value.ownBlock] at e'
    · rw [hd.2 e2] at e'; exact h.inj x k g hx hn e2 hg e')
  have newr : NumV w' m.fresh v' (m.nums k ++ [t]) := NumV.of_row (by simp) ha.1
  obtain ⟨w'', h1, h2, h3⟩ := (K.num (by decide)).put (t := 82) Try.underlying82 hk v' (L := m.ms) (fun x hx => by
    unfold numsF at hx
    split at hx
    · exact absurd rfl hx
    · rename_i h5; exact h.msn x h5) (Nat.le_trans h.msl (by omega))
  have hf2 : Fr (fun i => i = a.nu) w' w'' := (Fr.of_grown h3.grown).mono (fun i _ e => by injection e)
  have kn : kd w' a.nu = some 0 := kd_mapz (K.num (by decide))
  have ne : ∀ g x, kd w' g = some x → x ≠ 0 → ¬ g = a.nu := fun g x h1 h2 e => by
    rw [e, kn] at h1
    injection h1 with h1
    exact h2 h1.symm
  have hn := h.ne
  refine ⟨w'', h1, hf2, hf2.blk (K.blk (by decide)) (ne _ _ (kd_blk (K.blk (by decide))) (by decide)), (K.prt (by decide)).fr hf2 (fun g hg => ne g _ (kd_psv (K.prt (by decide)) hg) (by decide)), fun y hy => hf2.own (K.bod (by decide) y hy) (fun g hg => ne g _ (kd_own (K.bod (by decide) y hy) hg) (by decide)),
    (K.gon (by decide)).fr hf2 hn.1, ?_, fun x hx => ?_, fun x y g hne h1 h2 h3 => ?_, (K.dea (by decide)).fr hf2 (fun e => hn.2.2.2.1 e.symm), (K.lat (by decide)).fr hf2 (fun e => hn.2.2.2.2.1 e.symm), h.ne, fun x hx => List.mem_cons_of_mem _ (h.mso x hx), fun x hx => ?_, by show (k :: m.ms).length ≤ _; rw [List.length_cons]; omega, fun x hx => ?_⟩
  · have e2 : putF (numsF m.nums a.nm) k v' = numsF (putNums m k t).nums (putNm a k v').nm := funext fun x => by
      unfold putF numsF putNums putNm
      by_cases e : x = k
      · simp [e]
      · simp [e]
    show MapZ Try.prog 3 w'' a.nu (numsF (putNums m k t).nums (putNm a k v').nm)
    rw [← e2]
    exact h2
  · show NumV w'' m.fresh (if x = k then v' else a.nm x) (if x = k then m.nums k ++ [t] else m.nums x)
    by_cases e : x = k
    · rw [if_pos e, if_pos e]
      exact newr.fr hf2 (fun g hg => ne g _ (kd_num newr hg) (by decide))
    · rw [if_neg e, if_neg e]
      have hx' : m.nums x ≠ [] := by
        have : (if x = k then m.nums k ++ [t] else m.nums x) ≠ [] := hx
        rwa [if_neg e] at this
      exact (rows x e hx').fr hf2 (fun g hg => ne g _ (kd_num (rows x e hx') hg) (by decide))
  · change (if x = k then m.nums k ++ [t] else m.nums x) ≠ [] at h1
    change (if y = k then m.nums k ++ [t] else m.nums y) ≠ [] at h2
    change (if x = k then v' else a.nm x).ownBlock = some g at h3
    show (if y = k then v' else a.nm y).ownBlock ≠ some g
    have key : ∀ z, z ≠ k → m.nums z ≠ [] → ∀ g, (a.nm z).ownBlock = some g → v'.ownBlock ≠ some g := fun z hz hnz g hg e => by
      rcases ha.2 with h4 | ⟨g', h4, h5⟩
      · rw [h4] at e
        by_cases e2 : m.nums k = []
        · rw [hd.1 e2] at e; simp [Value.ownBlock] at e
        · rw [hd.2 e2] at e; exact h.inj z k g hz hnz e2 hg e
      · rw [h4] at e
        injection e with e
        have := kd_lt (kd_num (h.row z hnz) hg)
        omega
    by_cases ex : x = k
    · have ey : y ≠ k := fun e => hne (ex.trans e.symm)
      rw [if_pos ex] at h3
      rw [if_neg ey] at h2 ⊢
      exact fun e => key y ey h2 g e h3
    · rw [if_neg ex] at h1 h3
      by_cases ey : y = k
      · rw [if_pos ey]
        exact key x ex h1 g h3
      · rw [if_neg ey] at h2 ⊢
        exact h.inj x y g hne h1 h2 h3
  · by_cases e : x = k
    · rw [e]; exact List.mem_cons_self
    · have : (if x = k then m.nums k ++ [t] else m.nums x) ≠ [] := hx
      rw [if_neg e] at this
      exact List.mem_cons_of_mem _ (h.msn x this)
  · by_cases e : x = k
    · rw [e]; exact hk
    · have : (if x = k then m.nums k ++ [t] else m.nums x) ≠ [] := hx
      rw [if_neg e] at this
      exact h.i64 x this
/-- The fragment that is sent. -/
def newP (s : FS) (k : Int) (lk ln : Nat) (c : Ck) (now : Nat) : Pt := ⟨k, lk, ln, 1, now, 0, 0, { c with tsn := s.next }⟩
theorem get_snoc {α : Type} {l : List α} {x y : α} {j : Nat} (h : (l ++ [x])[j]? = some y) : (j < l.length ∧ l[j]? = some y) ∨ (j = l.length ∧ y = x) := by
  rcases Nat.lt_or_ge j l.length with h1 | h1
  · rw [List.getElem?_append_left h1] at h
    exact .inl ⟨h1, h⟩
  · rw [List.getElem?_append_right h1] at h
    cases hj : j - l.length with
    | zero => rw [hj] at h; exact .inr ⟨by omega, by simpa using h.symm⟩
    | succ n => rw [hj] at h; simp at h
theorem IvM.send (h : IvM m s) {lk ln now : Nat} {c : Ck} {b : Hd} (h2 : s.ms.length < 1048576) (h3 : i64ok k) (h4 : lk < 256) (h5 : ln < 4294967296) (h6 : now < 4294967296) (h7 : Bare c) (h8 : c.ok) (h9 : c.body.length ≤ 1000000) :
    IvM (addM (putNums m k s.next) (newP s k lk ln c now, b)) (s.send k lk ln c now) := by
  obtain ⟨q, hq⟩ : ∃ q, q = newP s k lk ln c now := ⟨_, rfl⟩
  have hql : q.left = true := by rw [hq]; rfl
  have hqs : q.st = 0 := by rw [hq]; rfl
  have hqm : q.m = k := by rw [hq]; rfl
  have hqb : q.c.body = c.body := by rw [hq]; rfl
  have hnx : s.next < 4294967296 := Nat.mod_lt _ (by omega)
  have hps : (s.send k lk ln c now).ps = s.ps ++ [q] := by rw [hq]; rfl
  have hlt := h.lt
  obtain ⟨pl, hn, hm⟩ := h.nums
  have e0 : addM (putNums m k s.next) (newP s k lk ln c now, b) = { m with xs := m.xs ++ [(q, b)], nl := m.nl + 1, nb := m.nb + 1 * (q.c.body.length : Int), df := (if q.lk = 2 then fun n => if n = q.ln then m.df n + 1 else m.df n else m.df), nums := (fun x => if x = k then m.nums k ++ [s.next] else m.nums x), ms := k :: m.ms } := by
    rw [← hq]
    unfold addM countM
    rw [if_pos hql, if_neg (by rw [hqs]; decide), if_neg (by rw [hqs]; decide)]
    rfl
  rw [e0]
  refine ⟨h.mk_, ?_, ?_, ?_, ?_, ⟨?_, fun j y hj hy => ?_⟩, ⟨?_, fun j y hj hy => ?_, ?_⟩, h.gone, ⟨fun x => if x = k then pl k ++ [s.ps.length] else pl x, ⟨fun x => ?_, fun x j hj => ?_, fun j y hy hl => ?_⟩, fun x => ?_⟩, fun n => ?_, h.fresh, ?_, h.mark, ?_, fun y hy => ?_, fun y hy => ?_⟩
  · rw [hps]
    show (m.xs ++ [(q, b)]).map (·.1) = _
    rw [List.map_append, h.ps]
    rfl
  · show m.nb + 1 * (q.c.body.length : Int) = (((s.send k lk ln c now).ps.map bytesP).sum : Nat)
    rw [hps, List.map_append, List.sum_append, h.nb]
    show _ = ((s.bytes + ([q].map bytesP).sum : Nat) : Int)
    have : ([q].map bytesP).sum = q.c.body.length := by simp [bytesP, hqs]
    rw [this]
    omega
  · show m.nl + 1 = (((s.send k lk ln c now).ps.countP Pt.left : Nat) : Int)
    rw [hps, List.countP_append, h.nl]
    show _ = ((s.left + [q].countP Pt.left : Nat) : Int)
    have : [q].countP Pt.left = 1 := by simp [hql]
    rw [this]
    omega
  · show m.no = (((s.send k lk ln c now).ps.countP (fun p => p.st == 1) : Nat) : Int)
    rw [hps, List.countP_append, h.no]
    show _ = ((s.losses + [q].countP (fun p => p.st == 1) : Nat) : Int)
    have : [q].countP (fun p => p.st == 1) = 0 := by simp [hqs]
    rw [this]
    omega
  · rw [hps, List.length_append]
    exact Nat.le_trans h.fl.1 (by omega)
  · rw [hps] at hy
    rcases get_snoc hy with ⟨_, hy⟩ | ⟨rfl, rfl⟩
    · exact h.fl.2 j y hj hy
    · rw [hqs]; decide
  · rw [hps, List.length_append]
    exact Nat.le_trans h.rl.1 (by omega)
  · rw [hps] at hy
    rcases get_snoc hy with ⟨_, hy⟩ | ⟨rfl, rfl⟩
    · exact h.rl.2.1 j y hj hy
    · have := h.rl.1
      have hj' : s.ps.length < m.rl := hj
      omega
  · show m.lf = (((s.send k lk ln c now).ps).take m.rl).foldl latF _
    rw [hps, List.take_append_of_le_length h.rl.1]
    exact h.rl.2.2
  · by_cases e : x = k
    · simp only [if_pos e]
      refine List.pairwise_append.2 ⟨hn.up k, List.pairwise_singleton _ _, fun y hy z hz => ?_⟩
      obtain ⟨r, hr, _⟩ := hn.at_ k y hy
      have := (List.getElem?_eq_some_iff.1 hr).1
      rw [List.mem_singleton.1 hz]
      exact this
    · simp only [if_neg e]
      exact hn.up x
  · rw [hps]
    by_cases e : x = k
    · simp only [if_pos e] at hj
      rcases List.mem_append.1 hj with hj | hj
      · obtain ⟨r, h1, h2⟩ := hn.at_ k j hj
        exact ⟨r, by rw [List.getElem?_append_left (List.getElem?_eq_some_iff.1 h1).1]; exact h1, by rw [e]; exact h2⟩
      · rw [List.mem_singleton.1 hj]
        exact ⟨q, by simp, by rw [hqm, e]⟩
    · simp only [if_neg e] at hj
      obtain ⟨r, h1, h2⟩ := hn.at_ x j hj
      exact ⟨r, by rw [List.getElem?_append_left (List.getElem?_eq_some_iff.1 h1).1]; exact h1, h2⟩
  · rw [hps] at hy
    rcases get_snoc hy with ⟨_, hy⟩ | ⟨rfl, rfl⟩
    · have := hn.all j y hy hl
      by_cases e : y.m = k
      · simp only [if_pos e]
        rw [← e]
        exact List.mem_append_left _ this
      · simp only [if_neg e]
        exact this
    · simp only [if_pos hqm]
      exact List.mem_append_right _ (by simp)
  · show (if x = k then m.nums k ++ [s.next] else m.nums x) = List.map (tsnOf s.mark) (if x = k then pl k ++ [s.ps.length] else pl x)
    by_cases e : x = k
    · rw [if_pos e, if_pos e, List.map_append, hm k]
      rfl
    · rw [if_neg e, if_neg e]
      exact hm x
  · show (if q.lk = 2 then fun n => if n = q.ln then m.df n + 1 else m.df n else m.df) n = (((s.send k lk ln c now).ps.countP (dlP n) : Nat) : Int)
    rw [hps, List.countP_append]
    have h1 := h.df n
    have e1 : (s.ps.countP (dlP n) : Int) = m.df n := h1.symm
    have e2 : [q].countP (dlP n) = if q.lk = 2 ∧ q.ln = n then 1 else 0 := by
      simp only [List.countP_cons, List.countP_nil, dlP, hql, Bool.true_and, Bool.and_eq_true, decide_eq_true_eq, Nat.zero_add]
    rw [e2]
    by_cases h2 : q.lk = 2
    · rw [if_pos h2]
      show (if n = q.ln then m.df n + 1 else m.df n) = _
      by_cases h3 : n = q.ln
      · rw [if_pos h3, if_pos ⟨h2, h3.symm⟩]; omega
      · rw [if_neg h3, if_neg (fun e => h3 e.2.symm)]; omega
    · rw [if_neg h2, if_neg (fun e => h2 e.1)]; omega
  · show k :: m.ms = k :: s.ms
    rw [h.ms]
  · rw [hps]
    show (s.ps ++ [q]).length ≤ (k :: s.ms).length ∧ (k :: s.ms).length ≤ _
    simp only [List.length_append, List.length_cons, List.length_nil]
    have := h.len.1
    exact ⟨by omega, by omega⟩
  · rw [hps] at hy
    rcases List.mem_append.1 hy with hy | hy
    · exact h.ok y hy
    · rw [List.mem_singleton.1 hy, hq]
      exact ⟨h3, h4, h5, by show 1 < _; omega, h6, by show 0 ≤ _; omega, by show 0 ≤ _; omega, ⟨h8.kind, hnx, h8.st, h8.mid, h8.pp, h8.fr, h8.tag, h8.win, h8.out, h8.inn, h8.gaps, h8.dups, h8.skips, h8.ps⟩, h7, h9⟩
  · rw [hps] at hy
    show y.m ∈ k :: s.ms
    rcases List.mem_append.1 hy with hy | hy
    · exact List.mem_cons_of_mem _ (h.pm y hy)
    · rw [List.mem_singleton.1 hy, hqm]; exact List.mem_cons_self
end
end Go.Proofs.Ytfgfiiknbkakaaa.Fl

set_option linter.unusedVariables false
set_option linter.unusedSimpArgs false
set_option maxRecDepth 20000
namespace Go.Proofs.Ytfgfiiknbkakaaa.Fl
open Go.ChangeShapes Go.WideShapes Go.ChangeAt Go.RowKit Go.Deep Go.Maps Go.Proofs.Ytfgfiiknbkakaaa.Words Go.Proofs.Ytfgfiiknbkakaaa.Oct Go.Proofs.Ytfgfiiknbkakaaa.Par Go.Proofs.Ytfgfiiknbkakaaa.Chk Go.Proofs.Ytfgfiiknbkakaaa.Mx
structure Box3 (w W : World) (t1 t2 t3 : TypeId) (c1 c2 c3 : Array Value) : Prop where
  bel : Below w.heap.size w W
  b1 : Blk W w.heap.size t1 c1
  b2 : Blk W (w.heap.size + 1) t2 c2
  b3 : Blk W (w.heap.size + 1 + 1) t3 c3
theorem box3 (w : World) (t1 t2 t3 : TypeId) (c1 c2 c3 : Array Value) : Box3 w (((w.alloc (.cells c1 t1)).alloc (.cells c2 t2)).alloc (.cells c3 t3)) t1 t2 t3 c1 c2 c3 := by
  refine ⟨(((Below.refl _ w).alloc (Nat.le_refl _) _).alloc (by simp) _).alloc (by simp; omega) _, ((Blk.new w t1 c1).alloc _).alloc _, ?_, ?_⟩
  · exact (blk_newAt _ _ (by simp) t2 c2).alloc _
  · exact blk_newAt _ _ (by simp) t3 c3
theorem set_5 (c : Ck) (A : Option Addr) (n cp t : Nat) : (bareA c A n cp).setIfInBounds 5 (.int .u32 (t : Int)) = bareA { c with tsn := t } A n cp := rfl
/-- What the clone of a chunk is told as. -/
def ClnV (B : Nat) (c : Ck) (v : Value) (V : World) : Prop := ∃ b : Hd, v = .agg (bareA c b.A c.body.length b.cap) ∧ Own V B (b.v c.body.length) c.body
def FraV (B : Nat) (q : Pt) (v : Value) (V : World) : Prop := ∃ b : Hd, v = .agg (frA q b) ∧ Own V B (b.v q.c.body.length) q.c.body
theorem own_below {w w' : World} {B : Nat} {v : Value} {l : List UInt8} (h : Own w B v l) (hb : Below w.heap.size w w') : Own w' B v l := (Fr.of_below hb).own h (fun g hg e => by have e' : w.heap.size ≤ g := e; have := (h.lt g hg).2; omega)
theorem ClnV.lasts {B : Nat} {c : Ck} {v : Value} {V V' : World} (h : ClnV B c v V) (hb : Below V.heap.size V V') : ClnV B c v V' := by
  obtain ⟨b, e, ho⟩ := h
  exact ⟨b, e, own_below ho hb⟩
theorem FraV.lasts {B : Nat} {q : Pt} {v : Value} {V V' : World} (h : FraV B q v V) (hb : Below V.heap.size V V') : FraV B q v V' := by
  obtain ⟨b, e, ho⟩ := h
  exact ⟨b, e, own_below ho hb⟩
theorem built_new (k : Int) (lk ln now : Nat) (c : Ck) (b : Hd) : Try.prog.built 94 [(0, .int .i64 k), (1, .agg #[.int .i64 (lk : Int), .int .u32 (ln : Int)]), (2, .int .u64 1), (3, .int .u32 (now : Int)), (5, .int .i64 0), (6, .agg (bareA c b.A c.body.length b.cap))] = some (frA ⟨k, lk, ln, 1, now, 0, 0, c⟩ b) := by kernel_rfl
theorem exec_buildR {P : Program} {ρ : Operand → Value} {o : Oper} {w : World} {t : TypeId} {parts : Array (Nat × Operand)} {cells : Array Value} (ho : o.op = .build t parts) (hf : P.built t (parts.map fun (i, x) => (i, ρ x)).toList = some cells) :
    (execOp ρ o).run P w = .ok (.value (.agg cells)) w := by
  unfold execOp
  simp only [ho, Sem.run_bind, run_build w t _ cells hf, Result.andThen_ok, Sem.run_pure]
theorem exec_build_new {ρ : Operand → Value} {o : Oper} {w : World} {x0 x1 x2 x3 x5 x6 : Operand} (ho : o.op = .build 94 #[(0, x0), (1, x1), (2, x2), (3, x3), (5, x5), (6, x6)]) {k : Int} {lk ln now : Nat} {c : Ck} {b : Hd} (h0 : ρ x0 = .int .i64 k) (h1 : ρ x1 = .agg #[.int .i64 (lk : Int), .int .u32 (ln : Int)]) (h2 : ρ x2 = .int .u64 1) (h3 : ρ x3 = .int .u32 (now : Int)) (h5 : ρ x5 = .int .i64 0) (h6 : ρ x6 = .agg (bareA c b.A c.body.length b.cap)) :
    (execOp ρ o).run Try.prog w = .ok (.value (.agg (frA ⟨k, lk, ln, 1, now, 0, 0, c⟩ b))) w := by
  refine exec_buildR ho ?_
  have e : ((#[(0, x0), (1, x1), (2, x2), (3, x3), (5, x5), (6, x6)] : Array (Nat × Operand)).map fun (i, x) => (i, ρ x)).toList = [(0, .int .i64 k), (1, .agg #[.int .i64 (lk : Int), .int .u32 (ln : Int)]), (2, .int .u64 1), (3, .int .u32 (now : Int)), (5, .int .i64 0), (6, .agg (bareA c b.A c.body.length b.cap))] := by simp [h0, h1, h2, h3, h5, h6]
  rw [e]
  exact built_new k lk ln now c b
theorem lim_info : (Try.prog.info? 39).map (·.size) = some 2 := by kernel_rfl
theorem fill_u32 (t : Nat) : Instr.fill (fun i => some (i * 1, 1)) ((Array.range (1 * 1)).map ((Value.int .u32 0).cells[· % (Value.int .u32 0).cells.size]!)) [(0, .int .u32 (t : Int))] = some #[.int .u32 (t : Int)] := by kernel_rfl
theorem exec_slice_u32 {ρ : Operand → Value} {o : Oper} {w : World} (x : Operand) (ho : o.op = .buildSlice 31 1 #[(0, x)]) {t : Nat} (hx : ρ x = .int .u32 (t : Int)) :
    (execOp ρ o).run Try.prog w = .ok (.value (.slice (some ⟨w.heap.size, 0, none⟩) 1 1)) (w.alloc (.cells #[.int .u32 (t : Int)] 22)) := by
  obtain ⟨i, hi, hz, hs, _⟩ := info_parts3 u32_infoF
  refine exec_bslice 31 22 1 #[(0, x)] ho #[.int .u32 (t : Int)] i (.int .u32 0) Try.underlying31 hi hz (by rw [hs]; decide) (by rw [hs]; decide) ?_
  rw [hs]
  have e : ((#[(0, x)] : Array (Nat × Operand)).map fun (i, x) => (i, ρ x)).toList = [(0, .int .u32 (t : Int))] := by simp [hx]
  rw [e]
  exact fill_u32 t
section
variable {w w' : World} {p : Nat} {a : Ad} {m : FM} {s : FS} {k : Int}
theorem NumD.own (h : FlM w p a m) {d : Value} (hd : NumD a m k d) : ∀ i, d.ownBlock = some i → FG p a m i ∧ kd w i = some (22 + 1) := fun i hi => by
  by_cases e : m.nums k = []
  · rw [hd.1 e] at hi; simp [Value.ownBlock] at hi
  · rw [hd.2 e] at hi
    exact ⟨.inr (.inr (.inr (.inr (.inr (.inr (.inl ⟨k, e, hi⟩)))))), kd_num (h.row k e) hi⟩
theorem look_num {V : World} {d : Value} (h : MapZ Try.prog 3 V a.nu (numsF m.nums a.nm)) (hk : i64ok k) (hd : NumD a m k d) : (Instr.lookup 82 (.map (some a.nu)) (.int .i64 k) false).run Try.prog V = .ok d V := by
  have h1 := MapZ.look h (t := 82) Try.underlying82 (zero_nums _) hk
  rw [h1]
  unfold numsF
  by_cases e : m.nums k = []
  · rw [if_pos e, hd.1 e]; rfl
  · rw [if_neg e, hd.2 e]; rfl
theorem FG.add (h : FlM w p a m) {W8 : World} {L : Nat} {d v28 v9 : Value} {t : Nat} {q : Pt} {b : Hd} (hd : NumD a m k d) (h28 : v28.ownBlock = d.ownBlock ∨ ∃ g, v28.ownBlock = some g ∧ L ≤ g) (h9 : v9.ownBlock = a.v.ownBlock ∨ ∃ g, v9.ownBlock = some g ∧ L ≤ g) {B : Nat} (hB : L ≤ B) (hb : Own W8 B (b.v q.c.body.length) q.c.body) :
    ∀ i, FG p { putNm a k v28 with v := v9 } (addM (putNums m k t) (q, b)) i → FG p a m i ∨ L ≤ i := fun i hi => by
  have e1 : (addM (putNums m k t) (q, b)).nums = (putNums m k t).nums := (countM_other _ _ _).2.2.1
  have e2 : (addM (putNums m k t) (q, b)).xs = m.xs ++ [(q, b)] := (countM_eq _ _ _).1
  rcases hi with e | e | e | e | e | e | ⟨x, hx, e⟩ | ⟨y, hy, e⟩
  · exact .inl (.inl e)
  · change v9.ownBlock = some i at e
    rcases h9 with h9 | ⟨g, h9, h10⟩
    · rw [h9] at e; exact .inl (.inr (.inl e))
    · rw [h9] at e; injection e with e; exact .inr (by omega)
  · exact .inl (.inr (.inr (.inl e)))
  · exact .inl (.inr (.inr (.inr (.inl e))))
  · exact .inl (.inr (.inr (.inr (.inr (.inl e)))))
  · exact .inl (.inr (.inr (.inr (.inr (.inr (.inl e))))))
  · rw [e1] at hx
    change (if x = k then m.nums k ++ [t] else m.nums x) ≠ [] at hx
    change (if x = k then v28 else a.nm x).ownBlock = some i at e
    by_cases ex : x = k
    · rw [if_pos ex] at e
      rcases h28 with h28 | ⟨g, h28, h10⟩
      · rw [h28] at e; exact .inl (hd.own h i e).1
      · rw [h28] at e; injection e with e; exact .inr (by omega)
    · rw [if_neg ex] at e hx
      exact .inl (.inr (.inr (.inr (.inr (.inr (.inr (.inl ⟨x, hx, e⟩)))))))
  · rw [e2] at hy
    rcases List.mem_append.1 hy with hy | hy
    · exact .inl (.inr (.inr (.inr (.inr (.inr (.inr (.inr ⟨y, hy, e⟩)))))))
    · rw [List.mem_singleton.1 hy] at e
      exact .inr (Nat.le_trans hB (hb.lt i e).1)
def SendDone (w : World) (p : Nat) (a : Ad) (m : FM) (s : FS) (k : Int) (lk ln : Nat) (c : Ck) (now : Nat) (e : Ending) (w' : World) : Prop := ∃ (A' : Option Addr) (cp' : Nat) (a' : Ad) (m' : FM), e = .returned (.agg (bareA { c with tsn := s.next } A' c.body.length cp')) ∧ FlS w' p a' m' (s.send k lk ln c now) ∧ Stp w w' p a m a' m'
set_option maxHeartbeats 8000000 in
theorem send_s (h : FlS w p a m s) {lk ln now : Nat} {c : Ck} {A : Option Addr} {n cp : Nat} (h1 : s.fresh = true) (h2 : s.ms.length < 1048576) (h3 : i64ok k) (h4 : lk < 256) (h5 : ln < 4294967296) (h6 : now < 4294967296) (h7 : Bare c) (h8 : c.ok) (h9 : c.body.length ≤ 1000000) (hn : n = c.body.length) (hy : Byt w w.heap.size A c.body) (hA : ∀ ad, A = some ad → ¬ FG p a m ad.block) :
    Calls Try.prog 11 #[fptr p, .int .i64 k, .agg #[.int .i64 (lk : Int), .int .u32 (ln : Int)], .agg (bareA c A n cp), .int .u32 (now : Int)] w (SendDone w p a m s k lk ln c now) := by
  obtain ⟨cs, hcs⟩ : ∃ cs, cs = bareA c A n cp := ⟨_, rfl⟩
  obtain ⟨ls, hls⟩ : ∃ ls, ls = (#[.int .i64 (lk : Int), .int .u32 (ln : Int)] : Array Value) := ⟨_, rfl⟩
  have HCS := Lib.hid hcs
  have HLS := Lib.hid hls
  have H := Lib.hid h
  have H1 : Hid (m.fresh = true) := h.inv.fresh.trans h1
  have H2 : Hid (m.ms.length < 1048576) := by rw [h.inv.ms]; exact h2
  have HXL : Hid (m.xs.length < 1048576) := by
    have e1 : m.xs.length = s.ps.length := by rw [← h.inv.ps, List.length_map]
    have e2 := h.inv.len.1
    unfold Hid
    omega
  have HNK : Hid ((m.nums k).length ≤ 1048576) := by
    obtain ⟨pl, hno, hnm⟩ := h.inv.nums
    rw [hnm k, List.length_map]
    have h10 : (pl k).length ≤ (List.range s.ps.length).length := nodup_sub _ _ (asc_nodup (hno.up k)) (fun j hj => by
      obtain ⟨r, hr, _⟩ := hno.at_ k j hj
      exact List.mem_range.2 (List.getElem?_eq_some_iff.1 hr).1)
    rw [List.length_range] at h10
    exact Nat.le_trans h10 h.inv.lt
  have H3 := Lib.hid h3
  have HIV : Hid (∀ b, IvM (addM (putNums m k s.next) (newP s k lk ln c now, b)) (s.send k lk ln c now)) := fun b => h.inv.send h2 h3 h4 h5 h6 h7 h8 h9
  have H5 := Lib.hid h5
  have H9 := Lib.hid h9
  have HN := Lib.hid hn
  have HY := Lib.hid hy
  have HA := Lib.hid hA
  rw [← hcs, ← hls]
  clear hcs hls h h1 h2 h3 h4 h5 h6 h7 h8 h9 hn hy hA
  go_enter Try.func11, Try.ntmps11
  go_upto_region 1 with (with_reducible refine wpList_alloc_run _ rfl 35 rfl (alloc_zk _) ?_)
  have hbox := box3 w 39 35 35 ls cs zkA
  have hszb : ((w.alloc (.cells ls 39)).alloc (.cells cs 35)).heap.size = w.heap.size + 1 + 1 := by simp
  obtain ⟨W1, hW1⟩ : ∃ W1, W1 = (((w.alloc (.cells ls 39)).alloc (.cells cs 35)).alloc (.cells zkA 35)) := ⟨_, rfl⟩
  rw [← hW1] at hbox ⊢
  rw [hszb]
  simp only [Act.put, List.setIfInBounds_toArray, List.set_cons_succ, List.set_cons_zero]
  clear hW1 hszb
  obtain ⟨g7, hg7⟩ : ∃ g, g = w.heap.size := ⟨_, rfl⟩
  obtain ⟨hbel, k1, k2, k3⟩ := hbox
  rw [← hg7] at k1 k2 k3 hbel ⊢
  obtain ⟨g8, hg8⟩ : ∃ g, g = g7 + 1 := ⟨_, rfl⟩
  rw [← hg8] at k2 k3 ⊢
  obtain ⟨g10, hg10⟩ : ∃ g, g = g8 + 1 := ⟨_, rfl⟩
  rw [← hg10] at k3 ⊢
  have HB1 : Hid (Below w.heap.size w W1) := by rw [← hg7]; exact hbel
  have HS1 := Lib.hid (H.out.below HB1.out)
  have HG : Hid (w.heap.size = g7 ∧ g7 < g8 ∧ g8 < g10) := ⟨hg7.symm, by omega, by omega⟩
  have HNF : Hid (∀ g, w.heap.size ≤ g → ¬ FG p a m g) := fun g hg e => by have := H.out.mem.lt e; omega
  have HK7 := Lib.hid k1
  have HK8 := Lib.hid k2
  have HK10 := Lib.hid k3
  have HSZ : Hid (cs.size = 19) := by rw [HCS.out]; rfl
  clear hg7 hg8 hg10 hbel k1 k2 k3
  go_wp2_with fail
  refine (next_s HS1.out).mono ?_
  rintro e W2 ⟨rfl, hb2⟩
  obtain ⟨nx, hnx⟩ : ∃ nx, nx = s.next := ⟨_, rfl⟩
  rw [← hnx] at HIV ⊢
  have HNX := Lib.hid hnx
  have HB2 : Hid (Below w.heap.size w W2) := HB1.out.trans (hb2.mono HB1.out.size)
  have HL7 := Lib.hid (blk_below HK7.out hb2)
  have hk8 := blk_below HK8.out hb2
  have HL10 := Lib.hid (blk_below HK10.out hb2)
  have f8 := hk8.frozen 5
  have c8 : W2.cell? ⟨g8, 5, none⟩ = some (.int .u32 (c.tsn : Int)) := (hk8.cell 5).trans (by rw [HCS.out]; rfl)
  obtain ⟨W3, hW3⟩ : ∃ W3, W3 = W2.setCell ⟨g8, 5, none⟩ (.int .u32 (nx : Int)) := ⟨_, rfl⟩
  have hf3 : Fr (fun i => i = g8) W2 W3 := by rw [hW3]; exact fr_set _
  obtain ⟨c5, hc5⟩ : ∃ c5 : Ck, c5 = { c with tsn := nx } := ⟨_, rfl⟩
  have HC5 := Lib.hid hc5
  obtain ⟨cs3, hcs3⟩ : ∃ cs3, cs3 = bareA c5 A n cp := ⟨_, rfl⟩
  have HCS3 := Lib.hid hcs3
  have HM8 : Hid (Blk W3 g8 35 cs3) := by
    have := hk8.set_ 5 (.int .u32 (nx : Int))
    rw [HCS.out, set_5] at this
    rw [hW3, hcs3, hc5]
    exact this
  have HM7 : Hid (Blk W3 g7 39 ls) := hf3.blk HL7.out (fun e => by have e' : g7 = g8 := e; have := HG.out.2.1; omega)
  have HM10 : Hid (Blk W3 g10 35 zkA) := hf3.blk HL10.out (fun e => by have e' : g10 = g8 := e; have := HG.out.2.2; omega)
  have HB3 : Hid (Below w.heap.size w W3) := below_fr HB2.out hf3 (Nat.le_refl _) (fun i e => by have e' : i = g8 := e; have := HG.out; omega)
  have HS3 : Hid (FlM W3 p a m) := H.out.mem.below HB3.out
  clear hnx hb2 hk8 hf3 hc5 hcs3 HK7 HK8 HK10 HL7 HL10 HB1 HB2 HS1
  go_upto_region 2 with (fail)
  rw [← hW3]
  clear hW3 c8 f8
  obtain ⟨d, hd⟩ : ∃ d, d = if m.nums k = [] then nilV else a.nm k := ⟨_, rfl⟩
  have HD : Hid (NumD a m k d) := ⟨fun e => by rw [hd, if_pos e], fun e => by rw [hd, if_neg e]⟩
  obtain ⟨V3, hV3⟩ : ∃ V3, V3 = W3.drew := ⟨_, rfl⟩
  have HV3 := Lib.hid hV3
  have HBV : Hid (Below w.heap.size w V3) := by rw [hV3]; exact Below.drew HB3.out
  have HSV : Hid (FlM V3 p a m) := H.out.mem.below HBV.out
  have HKD : Hid (∀ i, d.ownBlock = some i → i < w.heap.size ∧ FG p a m i ∧ kd V3 i = some (22 + 1)) := fun i hi => by
    have h10 := HD.out.own HSV.out i hi
    exact ⟨H.out.mem.lt h10.1, h10⟩
  have HLT : Hid (∀ i, d.ownBlock = some i → i < V3.heap.size) := fun i hi => Nat.lt_of_lt_of_le (HKD.out i hi).1 HBV.out.size
  have hm8 : Blk V3 g8 35 cs3 := by rw [hV3]; exact HM8.out.drew
  have HCE : Hid (∀ V m', RwS V3 d m' V → V.cell? ⟨p, 7, none⟩ = some (.map (some a.nu)) ∧ V.cell? ⟨g8, 5, none⟩ = some (.int .u32 (nx : Int)) ∧ (Instr.lookup 82 (.map (some a.nu)) (.int .i64 k) false).run Try.prog V = .ok d V) := fun V m' hS => by
    have ne : ∀ g x, kd V3 g = some x → x ≠ 22 + 1 → ¬ d.ownBlock = some g := fun g x h10 h11 e => by
      have h12 := (HKD.out g e).2.2
      rw [h10] at h12
      injection h12 with h12
      exact h11 h12
    have b1 := hS.1.blk HSV.out.blk (ne _ _ (kd_blk HSV.out.blk) (by decide))
    have b2 := hS.1.blk hm8 (ne _ _ (kd_blk hm8) (by decide))
    exact ⟨b1.cell 7, (b2.cell 5).trans (by rw [HCS3.out, HC5.out]; rfl), look_num (HSV.out.num.fr hS.1 (ne _ _ (kd_mapz HSV.out.num) (by decide))) H3.out HD.out⟩
  clear hd hV3 hm8
  refine wp_region_stage_tail 15 (RwRel V3 d) (RwS V3 d) [(false, .exact (fptr p)),
      (false, .exact (fptr p)),
      (false, .exact (.pointer (some ⟨p, 7, none⟩))),
      (false, .exact (.map (some a.nu))),
      (false, .exact (.int .i64 k)),
      (false, .exact (fptr p)),
      (false, .exact (fptr p)),
      (false, .exact (.pointer (some ⟨p, 7, none⟩))),
      (false, .exact (.map (some a.nu))),
      (false, .exact (.int .i64 k)),
      (false, .exact (d)),
      (false, .exact (.pointer (some ⟨g8, 5, none⟩))),
      (false, .exact (.int .u32 (nx : Int))),
      (false, .grows (BldR V3.heap.size 22 #[.int .u32 (nx : Int)])),
      (true, .grows (AppR V3 22 1 d (m.nums k ++ [nx]).length (n32 (m.nums k ++ [nx]))))] (by kernel_rfl) (by kernel_rfl) (by kernel_rfl) rfl (of_decide_eq_true (by kernel_rfl)) (by kernel_rfl) (by kernel_rfl) ?lasts ?start ?walk
  case lasts => exact ⟨fun m v V V' _ h k => BldR.lasts h k, fun m v V V' hm h k => AppR.lasts (Nat.lt_of_le_of_lt (Nat.zero_le _) (hm rfl)) h k, trivial⟩
  case start => exact (by rw [← HV3.out]; exact ⟨Fr.refl _ _, fun _ => Fr.refl _ _⟩)
  case walk =>
    simp only [List.take_succ_cons, List.take_zero, List.drop_succ_cons, List.drop_zero]
    refine stageT_pure rfl (fun m V => ⟨HLT.out, Fr.refl _ V, fun _ => Fr.refl _ V⟩) (fun V m hS hl => by go_simp) ?_
    simp only [Act.put, List.setIfInBounds_toArray, List.set_cons_zero, List.set_cons_succ, List.cons_append, List.nil_append]
    refine stageT_pure rfl (fun m V => ⟨HLT.out, Fr.refl _ V, fun _ => Fr.refl _ V⟩) (fun V m hS hl => by go_simp) ?_
    simp only [Act.put, List.setIfInBounds_toArray, List.set_cons_zero, List.set_cons_succ, List.cons_append, List.nil_append]
    refine stageT_pure rfl (fun m V => ⟨HLT.out, Fr.refl _ V, fun _ => Fr.refl _ V⟩) (fun V m hS hl => by go_simp) ?_
    simp only [Act.put, List.setIfInBounds_toArray, List.set_cons_zero, List.set_cons_succ, List.cons_append, List.nil_append]
    refine stageT_pure rfl (fun m V => ⟨HLT.out, Fr.refl _ V, fun _ => Fr.refl _ V⟩) (fun V m hS hl => by
        have hc := (HCE.out V m hS).1
        go_simp) ?_
    simp only [Act.put, List.setIfInBounds_toArray, List.set_cons_zero, List.set_cons_succ, List.cons_append, List.nil_append]
    refine stageT_pure rfl (fun m V => ⟨HLT.out, Fr.refl _ V, fun _ => Fr.refl _ V⟩) (fun V m hS hl => by go_simp) ?_
    simp only [Act.put, List.setIfInBounds_toArray, List.set_cons_zero, List.set_cons_succ, List.cons_append, List.nil_append]
    refine stageT_pure rfl (fun m V => ⟨HLT.out, Fr.refl _ V, fun _ => Fr.refl _ V⟩) (fun V m hS hl => by go_simp) ?_
    simp only [Act.put, List.setIfInBounds_toArray, List.set_cons_zero, List.set_cons_succ, List.cons_append, List.nil_append]
    refine stageT_pure rfl (fun m V => ⟨HLT.out, Fr.refl _ V, fun _ => Fr.refl _ V⟩) (fun V m hS hl => by go_simp) ?_
    simp only [Act.put, List.setIfInBounds_toArray, List.set_cons_zero, List.set_cons_succ, List.cons_append, List.nil_append]
    refine stageT_pure rfl (fun m V => ⟨HLT.out, Fr.refl _ V, fun _ => Fr.refl _ V⟩) (fun V m hS hl => by go_simp) ?_
    simp only [Act.put, List.setIfInBounds_toArray, List.set_cons_zero, List.set_cons_succ, List.cons_append, List.nil_append]
    refine stageT_pure rfl (fun m V => ⟨HLT.out, Fr.refl _ V, fun _ => Fr.refl _ V⟩) (fun V m hS hl => by
        have hc := (HCE.out V m hS).1
        go_simp) ?_
    simp only [Act.put, List.setIfInBounds_toArray, List.set_cons_zero, List.set_cons_succ, List.cons_append, List.nil_append]
    refine stageT_pure rfl (fun m V => ⟨HLT.out, Fr.refl _ V, fun _ => Fr.refl _ V⟩) (fun V m hS hl => by go_simp) ?_
    simp only [Act.put, List.setIfInBounds_toArray, List.set_cons_zero, List.set_cons_succ, List.cons_append, List.nil_append]
    refine stageT_pure rfl (fun m V => ⟨HLT.out, Fr.refl _ V, fun _ => Fr.refl _ V⟩) (fun V m hS hl => by
        have hc := (HCE.out V m hS).2.2
        go_simp) ?_
    simp only [Act.put, List.setIfInBounds_toArray, List.set_cons_zero, List.set_cons_succ, List.cons_append, List.nil_append]
    refine stageT_pure rfl (fun m V => ⟨HLT.out, Fr.refl _ V, fun _ => Fr.refl _ V⟩) (fun V m hS hl => by go_simp) ?_
    simp only [Act.put, List.setIfInBounds_toArray, List.set_cons_zero, List.set_cons_succ, List.cons_append, List.nil_append]
    refine stageT_pure rfl (fun m V => ⟨HLT.out, Fr.refl _ V, fun _ => Fr.refl _ V⟩) (fun V m hS hl => by
        have hc := (HCE.out V m hS).2.1
        go_simp) ?_
    simp only [Act.put, List.setIfInBounds_toArray, List.set_cons_zero, List.set_cons_succ, List.cons_append, List.nil_append]
    refine stageT_grows rfl (fun V m hS hl => by
        show Words.Leaves _ _ _
        rw [exec_slice_u32 (t := nx) _ rfl rfl]
        exact ⟨⟨HLT.out, (Fr.refl _ V).alloc _, fun _ => (Fr.refl _ V).alloc _⟩, ⟨_, rfl, hS.1.size, Blk.new V _ _⟩, ⟨hS.1.alloc _, fun e => (hS.2 e).alloc _⟩⟩) (fun v27 => ?_)
    simp only [Act.put, List.setIfInBounds_toArray, List.set_cons_zero, List.set_cons_succ, List.cons_append, List.nil_append]
    refine stageT_move_grows rfl (fun V hS hl => by
        obtain ⟨g1, e1, hB1, hb1⟩ := (hl.1 (by kernel_rfl))
        have ho : V.ownsRow 0 22 1 d (m.nums k).length (n32 (m.nums k)) := (hS.2 rfl).own (HD.out.row0 HSV.out H1.out) (fun _ _ h => h)
        obtain ⟨v', w5, hrun, hr, hf⟩ := app_num (t := nx) ho HNK.out hb1
        show Words.Leaves _ _ _
        rw [exec_app rfl rfl e1 hrun]
        exact ⟨⟨HLT.out, hf, fun e => by omega⟩, hr.base hS.1.size, ⟨hS.1.same hf, fun e => by cases e⟩⟩) (fun v28 => ?_)
    simp only [Act.put, List.setIfInBounds_toArray, List.set_cons_zero, List.set_cons_succ, List.cons_append, List.nil_append]
    refine stageT_nil (fun V5 hS hF => ?_)
    have hF2 : BldR V3.heap.size 22 #[.int .u32 (nx : Int)] v27 V5 ∧ AppR V3 22 1 d (m.nums k ++ [nx]).length (n32 (m.nums k ++ [nx])) v28 V5 ∧ True := hF
    have HAP := Lib.hid hF2.2.1
    have HS5 := Lib.hid hS.1
    clear hF hF2 hS
    obtain ⟨A6, c6, hv6, h6a, h6b⟩ := own_slice HAP.out.1
    obtain ⟨l6, hl6⟩ : ∃ l6, l6 = (m.nums k ++ [nx]).length := ⟨_, rfl⟩
    rw [← hl6] at hv6
    rw [hv6] at HAP ⊢
    obtain ⟨v6, hve⟩ : ∃ v6 : Value, v6 = .slice A6 l6 c6 := ⟨_, rfl⟩
    rw [← hve] at HAP
    obtain ⟨W6, hmu, hf6, hm6⟩ := HSV.out.puts H1.out H3.out HD.out HS5.out HAP.out H2.out
    rw [hve] at hmu
    have HVE := Lib.hid hve
    have HM6 := Lib.hid hm6
    have HF6 := Lib.hid hf6
    have HT6 : Hid (Fr (FG p a m) w W6) := ((((Fr.refl (FG p a m) w).grows HBV.out).trans HS5.out (fun i hi e => (HKD.out i e).2.1)).trans hf6 (fun i _ e => .inr (.inr (.inr (.inl e)))))
    have ne : ∀ g x, kd V3 g = some x → x ≠ 22 + 1 → x ≠ 0 → (¬ d.ownBlock = some g) ∧ ¬ g = a.nu := fun g x h10 h11 h13 => ⟨fun e => by
      have h12 := (HKD.out g e).2.2
      rw [h10] at h12
      injection h12 with h12
      exact h11 h12, fun e => by
      rw [e, kd_mapz HSV.out.num] at h10
      injection h10 with h10
      exact h13 h10.symm⟩
    have blk6 : ∀ g t cs, Blk W3 g t cs → t ≠ 22 → Blk W6 g t cs := fun g t cs hb ht => by
      have hb' : Blk V3 g t cs := by rw [HV3.out]; exact hb.drew
      have h10 := ne _ _ (kd_blk hb') (fun e => ht (Nat.succ.inj e)) (Nat.succ_ne_zero _)
      exact hf6.blk (HS5.out.blk hb' h10.1) h10.2
    have HM67 := Lib.hid (blk6 _ _ _ HM7.out (by decide))
    have HM68 := Lib.hid (blk6 _ _ _ HM8.out (by decide))
    have HM610 := Lib.hid (blk6 _ _ _ HM10.out (by decide))
    have d7 : V5.cell? ⟨p, 7, none⟩ = some (.map (some a.nu)) := by
      have h10 := ne _ _ (kd_blk HSV.out.blk) (by decide) (by decide)
      exact (HS5.out.blk HSV.out.blk h10.1).cell 7
    have HSZ6 : Hid (w.heap.size ≤ W6.heap.size) := HT6.out.size
    clear hl6 hv6 h6a h6b hve hm6 hf6 ne blk6
    go_upto_region 3 with (fail)
    clear hmu d7 HCE
    obtain ⟨V7, hV7⟩ : ∃ V7, V7 = W6.drew := ⟨_, rfl⟩
    have HV7 := Lib.hid hV7
    have HM7' : Hid (FlM V7 p (putNm a k v6) (putNums m k nx)) := by rw [hV7]; exact HM6.out.below (Below.drew (Below.refl _ _))
    have HT7 : Hid (Fr (FG p a m) w V7) := by rw [hV7]; exact HT6.out.drew
    have HP7 : Hid (Blk V7 g7 39 ls) := by rw [hV7]; exact HM67.out.drew
    have HP8 : Hid (Blk V7 g8 35 cs3) := by rw [hV7]; exact HM68.out.drew
    have HP10 : Hid (Blk V7 g10 35 zkA) := by rw [hV7]; exact HM610.out.drew
    have HLI : Hid ((Try.prog.info? 39).map (·.size) = some ls.size) := by rw [HLS.out]; exact lim_info
    have HSZ3 : Hid (cs3.size = 19) := by rw [HCS3.out]; rfl
    have HCI3 : Hid ((Try.prog.info? 35).map (·.size) = some cs3.size) := by rw [HSZ3.out]; exact chunk_info
    have HB5 : Hid (c5.body = c.body) := by rw [HC5.out]; exact rfl
    have HCL : Hid (∀ V, Below V7.heap.size V7 V → Calls Try.prog 32 #[.agg cs3] V (CloneDone V c5)) := fun V hb => by
      rw [HCS3.out]
      refine clone_ck (by rw [HB5.out]; exact HN.out) (by rw [HB5.out]; exact H9.out) ?_
      rw [HB5.out]
      exact ((HT7.out.grows hb).byt HY.out (Nat.le_refl _) HA.out).more ((HT7.out.grows hb).size)
    have HCE7 : Hid (∀ V, Below V7.heap.size V7 V → Blk V g7 39 ls ∧ Blk V g8 35 cs3) := fun V hb => ⟨blk_below HP7.out hb, blk_below HP8.out hb⟩
    obtain ⟨q, hq⟩ : ∃ q : Pt, q = ⟨k, lk, ln, 1, now, 0, 0, c5⟩ := ⟨_, rfl⟩
    have HQ := Lib.hid hq
    clear hq hV7
    refine wp_region_stage_tail 7 (fun _ V V' => Below V.heap.size V V') (fun _ V => Below V7.heap.size V7 V) [(false, .exact (fptr p)),
        (false, .exact (.int .i64 k)),
        (false, .exact (.agg ls)),
        (false, .exact (.int .u32 (now : Int))),
        (false, .exact (.agg cs3)),
        (false, .grows (ClnV V7.heap.size c5)),
        (false, .grows (FraV V7.heap.size q))] (by kernel_rfl) (by kernel_rfl) (by kernel_rfl) rfl (of_decide_eq_true (by kernel_rfl)) (by kernel_rfl) (by kernel_rfl) ?lasts ?start ?walk
    case lasts => exact ⟨fun m v V V' _ h k => ClnV.lasts h k, fun m v V V' _ h k => FraV.lasts h k, trivial⟩
    case start => exact (by rw [← HV7.out]; exact Below.refl _ _)
    case walk =>
      simp only [List.take_succ_cons, List.take_zero, List.drop_succ_cons, List.drop_zero]
      refine stageT_pure rfl (fun _ V => Below.refl _ V) (fun V m hS hl => by go_simp) ?_
      simp only [Act.put, List.setIfInBounds_toArray, List.set_cons_zero, List.set_cons_succ, List.cons_append, List.nil_append]
      refine stageT_pure rfl (fun _ V => Below.refl _ V) (fun V m hS hl => by go_simp) ?_
      simp only [Act.put, List.setIfInBounds_toArray, List.set_cons_zero, List.set_cons_succ, List.cons_append, List.nil_append]
      refine stageT_pure rfl (fun _ V => Below.refl _ V) (fun V m hS hl => by
          have hb := (HCE7.out V hS).1
          exact exec_loadR rfl rfl (fun j u hu => by rw [hb.cellAdd]; exact hu) Try.underlying39 rfl HLI.out) ?_
      simp only [Act.put, List.setIfInBounds_toArray, List.set_cons_zero, List.set_cons_succ, List.cons_append, List.nil_append]
      refine stageT_pure rfl (fun _ V => Below.refl _ V) (fun V m hS hl => by go_simp) ?_
      simp only [Act.put, List.setIfInBounds_toArray, List.set_cons_zero, List.set_cons_succ, List.cons_append, List.nil_append]
      refine stageT_pure rfl (fun _ V => Below.refl _ V) (fun V m hS hl => by
          have hb := (HCE7.out V hS).2
          exact exec_loadR rfl rfl (fun j u hu => by rw [hb.cellAdd]; exact hu) Try.underlying35 rfl HCI3.out) ?_
      simp only [Act.put, List.setIfInBounds_toArray, List.set_cons_zero, List.set_cons_succ, List.cons_append, List.nil_append]
      refine stageT_grows rfl (fun V m hS hl => by
          go_simp
          refine Calls.mono (HCL.out V hS) ?_
          rintro e V' ⟨b, rfl, ho, hb⟩
          exact ⟨_, rfl, hb, ⟨b, rfl, own_mono ho hS.size⟩, hS.trans (hb.mono hS.size)⟩) (fun v34 => ?_)
      simp only [Act.put, List.setIfInBounds_toArray, List.set_cons_zero, List.set_cons_succ, List.cons_append, List.nil_append]
      refine stageT_grows rfl (fun V m hS hl => by
          obtain ⟨b, e1, ho⟩ := (hl.1 (by kernel_rfl))
          show Words.Leaves _ _ _
          rw [exec_build_new rfl rfl (congrArg Value.agg HLS.out) rfl rfl rfl e1]
          exact ⟨Below.refl _ _, ⟨b, by rw [HQ.out], by rw [HQ.out]; exact ho⟩, hS⟩) (fun v35 => ?_)
      simp only [Act.put, List.setIfInBounds_toArray, List.set_cons_zero, List.set_cons_succ, List.cons_append, List.nil_append]
      refine stageT_nil (fun V8 hS hF => ?_)
      have hF2 : ClnV V7.heap.size c5 v34 V8 ∧ FraV V7.heap.size q v35 V8 ∧ True := hF
      obtain ⟨b, hv35, ho⟩ := hF2.2.1
      rw [hv35]
      have HOB := Lib.hid ho
      have HB8 : Hid (Below V7.heap.size V7 V8) := hS
      clear hF hF2 hS ho hv35
      have HIN : Hid (IvM (addM (putNums m k nx) (q, b)) (s.send k lk ln c now)) := by
        have e : q = newP s k lk ln c now := by rw [HQ.out, HC5.out, HNX.out]; rfl
        rw [e]
        exact HIV.out b
      have hadd := add_m (HM7'.out.below HB8.out) (x := (q, b)) H1.out HXL.out (⟨H.out.inv.sm.nl, H.out.inv.sm.no, H.out.inv.sm.nb, H.out.inv.sm.df⟩ : SmM (putNums m k nx)) (own_mono HOB.out (Nat.zero_le _)) (by show q.c.body.length ≤ _; rw [HQ.out]; show c5.body.length ≤ _; rw [HB5.out]; exact H9.out) (by show q.ln < _; rw [HQ.out]; exact H5.out)
      change Calls Try.prog 31 #[fptr p, .agg (frA q b)] V8 _ at hadd
      go_wp2_with fail
      refine hadd.mono ?_
      rintro e V9 ⟨v9, rfl, hm9, hf9, hv9⟩
      have HM9 := Lib.hid hm9
      have HF9 : Hid (Fr (fun i => i = p ∨ i = a.de ∨ a.v.ownBlock = some i) V8 V9) := hf9
      have HSZ8 : Hid (w.heap.size ≤ V8.heap.size) := Nat.le_trans HT7.out.size HB8.out.size
      have HSZ3 : Hid (V3.heap.size ≤ V7.heap.size) := by
        have h12 := Nat.le_trans HS5.out.size HF6.out.size
        rw [HV7.out]
        exact h12
      have HV9 : Hid (v9.ownBlock = a.v.ownBlock ∨ ∃ g, v9.ownBlock = some g ∧ V3.heap.size ≤ g) := hv9.imp id (fun ⟨g, e, hl⟩ => ⟨g, e, Nat.le_trans (Nat.le_trans HSZ3.out HB8.out.size) hl⟩)
      have ha9 : ∀ i, (i = p ∨ i = a.de ∨ a.v.ownBlock = some i) → FG p a m i := fun i e => by
        rcases e with e | e | e
        · exact .inl e
        · exact .inr (.inr (.inr (.inr (.inl e))))
        · exact .inr (.inl e)
      have hn9 : ∀ g, w.heap.size ≤ g → ¬ (g = p ∨ g = a.de ∨ a.v.ownBlock = some g) := fun g hg e => HNF.out g hg (ha9 g e)
      have HT9 : Hid (Fr (FG p a m) w V9) := (HT7.out.grows HB8.out).trans hf9 (fun i _ e => ha9 i e)
      have hg := HG.out
      have HP98 := Lib.hid (hf9.blk (blk_below HP8.out HB8.out) (hn9 g8 (by omega)))
      have HP910 := Lib.hid (hf9.blk (blk_below HP10.out HB8.out) (hn9 g10 (by omega)))
      have HCL9 : Hid (Calls Try.prog 32 #[.agg cs3] V9 (CloneDone V9 c5)) := by
        rw [HCS3.out]
        refine clone_ck (by rw [HB5.out]; exact HN.out) (by rw [HB5.out]; exact H9.out) ?_
        rw [HB5.out]
        exact (HT9.out.byt HY.out (Nat.le_refl _) HA.out).more HT9.out.size
      clear hm9 hf9 hv9 ha9 hn9 hadd hg
      go_wp2_with (first | (refine wpList_load_row rfl 35 _ rfl g8 rfl 35 cs3 (0, 0) _ HP98.out Try.underlying35 rfl HCI3.out ?_))
      refine HCL9.out.mono ?_
      rintro e V10 ⟨b2, rfl, ho2, hb2⟩
      obtain ⟨R, hR⟩ : ∃ R, R = bareA c5 b2.A c5.body.length b2.cap := ⟨_, rfl⟩
      rw [← hR]
      have HR := Lib.hid hR
      have HRS : Hid (R.size = 19) := by rw [hR]; rfl
      have HRI : Hid ((Try.prog.info? 35).map (·.size) = some R.size) := by rw [HRS.out]; exact chunk_info
      have HZS : Hid (zkA.size = R.size) := by rw [HRS.out]; rfl
      have HR1 : Hid (R.all (·.oneCell') = true) := by rw [hR]; exact bareA_one _ _ _ _
      have HZ10 := Lib.hid (blk_below HP910.out hb2)
      have HB10 := Lib.hid hb2
      clear hR ho2 hb2
      go_wp2_with (refine wpList_store_row rfl 35 _ _ rfl _ R rfl rfl 35 zkA HZ10.out HRI.out HZS.out HR1.out ?_)
      refine bodyPost_ret (results_cell_row rfl _ _ g10 35 R (0, 0) _ rfl (setRow_blk HZ10.out) Try.underlying35 rfl HRI.out) rfl ?_
      have hg10 : w.heap.size ≤ g10 := by have := HG.out; omega
      have hfe : Fr (fun i => i = g10) V10 (V10.setRow g10 R) := setRow_fr _ _ _
      have hM10 := (HM9.out.below HB10.out)
      have hsub := FG.add H.out.mem (W8 := V8) (t := nx) (q := q) (b := b) HD.out (v28 := v6) (v9 := v9) HAP.out.2 HV9.out HSZ3.out HOB.out
      have hnew : ¬ FG p { putNm a k v6 with v := v9 } (addM (putNums m k nx) (q, b)) g10 := fun e => by
        have h11 := HM9.out.lt e
        have h12 : g10 < V3.heap.size := by rw [HV3.out]; exact HM10.out.lt
        rcases hsub g10 e with h13 | h13
        · exact HNF.out g10 hg10 h13
        · omega
      refine ⟨b2.A, b2.cap, _, _, by rw [HR.out, HC5.out, HNX.out], ⟨hM10.fr hfe (fun i e _ h => hnew (by rw [← show i = g10 from e]; exact h)), HIN.out⟩, ?_, fun i hi => (hsub i hi).imp id (fun h => Nat.le_trans HBV.out.size h)⟩
      exact (HT9.out.grows HB10.out).trans hfe (fun i hi e => by have e' : i = g10 := e; omega)
end
end Go.Proofs.Ytfgfiiknbkakaaa.Fl

namespace Go.Proofs
open Go.Shelf
def Try.sortQ_ren : Go.Shelf.Ren := ⟨fun | 6 => 62 | 15 => 73 | 14 => 72 | 28 => 85 | 29 => 86 | 20 => 77 | 21 => 78 | 22 => 79 | 23 => 80 | 24 => 81 | 25 => 82 | 26 => 83 | 27 => 84 | 46 => 96 | 47 => 97 | 48 => 98 | 49 => 99 | 50 => 100 | 57 => 105 | n => n, fun | 22 => 32 | 24 => 122 | 25 => 136 | 3 => 3 | 39 => 66 | 0 => 0 | 53 => 22 | 55 => 63 | 4 => 4 | 46 => 154 | 45 => 153 | 50 => 158 | 5 => 5 | 9 => 9 | 66 => 167 | 70 => 171 | 76 => 175 | 77 => 176 | n => n, fun | n => n⟩
theorem Try.sortQ : Go.Proofs.SlLaysF0.n6 Try.prog Try.sortQ_ren := {
  mixed := by kernel_rfl
  f6 := ⟨Try.f62.name, by decide, Try.func62.trans (congrArg some (by kernel_rfl))⟩
  f14 := ⟨Try.f72.name, by decide, Try.func72.trans (congrArg some (by kernel_rfl))⟩
  f15 := Try.func73.trans (congrArg some (by kernel_rfl))
  f20 := ⟨Try.f77.name, by decide, Try.func77.trans (congrArg some (by kernel_rfl))⟩
  f21 := ⟨Try.f78.name, by decide, Try.func78.trans (congrArg some (by kernel_rfl))⟩
  f22 := ⟨Try.f79.name, by decide, Try.func79.trans (congrArg some (by kernel_rfl))⟩
  f23 := ⟨Try.f80.name, by decide, Try.func80.trans (congrArg some (by kernel_rfl))⟩
  f24 := ⟨Try.f81.name, by decide, Try.func81.trans (congrArg some (by kernel_rfl))⟩
  f25 := ⟨Try.f82.name, by decide, Try.func82.trans (congrArg some (by kernel_rfl))⟩
  f26 := ⟨Try.f83.name, by decide, Try.func83.trans (congrArg some (by kernel_rfl))⟩
  f27 := ⟨Try.f84.name, by decide, Try.func84.trans (congrArg some (by kernel_rfl))⟩
  f28 := Try.func85.trans (congrArg some (by kernel_rfl))
  f29 := Try.func86.trans (congrArg some (by kernel_rfl))
  f46 := ⟨Try.f96.name, by decide, Try.func96.trans (congrArg some (by kernel_rfl))⟩
  f47 := Try.func97.trans (congrArg some (by kernel_rfl))
  f48 := Try.func98.trans (congrArg some (by kernel_rfl))
  f49 := ⟨Try.f99.name, by decide, Try.func99.trans (congrArg some (by kernel_rfl))⟩
  f50 := ⟨Try.f100.name, by decide, Try.func100.trans (congrArg some (by kernel_rfl))⟩
  f57 := ⟨Try.f105.name, by decide, Try.func105.trans (congrArg some (by kernel_rfl))⟩
  t0 := Try.underlying0
  a0 := Try.isAgg0
  z0 := Try.sizeOf0
  v0 := Try.zeroValue0
  t3 := Try.underlying3
  a3 := Try.isAgg3
  z3 := Try.sizeOf3
  v3 := Try.zeroValue3
  t4 := Try.underlying4
  a4 := Try.isAgg4
  z4 := Try.sizeOf4
  v4 := Try.zeroValue4
  t5 := Try.underlying5
  a5 := Try.isAgg5
  z5 := Try.sizeOf5
  v5 := Try.zeroValue5
  t9 := Try.underlying9
  a9 := Try.isAgg9
  z9 := Try.sizeOf9
  v9 := Try.zeroValue9
  t22 := Try.underlying32
  a22 := Try.isAgg32
  z22 := Try.sizeOf32
  v22 := Try.zeroValue32
  t25 := Try.underlying136
  a25 := Try.isAgg136
  z25 := Try.sizeOf136
  v25 := Try.zeroValue136
  t39 := Try.underlying66
  a39 := Try.isAgg66
  z39 := Try.sizeOf66
  v39 := Try.zeroValue66
  t45 := Try.underlying153
  a45 := Try.isAgg153
  z45 := Try.sizeOf153
  v45 := Try.zeroValue153
  t46 := Try.underlying154
  a46 := Try.isAgg154
  z46 := Try.sizeOf154
  v46 := Try.zeroValue154
  t50 := Try.underlying158
  a50 := Try.isAgg158
  z50 := Try.sizeOf158
  v50 := Try.zeroValue158
  t53 := Try.underlying22
  a53 := Try.isAgg22
  z53 := Try.sizeOf22
  v53 := Try.zeroValue22
  t55 := Try.underlying63
  a55 := Try.isAgg63
  z55 := Try.sizeOf63
  v55 := Try.zeroValue63
  t66 := Try.underlying167
  a66 := Try.isAgg167
  z66 := Try.sizeOf167
  v66 := Try.zeroValue167
  t70 := Try.underlying171
  a70 := Try.isAgg171
  z70 := Try.sizeOf171
  v70 := Try.zeroValue171
  t76 := Try.underlying175
  a76 := Try.isAgg175
  z76 := Try.sizeOf175
  v76 := Try.zeroValue175
  t77 := Try.underlying176
  a77 := Try.isAgg176
  z77 := Try.sizeOf176
  v77 := Try.zeroValue176 }
end Go.Proofs
