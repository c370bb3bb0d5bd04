/-
  Of the texts Words, TmPlain, Bytes, TmIf, TmFst, TmAn, TmNx: what the laws reach.
-/
import Derived.Test.YtfgfiiknbkakaaaRows
import Derived.WalkKit
import Derived.ProofKit
import Derived.Below
import Derived.Lib.Hide
import Derived.Laws.OwnMore
import Derived.Laws.Rows
import Derived.Laws.IdiomStrings
import Derived.Laws.BytesArg
import Derived.Laws.BitsAllLaws
import Derived.Lib.SlBytesConst
import Derived.Deep.AppendLies
import Derived.Deep.Draws
import Derived.Deep.QuietTactic
import Derived.BigQuiet
import Derived.Deep.RegionHeld3
import Derived.Maps.AppendAt
import Derived.RegionTactic
import Derived.OwnWalk
import Derived.StillTailTactics
import Derived.WalkSpells
import Derived.Deep.CutRange
import Derived.Laws.MakeOwn
import Derived.Deep.OwnRows
import Derived.Deep.DeepCutAuto
import Derived.Deep.CutBlock
import Derived.OpenShut

set_option linter.unusedVariables false
set_option linter.unusedSimpArgs false
namespace Go.Proofs.Ytfgfiiknbkakaaa.Words
open Go.ChangeShapes Go.WideShapes Go.ChangeAt Go.RowKit
theorem block_of_add (a : Addr) (n : Nat) : (a.add n).block = a.block := by unfold Addr.add; split <;> rfl
theorem add_of_add (a : Addr) (i j : Nat) : (a.add i).add j = a.add (i + j) := by
  unfold Addr.add
  by_cases hi : i = 0 <;> by_cases hj : j = 0 <;> simp [hi, hj, Nat.add_assoc]
def Reads (w : World) (B size : Nat) (A : Option Addr) (n : Nat) (xs : List Value) : Prop :=
  xs.length = n * size ∧ (0 < n → ∃ ad, A = some ad ∧ ad.block < B ∧ ∀ j u, xs[j]? = some u → w.cell? (ad.add j) = some u)
section
variable {w w' : World} {B B' size n : Nat} {A : Option Addr} {xs : List Value}
theorem Reads.none_ : Reads w B size A 0 [] := ⟨by simp, fun h => absurd h (by omega)⟩
theorem Reads.at_ {k : Nat} (h : Reads w B 1 A n xs) (hk : k < n) : ∃ ad u, A = some ad ∧ ad.block < B ∧ xs[k]? = some u ∧ w.cell? (ad.add k) = some u := by
  obtain ⟨ad, e, hb, hc⟩ := h.2 (by omega)
  have hl : k < xs.length := by have := h.1; omega
  exact ⟨ad, xs[k], e, hb, List.getElem?_eq_getElem hl, hc k _ (List.getElem?_eq_getElem hl)⟩
theorem Reads.keep (h : Reads w B size A n xs) (hk : ∀ p : Addr, p.block < B → w'.cell? p = w.cell? p) : Reads w' B size A n xs :=
  ⟨h.1, fun hn => by
    obtain ⟨ad, e, hb, hc⟩ := h.2 hn
    exact ⟨ad, e, hb, fun j u hu => (hk _ (by rw [block_of_add]; exact hb)).trans (hc j u hu)⟩⟩
theorem Reads.more (h : Reads w B size A n xs) (hB : B ≤ B') : Reads w B' size A n xs :=
  ⟨h.1, fun hn => by
    obtain ⟨ad, e, hb, hc⟩ := h.2 hn
    exact ⟨ad, e, by omega, hc⟩⟩
theorem Reads.below (h : Reads w B size A n xs) (hb : Below B w w') : Reads w' B size A n xs := h.keep fun _ hp => hb.cell hp
theorem Reads.drew (h : Reads w B size A n xs) : Reads w.drew B size A n xs := h
theorem Reads.drewN (h : Reads w B size A n xs) (k : Nat) : Reads (w.drewN k) B size A n xs := h
theorem Reads.alloc (h : Reads w B size A n xs) (hB : B ≤ w.heap.size) (o : Obj) : Reads (w.alloc o) B size A n xs := h.keep fun p hp => World.cell?_alloc_lt w o p (by omega)
theorem Reads.setCell (h : Reads w B size A n xs) {p : Addr} (hB : B ≤ p.block) (u : Value) : Reads (w.setCell p u) B size A n xs :=
  h.keep fun q hq => World.cell?_setCell_other w p q u (fun e => by subst e; omega)
theorem Reads.grown (h : Reads w B size A n xs) {row : Option Nat} (hg : w.grownBy w' row) (hB : B ≤ w.heap.size) (hr : ∀ g, row = some g → B ≤ g) : Reads w' B size A n xs :=
  h.keep fun p hp => World.cell?_of_block (hg.block p.block (by omega) (fun e => by have := hr _ e.symm; omega))
theorem Reads.cut (h : Reads w B size A n xs) {k cap : Nat} (hk : k ≤ n) (hc : n ≤ cap) :
    Reads w B size (if cap = k then A else A.map (·.add (k * size))) (n - k) (xs.drop (k * size)) := by
  refine ⟨by rw [List.length_drop, h.1, Nat.sub_mul], fun hn => ?_⟩
  obtain ⟨ad, rfl, hb, hcell⟩ := h.2 (by omega)
  rw [if_neg (by omega)]
  refine ⟨ad.add (k * size), rfl, by rw [block_of_add]; exact hb, fun j u hu => ?_⟩
  rw [add_of_add]
  exact hcell _ u (by rw [← hu, List.getElem?_drop])
theorem Reads.of_own {base : Nat} {e : TypeId} {c : Nat} (h : w.ownsRow base e size (.slice A n c) n xs) : Reads w w.heap.size size A n xs := by
  refine ⟨h.1, fun hn => ?_⟩
  obtain ⟨g, cap, hv, _, hlt⟩ := h.form hn
  have hA : A = some ⟨g, 0, none⟩ := by injection hv
  subst hA
  exact ⟨_, rfl, hlt, h.cells (g := g) rfl⟩
end
def Blk (w : World) (g : Nat) (t : TypeId) (cs : Array Value) : Prop := w.heap[g]? = some (.cells cs t (0, 0))
section
variable {w w' : World} {g : Nat} {t : TypeId} {cs : Array Value}
theorem Blk.lt (h : Blk w g t cs) : g < w.heap.size := by
  rcases Nat.lt_or_ge g w.heap.size with hlt | hge
  · exact hlt
  · unfold Blk at h; rw [Array.getElem?_eq_none hge] at h; cases h
theorem Blk.cell (h : Blk w g t cs) (i : Nat) : w.cell? ⟨g, i, none⟩ = cs[i]? := cell_of_row w g i cs t (0, 0) h
theorem Blk.frozen (h : Blk w g t cs) (i : Nat) : w.frozen? ⟨g, i, none⟩ = false := by
  unfold Blk at h
  simp [World.frozen?, h]
theorem Blk.new (w : World) (t : TypeId) (cs : Array Value) : Blk (w.alloc (.cells cs t)) w.heap.size t cs := heap_alloc_new w _
theorem Blk.drew (h : Blk w g t cs) : Blk w.drew g t cs := h
theorem Blk.drewN (h : Blk w g t cs) (n : Nat) : Blk (w.drewN n) g t cs := h
theorem Blk.alloc (h : Blk w g t cs) (o : Obj) : Blk (w.alloc o) g t cs := (Below.heap_alloc w o g h.lt).trans h
theorem Blk.set_ (h : Blk w g t cs) (i : Nat) (u : Value) : Blk (w.setCell ⟨g, i, none⟩ u) g t (cs.setIfInBounds i u) := by
  unfold Blk at h ⊢
  simp [World.setCell, Array.getElem?_modify, h]
theorem Blk.far (h : Blk w g t cs) {p : Addr} (hp : g ≠ p.block) (u : Value) : Blk (w.setCell p u) g t cs := (Below.heap_setCell w p u g hp).trans h
theorem Blk.below {B : Nat} (h : Blk w g t cs) (hb : Below B w w') (hg : g < B) : Blk w' g t cs := (hb.block g hg).trans h
theorem Blk.grown {row : Option Nat} (h : Blk w g t cs) (hb : w.grownBy w' row) (hg : some g ≠ row) : Blk w' g t cs := (hb.block g h.lt hg).trans h
theorem Blk.ne_ {g' : Nat} {t' : TypeId} {cs' : Array Value} (h : Blk w g t cs) (h' : Blk w g' t' cs') (hne : t ≠ t') : g ≠ g' := by
  rintro rfl
  unfold Blk at h h'
  rw [h] at h'
  injection h' with h'
  injection h' with _ ht
  exact hne ht
theorem own_blk_ne {base : Nat} {e : TypeId} {size n : Nat} {v : Value} {xs : List Value} (h : w.ownsRow base e size v n xs) (hg : Blk w g t cs) (hne : e ≠ t) : v.ownBlock ≠ some g := by
  rcases h.2 with ⟨rfl, _⟩ | ⟨g', cap, cur, rfl, _, hh, _⟩
  · simp [Value.ownBlock]
  · intro he
    have : g' = g := by simpa [Value.ownBlock] using he
    subst this
    exact Blk.ne_ (t := e) hh hg hne rfl
end
section
variable {P : Program} (w : World)
theorem run_append_of_nil (base : Nat) (t ty e : TypeId) (i : TypeInfo) (size : Nat) (ht : P.underlying t = some (.slice e)) (hi : P.info? e = some i)
    (v : Value) (n : Nat) (xs : List Value) (hown : w.ownsRow base e size v n xs) (c : Nat) : (Builtin.append_ #[t, t] ty #[v, .slice none 0 c]).run P w = .ok v w := by
  rcases hown.2 with ⟨rfl, rfl⟩ | ⟨g, cap, cur, rfl, _, _, hnc, _⟩
  · simp [Builtin.append_, run_underlying ht, sizeOf, typeInfo, hi, Builtin.lenOf, Builtin.firstCells]
  · simp [Builtin.append_, run_underlying ht, sizeOf, typeInfo, hi, Builtin.lenOf, Builtin.firstCells, hnc, storeCells]
theorem run_append_any (base : Nat) (t ty e : TypeId) (i : TypeInfo) (z : Value) (size bytes : Nat) (ht : P.underlying t = some (.slice e)) (hi : P.info? e = some i) (hz : i.zero = some z)
    (hsize : i.size = size) (hby : i.bytes = bytes) (hzs : z.cells.size = size) (hsz : 0 < size)
    (v : Value) (n : Nat) (xs : List Value) (hown : w.ownsRow base e size v n xs)
    (B : Nat) (A : Option Addr) (m c : Nat) (news : List Value) (hr : Reads w B size A m news) (h1 : ∀ u ∈ news, u.oneCell' = true)
    (h63 : n + m ≤ maxLen) (hbytes : (n + m) * bytes ≤ 140737488355328) (hbase : base ≤ w.heap.size) :
    ∃ v' w', (Builtin.append_ #[t, t] ty #[v, .slice A m c]).run P w = .ok v' w' ∧ w'.ownsRow base e size v' (n + m) (xs ++ news) ∧ w.grownBy w' v.ownBlock ∧
      (v'.ownBlock = v.ownBlock ∨ v'.ownBlock = some w.heap.size) := by
  rcases A with _ | ad
  · have hm : m = 0 := by
      rcases Nat.eq_zero_or_pos m with h0 | h0
      · exact h0
      · obtain ⟨ad, h, _⟩ := hr.2 h0
        cases h
    subst hm
    have hn : news = [] := List.eq_nil_of_length_eq_zero (by simpa using hr.1)
    subst hn
    exact ⟨v, w, run_append_of_nil w base t ty e i size ht hi v n xs hown c, by simpa using hown, World.grownBy.refl w _, .inl rfl⟩
  · have hcells : ∀ j u, news[j]? = some u → w.cell? (ad.add j) = some u := by
      intro j u hu
      rcases Nat.eq_zero_or_pos m with h0 | h0
      · subst h0
        have hn : news = [] := List.eq_nil_of_length_eq_zero (by simpa using hr.1)
        subst hn
        simp at hu
      · obtain ⟨ad', h, _, hc⟩ := hr.2 h0
        injection h with h
        subst h
        exact hc j u hu
    obtain ⟨v', w', hrun, h2, h3, _, h5⟩ := run_append_own_at (P := P) w base t ty e i z size bytes ht hi hz hsize hby hzs hsz v n xs hown ad m c news hr.1 hcells h1 h63 hbytes hbase
    exact ⟨v', w', hrun, h2, h3, h5⟩
theorem wp_append_any {o : Oper} {a : Act} {K : Act → World → Prop} {Q : Exit → Act → World → Prop} (s x : Operand) (t : TypeId)
    (ho : o.op = .call { callee := .builtin .append, args := #[s, x], argTypes := #[t, t] })
    (base : Nat) (e : TypeId) (i : TypeInfo) (z : Value) (size bytes : Nat) (ht : P.underlying t = some (.slice e)) (hi : P.info? e = some i) (hz : i.zero = some z)
    (hsize : i.size = size) (hby : i.bytes = bytes) (hzs : z.cells.size = size) (hsz : 0 < size)
    (v : Value) (n : Nat) (xs : List Value) (hs : a.eval s = v) (hown : w.ownsRow base e size v n xs)
    (B : Nat) (A : Option Addr) (m c : Nat) (news : List Value) (hx : a.eval x = .slice A m c) (hr : Reads w B size A m news) (h1 : ∀ u ∈ news, u.oneCell' = true)
    (h63 : n + m ≤ maxLen) (hbytes : (n + m) * bytes ≤ 140737488355328) (hbase : base ≤ w.heap.size)
    (h : ∀ v' w', w'.ownsRow base e size v' (n + m) (xs ++ news) → w.grownBy w' v.ownBlock → (v'.ownBlock = v.ownBlock ∨ v'.ownBlock = some w.heap.size) → K (a.put o.dst v') w') : o.wp P a w K Q := by
  obtain ⟨v', w', hrun, h2, h3, h4⟩ := run_append_any (P := P) w base t o.type e i z size bytes ht hi hz hsize hby hzs hsz v n xs hown B A m c news hr h1 h63 hbytes hbase
  unfold Oper.wp execOp
  simp only [ho, resolve, invoke, builtin, Sem.run_bind, Sem.run_pure, Result.andThen_ok, List.map_toArray, List.map_cons, List.map_nil, hs, hx, hrun]
  exact h v' w' h2 h3 h4
theorem wpList_append_any {ops : Array Oper} {rest : List Oper} {o : Oper} {a : Act} {Q : Exit → Act → World → Prop} (hgd : o.guard = none) (s x : Operand) (t : TypeId)
    (ho : o.op = .call { callee := .builtin .append, args := #[s, x], argTypes := #[t, t] })
    (base : Nat) (e : TypeId) (i : TypeInfo) (z : Value) (size bytes : Nat) (ht : P.underlying t = some (.slice e)) (hi : P.info? e = some i) (hz : i.zero = some z)
    (hsize : i.size = size) (hby : i.bytes = bytes) (hzs : z.cells.size = size) (hsz : 0 < size)
    (v : Value) (n : Nat) (xs : List Value) (hs : a.eval s = v) (hown : w.ownsRow base e size v n xs)
    (B : Nat) (A : Option Addr) (m c : Nat) (news : List Value) (hx : a.eval x = .slice A m c) (hr : Reads w B size A m news) (h1 : ∀ u ∈ news, u.oneCell' = true)
    (h63 : n + m ≤ maxLen) (hbytes : (n + m) * bytes ≤ 140737488355328) (hbase : base ≤ w.heap.size)
    (h : ∀ v' w', w'.ownsRow base e size v' (n + m) (xs ++ news) → w.grownBy w' v.ownBlock → (v'.ownBlock = v.ownBlock ∨ v'.ownBlock = some w.heap.size) → wpList P ops Q rest (a.put o.dst v') w') : wpList P ops Q (o :: rest) a w :=
  wpList_plain hgd fun _ hK => wp_append_any w s x t ho base e i z size bytes ht hi hz hsize hby hzs hsz v n xs hs hown B A m c news hx hr h1 h63 hbytes hbase fun v' w' h2 h3 h4 => hK _ _ (h v' w' h2 h3 h4)
end
/-- The cells of bytes. -/
def u8s (l : List UInt8) : List Value := l.map fun b => .int .u8 (b.toNat : Int)
theorem u8s_length (l : List UInt8) : (u8s l).length = l.length := by simp [u8s]
theorem u8s_get (l : List UInt8) (i : Nat) : (u8s l)[i]? = l[i]?.map fun b => .int .u8 (b.toNat : Int) := by simp [u8s]
theorem bounds_u8' {n : Int} (h : (Lit.int .u8 n).wf = true) : 0 ≤ n ∧ n ≤ 255 := by
  simp [Lit.wf, IntKind.min, IntKind.max, IntKind.signed, IntKind.bits] at h
  omega
/-- A slice of bytes that reads as the list l, below block B. -/
abbrev Byt (w : World) (B : Nat) (A : Option Addr) (l : List UInt8) : Prop := Reads w B 1 A l.length (u8s l)
theorem Blk.cellAdd {w : World} {g : Nat} {t : TypeId} {cs : Array Value} (h : Blk w g t cs) (i : Nat) : w.cell? ((⟨g, 0, none⟩ : Addr).add i) = cs[i]? := by
  rw [← h.cell i]
  unfold Addr.add
  split
  · rename_i e; rw [e]
  · simp
theorem Blk.byt {w : World} {B g : Nat} {t : TypeId} {cs : Array Value} (h : Blk w g t cs) (hB : g < B) {l : List UInt8} (hl : cs.toList.take l.length = u8s l) : Byt w B (some ⟨g, 0, none⟩) l := by
  refine ⟨by simp [u8s_length], fun _ => ⟨_, rfl, hB, fun j u hu => ?_⟩⟩
  rw [h.cellAdd, ← hu, ← hl, List.getElem?_take]
  have hj : j < l.length := by
    have := (List.getElem?_eq_some_iff.1 hu).1
    simpa [u8s_length] using this
  rw [if_pos hj]
  simp
theorem add_lit (x : Addr) {k : Nat} (hk : 0 < k) : x.add k = ⟨x.block, x.off + k, none⟩ := by unfold Addr.add; rw [if_neg (by omega)]
/-- What the shell tells of a slice of bytes that came in. -/
theorem bytes_of {w : World} {a : Option Addr} {len cap : Nat} {z : List Int}
    (h : (a = none ∧ len = 0 ∧ cap = 0 ∧ z = []) ∨ ∃ x, a = some x ∧ len ≤ cap ∧ cap ≤ maxLen ∧ z.length = cap ∧ (∀ i, i < z.length → w.cell? (x.add i) = some (.int .u8 (z.getD i 0))) ∧ ∀ n ∈ z, (Lit.int .u8 n).wf = true) :
    ∃ l : List UInt8, len = l.length ∧ l.length ≤ cap ∧ cap ≤ 9223372036854775807 ∧ Byt w w.heap.size a l := by
  rcases h with ⟨rfl, rfl, rfl, rfl⟩ | ⟨x, rfl, h1, h2, h3, h4, h5⟩
  · exact ⟨[], rfl, Nat.le_refl _, by omega, by unfold Byt; exact Reads.none_⟩
  · refine ⟨(z.take len).map fun n => UInt8.ofNat n.toNat, by simp; omega, by simp; omega, by unfold maxLen at h2; omega, ⟨by simp [u8s_length], fun hn => ⟨x, rfl, ?_, ?_⟩⟩⟩
    · have hl : 0 < z.length := by simp at hn; omega
      have := World.block_lt_of_cell? w _ (h4 0 hl)
      rwa [block_of_add] at this
    · intro j u hu
      rw [u8s_get, List.getElem?_map] at hu
      by_cases hj : j < len
      · have hj2 : j < z.length := by omega
        have hw := h5 z[j] (List.getElem_mem _)
        have hb : 0 ≤ z[j] ∧ z[j] ≤ 255 := bounds_u8' hw
        rw [List.getElem?_take, if_pos hj, List.getElem?_eq_getElem hj2] at hu
        simp only [Option.map_some, Option.some.injEq] at hu
        rw [h4 j hj2, ← hu, List.getD_eq_getElem?_getD, List.getElem?_eq_getElem hj2]
        simp only [Option.getD_some, UInt8.toNat_ofNat', Option.some.injEq, Value.int.injEq, true_and]
        omega
      · rw [List.getElem?_take, if_neg hj] at hu
        cases hu
theorem own_slice {w : World} {B : Nat} {e : TypeId} {size n : Nat} {v : Value} {xs : List Value} (h : w.ownsRow B e size v n xs) : ∃ A c, v = .slice A n c ∧ n ≤ c ∧ c ≤ 9223372036854775807 := by
  rcases h.2 with ⟨rfl, rfl⟩ | ⟨g, cap, cur, rfl, _, _, h1, h2, _⟩
  · exact ⟨_, _, rfl, Nat.le_refl _, by omega⟩
  · exact ⟨_, _, rfl, h1, by unfold maxLen at h2; omega⟩
theorem info_parts3 {P : Program} {e : TypeId} {z : Value} {s b : Nat} (h : (P.info? e).map (fun i => (i.zero, i.size, i.bytes)) = some (some z, s, b)) : ∃ i, P.info? e = some i ∧ i.zero = some z ∧ i.size = s ∧ i.bytes = b := by
  cases hp : P.info? e with
  | none => rw [hp] at h; cases h
  | some i => rw [hp] at h; simp at h; exact ⟨i, rfl, h.1, h.2.1, h.2.2⟩
theorem quiet_left {P : Program} {f : FuncId} {args : Array Value} {w : World} {n : Nat} {v : Value}
    (h : Calls P f args (w.drewN n) fun e w' => e = .returned v ∧ w.drewN n = w') : Calls P f args (w.drewN n) fun e w'' => e = .returned v ∧ ∃ m, w'' = w.drewN m :=
  h.mono fun _ _ ⟨he, hm⟩ => ⟨he, n, hm.symm⟩
theorem below_drewN {B : Nat} {a w : World} (h : Below B a w) (n : Nat) : Below B a (w.drewN n) := ⟨h.os, h.tape, h.output, h.size, h.block⟩
end Go.Proofs.Ytfgfiiknbkakaaa.Words

set_option linter.unusedVariables false
set_option linter.unusedSimpArgs false
namespace Go.Proofs.Ytfgfiiknbkakaaa.Tm
open Go.Proofs.Ytfgfiiknbkakaaa.Words
/-- When, and what for. -/
abbrev K := Nat × Int
def lt (a b : K) : Prop := a.1 < b.1 ∨ (a.1 = b.1 ∧ a.2 < b.2)
instance (a b : K) : Decidable (lt a b) := by unfold lt; exact inferInstance
def le (a b : K) : Prop := ¬ lt b a
theorem lt_irrefl (a : K) : ¬ lt a a := by unfold lt; omega
theorem lt_trans {a b c : K} (h : lt a b) (k : lt b c) : lt a c := by unfold lt at *; omega
theorem lt_le {a b : K} (h : lt a b) : le a b := by unfold le lt at *; omega
theorem le_refl (a : K) : le a a := lt_irrefl a
theorem le_trans {a b c : K} (h : le a b) (k : le b c) : le a c := by unfold le lt at *; omega
theorem lt_of_le_ne {a b : K} (h : le a b) (hn : a.2 ≠ b.2) : lt a b := by unfold le lt at *; omega
theorem le_anti {a b : K} (h : le a b) (k : le b a) : a = b := by
  obtain ⟨a1, a2⟩ := a
  obtain ⟨b1, b2⟩ := b
  unfold le lt at *
  dsimp only at *
  have h1 : a1 = b1 := by omega
  have h2 : a2 = b2 := by omega
  rw [h1, h2]
def ins (x : K) : List K → List K
  | [] => [x]
  | y :: l => if lt x y then x :: y :: l else y :: ins x l
def stop (k : Int) (L : List K) : List K := L.filter fun x => decide (x.2 ≠ k)
def put (k : Int) (a : Nat) (L : List K) : List K := ins (a, k) (stop k L)
def dueL (now : Nat) (L : List K) : List K := L.takeWhile fun x => decide (x.1 ≤ now)
def dueR (now : Nat) (L : List K) : List K := L.dropWhile fun x => decide (x.1 ≤ now)
def has (k : Int) (L : List K) : Bool := L.any fun x => decide (x.2 = k)
def at_ (k : Int) (L : List K) : Option Nat := (L.find? fun x => decide (x.2 = k)).map (·.1)
/-- Timers in order, each kind once. -/
structure Ok (L : List K) : Prop where
  srt : L.Pairwise lt
  kds : ∀ x ∈ L, ∀ y ∈ L, x.2 = y.2 → x = y
  bnd : ∀ x ∈ L, x.1 ≤ 18446744073709551615 ∧ -9223372036854775808 ≤ x.2 ∧ x.2 ≤ 9223372036854775807
section
variable {L : List K} {x y : K} {k : Int} {a now : Nat}
theorem Ok.nil : Ok [] := ⟨List.Pairwise.nil, fun x hx => (by cases hx), fun x hx => (by cases hx)⟩
theorem ins_mem {z : K} : z ∈ ins x L ↔ z = x ∨ z ∈ L := by
  induction L with
  | nil => simp [ins]
  | cons y l ih =>
    unfold ins
    split
    · simp
    · simp [ih]
      constructor
      · rintro (h | h | h) <;> simp [h]
      · rintro (h | h | h) <;> simp [h]
theorem ins_len : (ins x L).length = L.length + 1 := by
  induction L with
  | nil => rfl
  | cons y l ih =>
    unfold ins
    split
    · rfl
    · simp [ih]
theorem stop_mem {z : K} : z ∈ stop k L ↔ z ∈ L ∧ z.2 ≠ k := by
  unfold stop
  rw [List.mem_filter, decide_eq_true_eq]
theorem ins_srt (h : L.Pairwise lt) (hn : ∀ y ∈ L, y.2 ≠ x.2) : (ins x L).Pairwise lt := by
  induction L with
  | nil => exact List.pairwise_singleton _ _
  | cons y l ih =>
    obtain ⟨h1, h2⟩ := List.pairwise_cons.1 h
    unfold ins
    split
    · rename_i hlt
      refine List.pairwise_cons.2 ⟨fun z hz => ?_, h⟩
      rcases List.mem_cons.1 hz with rfl | hz
      · exact hlt
      · exact lt_trans hlt (h1 z hz)
    · rename_i hlt
      refine List.pairwise_cons.2 ⟨fun z hz => ?_, ih h2 (fun z hz => hn z (List.mem_cons_of_mem _ hz))⟩
      rcases ins_mem.1 hz with rfl | hz
      · exact lt_of_le_ne hlt (hn y List.mem_cons_self)
      · exact h1 z hz
theorem Ok.stop (h : Ok L) (k : Int) : Ok (stop k L) :=
  ⟨h.srt.sublist List.filter_sublist, fun x hx y hy e => h.kds x (stop_mem.1 hx).1 y (stop_mem.1 hy).1 e, fun x hx => h.bnd x (stop_mem.1 hx).1⟩
theorem Ok.put (h : Ok L) (hk : -9223372036854775808 ≤ k ∧ k ≤ 9223372036854775807) (ha : a ≤ 18446744073709551615) : Ok (put k a L) := by
  have h' := h.stop k
  refine ⟨ins_srt h'.srt (fun y hy => (stop_mem.1 hy).2), fun x hx y hy e => ?_, fun x hx => ?_⟩
  · rcases ins_mem.1 hx with rfl | hx
    · rcases ins_mem.1 hy with rfl | hy
      · rfl
      · exact absurd e.symm (stop_mem.1 hy).2
    · rcases ins_mem.1 hy with rfl | hy
      · exact absurd e (stop_mem.1 hx).2
      · exact h'.kds x hx y hy e
  · rcases ins_mem.1 hx with rfl | hx
    · exact ⟨ha, hk⟩
    · exact h'.bnd x hx
theorem put_mem {z : K} : z ∈ put k a L ↔ z = (a, k) ∨ (z ∈ L ∧ z.2 ≠ k) := by unfold put; rw [ins_mem, stop_mem]
theorem dueR_sub : ∀ z ∈ dueR now L, z ∈ L := fun z hz => (List.dropWhile_sublist _).subset hz
theorem due_app : dueL now L ++ dueR now L = L := List.takeWhile_append_dropWhile
theorem Ok.dueR (h : Ok L) : Ok (dueR now L) :=
  ⟨h.srt.sublist (List.dropWhile_sublist _), fun x hx y hy e => h.kds x (dueR_sub x hx) y (dueR_sub y hy) e, fun x hx => h.bnd x (dueR_sub x hx)⟩
theorem Ok.tail (h : Ok (x :: L)) : Ok L := ⟨(List.pairwise_cons.1 h.srt).2, fun a ha b hb e => h.kds a (List.mem_cons_of_mem _ ha) b (List.mem_cons_of_mem _ hb) e, fun a ha => h.bnd a (List.mem_cons_of_mem _ ha)⟩
theorem has_iff : has k L = true ↔ ∃ z ∈ L, z.2 = k := by
  unfold has
  rw [List.any_eq_true]
  simp only [decide_eq_true_eq]
theorem has_no : has k L = false ↔ ∀ z ∈ L, z.2 ≠ k := by
  constructor
  · intro h z hz e
    have := has_iff.2 ⟨z, hz, e⟩
    rw [h] at this
    cases this
  · intro h
    cases hh : has k L with
    | false => rfl
    | true => obtain ⟨z, hz, e⟩ := has_iff.1 hh; exact absurd e (h z hz)
theorem stop_none (h : has k L = false) : stop k L = L := by
  unfold stop
  rw [List.filter_eq_self]
  intro z hz
  rw [decide_eq_true_eq]
  exact has_no.1 h z hz
theorem at_some (h : Ok L) (hz : (a, k) ∈ L) : at_ k L = some a := by
  unfold at_
  cases hf : L.find? fun x => decide (x.2 = k) with
  | none => exact absurd (List.find?_eq_none.1 hf (a, k) hz) (by simp)
  | some z =>
    have h1 := List.mem_of_find?_eq_some hf
    have h2 : z.2 = k := by simpa using List.find?_some hf
    have := h.kds z h1 (a, k) hz h2
    rw [this]
    rfl
theorem at_none (h : has k L = false) : at_ k L = none := by
  unfold at_
  rw [List.find?_eq_none.2 (fun z hz => by simpa using has_no.1 h z hz)]
  rfl
theorem srt_nodup (h : L.Pairwise lt) : L.Nodup := List.Pairwise.imp (S := fun a b => a ≠ b) (fun {a b} hab e => lt_irrefl b (by rw [e] at hab; exact hab)) h
end
/-- An entry: its block, what for, when. -/
structure En where
  b : Nat
  k : Int
  a : Nat
def En.key (e : En) : K := (e.a, e.k)
abbrev Hp := Nat → En
def swp (f : Hp) (i j : Nat) : Hp := fun x => if x = i then f j else if x = j then f i else f x
theorem swp_l (f : Hp) (i j : Nat) : swp f i j i = f j := if_pos rfl
theorem swp_r {f : Hp} {i j : Nat} : swp f i j j = f i := by
  unfold swp
  split
  · rename_i h; rw [h]
  · rw [if_pos rfl]
theorem swp_o {f : Hp} {i j x : Nat} (h1 : x ≠ i) (h2 : x ≠ j) : swp f i j x = f x := by unfold swp; rw [if_neg h1, if_neg h2]
def par (j : Nat) : Nat := (j - 1) / 2
/-- Each but the first comes after its parent. -/
def Heap (f : Hp) (n : Nat) : Prop := ∀ j, 0 < j → j < n → le (f (par j)).key (f j).key
/-- So but around one place. -/
structure Near (f : Hp) (n i : Nat) : Prop where
  off : ∀ j, 0 < j → j < n → j ≠ i → par j ≠ i → le (f (par j)).key (f j).key
  far : ∀ j, 0 < j → j < n → par j = i → 0 < i → le (f (par i)).key (f j).key
/-- So but between one place and its parent. -/
structure Low (f : Hp) (n i : Nat) : Prop where
  off : ∀ j, 0 < j → j < n → j ≠ i → le (f (par j)).key (f j).key
  far : ∀ j, 0 < j → j < n → par j = i → 0 < i → le (f (par i)).key (f j).key
section
variable {f : Hp} {n i j c : Nat}
theorem Heap.near (h : Heap f n) (i : Nat) : Near f n i := ⟨fun j h1 h2 _ _ => h j h1 h2, fun j h1 h2 h3 h4 => by
  have a := h i h4 (by unfold par at h3; omega)
  have b := h j h1 h2
  rw [h3] at b
  exact le_trans a b⟩
theorem Near.congr {g : Hp} (h : Near f n i) (e : ∀ x, x ≠ i → g x = f x) : Near g n i := ⟨fun j h1 h2 h3 h4 => by rw [e _ h4, e _ h3]; exact h.off j h1 h2 h3 h4, fun j h1 h2 h3 h4 => by
  have : par i ≠ i := by unfold par; omega
  have h5 : j ≠ i := by rintro rfl; unfold par at h3; omega
  rw [e _ this, e _ h5]; exact h.far j h1 h2 h3 h4⟩
theorem Heap.cut (h : Heap f n) {m : Nat} (hm : m ≤ n) : Heap f m := fun j h1 h2 => h j h1 (by omega)
theorem Near.cut (h : Near f n i) {m : Nat} (hm : m ≤ n) : Near f m i := ⟨fun j h1 h2 h3 h4 => h.off j h1 (by omega) h3 h4, fun j h1 h2 h3 h4 => h.far j h1 (by omega) h3 h4⟩
/-- Down: the lesser child comes up. -/
theorem Near.down (h : Near f n i) (hc : c < n) (hp : par c = i) (hc0 : 0 < c) (hm : ∀ d, 0 < d → d < n → par d = i → le (f c).key (f d).key) (hl : lt (f c).key (f i).key) :
    Near (swp f i c) n c ∧ le (swp f i c (par c)).key (swp f i c c).key := by
  have hic : i ≠ c := by unfold par at hp; omega
  have hpi : ∀ x, par x = i → x ≠ i ∨ x = 0 := fun x hx => by unfold par at hx; omega
  refine ⟨⟨fun j h1 h2 h3 h4 => ?_, fun j h1 h2 h3 h4 => ?_⟩, ?_⟩
  · by_cases hj : j = i
    · subst hj
      rw [swp_l]
      have h5 : par j ≠ j := by unfold par; omega
      rw [swp_o h5 h4]
      exact h.far c hc0 hc hp h1
    · rw [swp_o hj h3]
      by_cases hq : par j = i
      · rw [hq, swp_l]; exact hm j h1 h2 hq
      · rw [swp_o hq h4]; exact h.off j h1 h2 hj hq
  · have hji : j ≠ i := by unfold par at h3 hp; omega
    have hjc : j ≠ c := by unfold par at h3; omega
    rw [hp, swp_l, swp_o hji hjc]
    have := h.off j h1 h2 hji (by omega)
    rw [h3] at this
    exact this
  · rw [hp, swp_l, swp_r]
    exact lt_le hl
/-- .. no child is less: but for its parent all is well. -/
theorem Near.low (h : Near f n i) (hm : ∀ d, 0 < d → d < n → par d = i → le (f i).key (f d).key) : Low f n i := ⟨fun j h1 h2 h3 => by
  by_cases hq : par j = i
  · rw [hq]; exact hm j h1 h2 hq
  · exact h.off j h1 h2 h3 hq, h.far⟩
theorem Low.heap (h : Low f n i) (hi : i = 0 ∨ le (f (par i)).key (f i).key) : Heap f n := fun j h1 h2 => by
  by_cases e : j = i
  · subst e
    rcases hi with hi | hi
    · omega
    · exact hi
  · exact h.off j h1 h2 e
/-- Up: what is less comes up. -/
theorem Low.up (h : Low f n j) (hj : j < n) (hj0 : 0 < j) (hl : lt (f j).key (f (par j)).key) : Low (swp f (par j) j) n (par j) := by
  obtain ⟨i, hi⟩ : ∃ i, i = par j := ⟨_, rfl⟩
  rw [← hi] at hl ⊢
  have hij : i ≠ j := by unfold par at hi; omega
  have hin : i < n := by unfold par at hi; omega
  refine ⟨fun k h1 h2 h3 => ?_, fun k h1 h2 h3 h4 => ?_⟩
  · by_cases e : k = j
    · subst e
      rw [← hi, swp_l, swp_r]
      exact lt_le hl
    · rw [swp_o h3 e]
      by_cases hq : par k = j
      · rw [hq, swp_r]
        have := h.far k h1 h2 hq hj0
        rw [← hi] at this
        exact this
      · by_cases hr : par k = i
        · rw [hr, swp_l]
          have := h.off k h1 h2 e
          rw [hr] at this
          exact le_trans (lt_le hl) this
        · rw [swp_o hr hq]
          exact h.off k h1 h2 e
  · have hpi : par i ≠ i := by unfold par; omega
    have hpj : par i ≠ j := by unfold par at hi ⊢; omega
    rw [swp_o hpi hpj]
    have a := h.off i h4 hin hij
    by_cases e : k = j
    · subst e
      rw [swp_r]
      exact a
    · have hki : k ≠ i := by unfold par at h3; omega
      rw [swp_o hki e]
      have b := h.off k h1 h2 e
      rw [h3] at b
      exact le_trans a b
/-- The first is the least. -/
theorem Heap.first (h : Heap f n) : ∀ j, j < n → le (f 0).key (f j).key := by
  intro j
  induction j using Nat.strongRecOn with
  | ind j ih =>
    intro hj
    by_cases h0 : j = 0
    · rw [h0]; exact le_refl _
    · have := ih (par j) (by unfold par; omega) (by unfold par; omega)
      exact le_trans this (h j (by omega) hj)
/-- The heap holds these timers. -/
structure Holds (f : Hp) (n : Nat) (L : List K) : Prop where
  len : L.length = n
  mem : ∀ z, z ∈ L ↔ ∃ j, j < n ∧ (f j).key = z
  inj : ∀ i j, i < n → j < n → (f i).k = (f j).k → i = j
theorem Holds.swp {L : List K} (h : Holds f n L) (hi : i < n) (hj : j < n) : Holds (swp f i j) n L := by
  have hm : ∀ x, x < n → ∃ y, y < n ∧ Tm.swp f i j x = f y ∧ (y = if x = i then j else if x = j then i else x) := fun x hx => by
    unfold Tm.swp
    split
    · exact ⟨j, hj, rfl, rfl⟩
    · split
      · exact ⟨i, hi, rfl, rfl⟩
      · exact ⟨x, hx, rfl, rfl⟩
  refine ⟨h.len, fun z => ?_, fun x y hx hy e => ?_⟩
  · rw [h.mem]
    constructor
    · rintro ⟨x, hx, rfl⟩
      by_cases h1 : x = i
      · exact ⟨j, hj, by rw [swp_r, h1]⟩
      · by_cases h2 : x = j
        · exact ⟨i, hi, by rw [swp_l, h2]⟩
        · exact ⟨x, hx, by rw [swp_o h1 h2]⟩
    · rintro ⟨x, hx, rfl⟩
      obtain ⟨y, hy, e, _⟩ := hm x hx
      exact ⟨y, hy, by rw [e]⟩
  · obtain ⟨x', hx', e1, e1'⟩ := hm x hx
    obtain ⟨y', hy', e2, e2'⟩ := hm y hy
    rw [e1, e2] at e
    have := h.inj _ _ hx' hy' e
    rw [e1', e2'] at this
    split at this <;> split at this <;> (try split at this) <;> (try split at this) <;> omega
theorem Holds.head {L : List K} (h : Holds f n L) (ho : Ok L) (hh : Heap f n) {z : K} {t : List K} (e : L = z :: t) : (f 0).key = z := by
  have h1 : 0 < n := by have := h.len; rw [e] at this; simp at this; omega
  have m0 := (h.mem _).2 ⟨0, h1, rfl⟩
  obtain ⟨j, hj, hz⟩ := (h.mem z).1 (by rw [e]; exact List.mem_cons_self)
  have h2 := hh.first j hj
  rw [hz] at h2
  rw [e] at m0
  rcases List.mem_cons.1 m0 with h3 | h3
  · exact h3
  · have hs := ho.srt
    rw [e] at hs
    exact le_anti h2 (lt_le ((List.pairwise_cons.1 hs).1 _ h3))
/-- The last is taken out. -/
theorem Holds.pop {L : List K} (h : Holds f (n + 1) L) (ho : Ok L) : Holds f n (stop (f n).k L) := by
  have hmem : ∀ z, z ∈ stop (f n).k L ↔ ∃ j, j < n ∧ (f j).key = z := fun z => by
    rw [stop_mem, h.mem]
    constructor
    · rintro ⟨⟨j, hj, rfl⟩, hk⟩
      rcases Nat.lt_or_ge j n with h1 | h1
      · exact ⟨j, h1, rfl⟩
      · exact absurd (show (f j).key.2 = (f n).k by rw [show j = n by omega]; rfl) hk
    · rintro ⟨j, hj, rfl⟩
      refine ⟨⟨j, by omega, rfl⟩, fun e => ?_⟩
      have := h.inj j n (by omega) (by omega) e
      omega
  have hn : (f n).key ∈ L := (h.mem _).2 ⟨n, by omega, rfl⟩
  refine ⟨?_, hmem, fun i j hi hj e => h.inj i j (by omega) (by omega) e⟩
  have h1 : L.erase (f n).key = stop (f n).k L := by
    rw [(srt_nodup ho.srt).erase_eq_filter]
    unfold stop
    refine List.filter_congr (fun z hz => ?_)
    by_cases e : z.2 = (f n).k
    · have := ho.kds z hz _ hn e
      rw [this]
      simp [En.key]
    · have : z ≠ (f n).key := fun e' => e (by rw [e']; rfl)
      simp [e, this]
  rw [← h1, List.length_erase_of_mem hn, h.len]
  rfl
theorem stop_ins_len {L : List K} {k : Int} {a : Nat} (h : Tm.has k L = false) : (put k a L).length = L.length + 1 := by unfold put; rw [ins_len, stop_none h]
/-- One more stands behind the others. -/
theorem Holds.push {L : List K} {e : En} (h : Holds f n L) (hno : Tm.has e.k L = false) (he : f n = e) : Holds f (n + 1) (put e.k e.a L) := by
  refine ⟨by rw [stop_ins_len hno, h.len], fun z => ?_, fun i j hi hj ek => ?_⟩
  · rw [put_mem, h.mem]
    constructor
    · rintro (rfl | ⟨⟨j, hj, rfl⟩, _⟩)
      · exact ⟨n, by omega, by rw [he]; rfl⟩
      · exact ⟨j, by omega, rfl⟩
    · rintro ⟨j, hj, rfl⟩
      rcases Nat.lt_or_ge j n with h1 | h1
      · exact .inr ⟨⟨j, h1, rfl⟩, has_no.1 hno _ ((h.mem _).2 ⟨j, h1, rfl⟩)⟩
      · exact .inl (by rw [show j = n by omega, he]; rfl)
  · have hk : ∀ x, x < n → (f x).k ≠ (f n).k := fun x hx e' => by
      rw [he] at e'
      exact has_no.1 hno _ ((h.mem _).2 ⟨x, hx, rfl⟩) e'
    rcases Nat.lt_or_ge i n with h1 | h1
    · rcases Nat.lt_or_ge j n with h2 | h2
      · exact h.inj i j h1 h2 ek
      · rw [show j = n by omega] at ek; exact absurd ek (hk i h1)
    · rcases Nat.lt_or_ge j n with h2 | h2
      · rw [show i = n by omega] at ek; exact absurd ek.symm (hk j h2)
      · omega
/-- One is set anew where it stands. -/
theorem Holds.reset {L : List K} {g : Hp} {a : Nat} (h : Holds f n L) (ho : Ok L) (hi : i < n) (hg : ∀ x, x ≠ i → g x = f x) (hk : (g i).k = (f i).k) (ha : (g i).a = a) : Holds g n (put (f i).k a L) := by
  have hkk : ∀ x, (g x).k = (f x).k := fun x => by
    by_cases e : x = i
    · rw [e, hk]
    · rw [hg x e]
  have hn : (f i).key ∈ L := (h.mem _).2 ⟨i, hi, rfl⟩
  refine ⟨?_, fun z => ?_, fun x y hx hy e => h.inj x y hx hy (by rw [← hkk, ← hkk]; exact e)⟩
  · have h1 : L.erase (f i).key = stop (f i).k L := by
      rw [(srt_nodup ho.srt).erase_eq_filter]
      unfold stop
      refine List.filter_congr (fun z hz => ?_)
      by_cases e : z.2 = (f i).k
      · have := ho.kds z hz _ hn e
        rw [this]
        simp [En.key]
      · have : z ≠ (f i).key := fun e' => e (by rw [e']; rfl)
        simp [e, this]
    unfold put
    rw [ins_len, ← h1, List.length_erase_of_mem hn, h.len]
    omega
  · rw [put_mem, h.mem]
    constructor
    · rintro (rfl | ⟨⟨j, hj, rfl⟩, hz⟩)
      · refine ⟨i, hi, ?_⟩
        unfold En.key
        rw [hk, ha]
      · have : j ≠ i := fun e => hz (by rw [e]; rfl)
        exact ⟨j, hj, by rw [hg j this]⟩
    · rintro ⟨j, hj, rfl⟩
      by_cases e : j = i
      · left
        unfold En.key
        rw [e, hk, ha]
      · rw [hg j e]
        exact .inr ⟨⟨j, hj, rfl⟩, fun e' => e (h.inj j i hj hi e')⟩
end
end Go.Proofs.Ytfgfiiknbkakaaa.Tm

set_option linter.unusedVariables false
set_option linter.unusedSimpArgs false
namespace Go.Proofs.Ytfgfiiknbkakaaa.Words
open Go.ChangeShapes Go.WideShapes Go.ChangeAt Go.RowKit
/-- Only blocks of S, and new ones, have turned. -/
structure Fr (S : Nat → Prop) (w w' : World) : Prop where
  os : w'.os = w.os
  tape : w'.tape = w.tape
  output : w'.output = w.output
  size : w.heap.size ≤ w'.heap.size
  block : ∀ k, k < w.heap.size → ¬ S k → w'.heap[k]? = w.heap[k]?
section
variable {S S' T : Nat → Prop} {a b c w w' : World}
theorem Fr.refl (S : Nat → Prop) (w : World) : Fr S w w := ⟨rfl, rfl, rfl, Nat.le_refl _, fun _ _ _ => rfl⟩
theorem Fr.trans (h : Fr S a b) (k : Fr S' b c) (hs : ∀ x, x < a.heap.size → S' x → S x) : Fr S a c :=
  ⟨k.os.trans h.os, k.tape.trans h.tape, k.output.trans h.output, Nat.le_trans h.size k.size, fun x hx hn => (k.block x (Nat.lt_of_lt_of_le hx h.size) (fun hx' => hn (hs x hx hx'))).trans (h.block x hx hn)⟩
theorem Fr.same (h : Fr S a b) (k : Fr S b c) : Fr S a c := h.trans k (fun _ _ hx => hx)
theorem Fr.mono (h : Fr S a b) (hs : ∀ x, x < a.heap.size → S x → T x) : Fr T a b :=
  ⟨h.os, h.tape, h.output, h.size, fun x hx hn => h.block x hx (fun hx' => hn (hs x hx hx'))⟩
theorem Fr.drewN (h : Fr S a b) (n : Nat) : Fr S a (b.drewN n) := ⟨h.os, h.tape, h.output, h.size, h.block⟩
theorem Fr.drew (h : Fr S a b) : Fr S a b.drew := ⟨h.os, h.tape, h.output, h.size, h.block⟩
theorem Fr.alloc (h : Fr S a b) (o : Obj) : Fr S a (b.alloc o) :=
  ⟨h.os, h.tape, h.output, Nat.le_trans h.size (by simp), fun x hx hn => (Below.heap_alloc b o x (Nat.lt_of_lt_of_le hx h.size)).trans (h.block x hx hn)⟩
theorem Fr.setCell (h : Fr S a b) {p : Addr} (hp : S p.block ∨ a.heap.size ≤ p.block) (u : Value) : Fr S a (b.setCell p u) :=
  ⟨h.os, h.tape, h.output, by simpa [World.setCell] using h.size, fun x hx hn => (Below.heap_setCell b p u x (by
    rintro rfl
    rcases hp with hp | hp
    · exact hn hp
    · omega)).trans (h.block x hx hn)⟩
theorem Fr.grown {row : Option Nat} (h : Fr S a b) (k : b.grownBy c row) (hs : ∀ g, row = some g → S g ∨ a.heap.size ≤ g) : Fr S a c :=
  ⟨k.os.trans h.os, k.tape.trans h.tape, k.output.trans h.output, Nat.le_trans h.size k.size, fun x hx hn => (k.block x (Nat.lt_of_lt_of_le hx h.size) (fun e => by
    rcases hs x e.symm with h1 | h1
    · exact hn h1
    · omega)).trans (h.block x hx hn)⟩
theorem Fr.below {B : Nat} (h : Fr S a b) (k : Below B b c) (hs : ∀ x, B ≤ x → x < a.heap.size → S x) : Fr S a c :=
  ⟨k.os.trans h.os, k.tape.trans h.tape, k.output.trans h.output, Nat.le_trans h.size k.size, fun x hx hn => by
    rcases Nat.lt_or_ge x B with h1 | h1
    · exact (k.block x h1).trans (h.block x hx hn)
    · exact absurd (hs x h1 hx) hn⟩
theorem Fr.grows (h : Fr S a b) (k : Below b.heap.size b c) : Fr S a c := h.below k (fun x h1 h2 => by have := h.size; omega)
theorem Fr.of_below {B : Nat} (h : Below B a b) : Fr (fun k => B ≤ k) a b := ⟨h.os, h.tape, h.output, h.size, fun k _ hn => h.block k (by omega)⟩
theorem Fr.to_below {B : Nat} (h : Fr S a b) (hB : B ≤ a.heap.size) (hs : ∀ x, S x → B ≤ x) : Below B a b :=
  ⟨h.os, h.tape, h.output, h.size, fun x hx => h.block x (by omega) (fun h1 => by have := hs x h1; omega)⟩
/-- Behind something that lies below B, a step that turns what lies from B on alone. -/
theorem below_fr {B : Nat} (h : Below B a b) (k : Fr S b c) (hB : B ≤ a.heap.size) (hs : ∀ x, S x → B ≤ x) : Below B a c := h.trans (k.to_below (Nat.le_trans hB h.size) hs)
theorem Fr.of_grown {row : Option Nat} (h : a.grownBy b row) : Fr (fun k => some k = row) a b := ⟨h.os, h.tape, h.output, h.size, fun k hk hn => h.block k hk hn⟩
theorem Fr.blk {g : Nat} {t : TypeId} {cs : Array Value} (h : Fr S w w') (k : Blk w g t cs) (hg : ¬ S g) : Blk w' g t cs := (h.block g k.lt hg).trans k
theorem Fr.byt {B : Nat} {A : Option Addr} {l : List UInt8} (h : Fr S w w') (k : Byt w B A l) (hB : B ≤ w.heap.size) (hA : ∀ x, A = some x → ¬ S x.block) : Byt w' B A l :=
  ⟨k.1, fun hn => by
    obtain ⟨ad, e, hb, hc⟩ := k.2 hn
    exact ⟨ad, e, hb, fun j u hu => (World.cell?_of_block (h.block _ (by rw [block_of_add]; omega) (by rw [block_of_add]; exact hA ad e))).trans (hc j u hu)⟩⟩
theorem Fr.reads {B size n : Nat} {A : Option Addr} {xs : List Value} (h : Fr S w w') (k : Reads w B size A n xs) (hB : B ≤ w.heap.size) (hA : ∀ x, A = some x → ¬ S x.block) : Reads w' B size A n xs :=
  ⟨k.1, fun hn => by
    obtain ⟨ad, e, hb, hc⟩ := k.2 hn
    exact ⟨ad, e, hb, fun j u hu => (World.cell?_of_block (h.block _ (by rw [block_of_add]; omega) (by rw [block_of_add]; exact hA ad e))).trans (hc j u hu)⟩⟩
theorem Fr.own {B size n : Nat} {e : TypeId} {v : Value} {xs : List Value} (h : Fr S w w') (k : w.ownsRow B e size v n xs) (hv : ∀ g, v.ownBlock = some g → ¬ S g) : w'.ownsRow B e size v n xs := by
  refine ⟨k.1, ?_⟩
  rcases k.2 with hh | ⟨g, cap, cur, h1, h2, h3, h4⟩
  · exact .inl hh
  · subst h1
    have hlt : g < w.heap.size := Blk.lt (t := e) h3
    exact .inr ⟨g, cap, cur, rfl, h2, (h.block g hlt (hv g (by simp [Value.ownBlock]))).trans h3, h4⟩
end
/-- A row of bytes of the call's own. -/
abbrev Own (w : World) (B : Nat) (v : Value) (l : List UInt8) : Prop := w.ownsRow B 5 1 v l.length (u8s l)
theorem Own.byt {w : World} {B : Nat} {A : Option Addr} {c n : Nat} {l : List UInt8} (h : Own w B (.slice A n c) l) : Byt w w.heap.size A l := by
  have hn : n = l.length := by
    rcases h.2 with ⟨h1, h3⟩ | ⟨g, cap, cur, h1, _⟩
    · injection h1 with _ h2
      omega
    · injection h1
  subst hn
  exact Reads.of_own h
theorem own_mono {w : World} {B B' : Nat} {e : TypeId} {size n : Nat} {v : Value} {xs : List Value} (h : w.ownsRow B e size v n xs) (hB : B' ≤ B) : w.ownsRow B' e size v n xs := by
  refine ⟨h.1, ?_⟩
  rcases h.2 with h | ⟨g, cap, cur, h1, h2, h3⟩
  · exact .inl h
  · exact .inr ⟨g, cap, cur, h1, Nat.le_trans hB h2, h3⟩
end Go.Proofs.Ytfgfiiknbkakaaa.Words

set_option linter.unusedVariables false
set_option linter.unusedSimpArgs false
namespace Go.Proofs.Ytfgfiiknbkakaaa.Tm
open Go.ChangeShapes Go.WideShapes Go.ChangeAt Go.RowKit Go.Deep Go.Proofs.Ytfgfiiknbkakaaa.Words
abbrev tptr (p : Nat) : Value := .pointer (some ⟨p, 0, none⟩)
abbrev z64 (l : List Int) : List Value := l.map fun x => .int .i64 x
abbrev Mem := World → (Nat → Prop) → Nat → List K → Prop
/-- A table in memory hangs on its own blocks alone. -/
structure Rep (R : Mem) : Prop where
  fr : ∀ {w w' : World} {G S : Nat → Prop} {p : Nat} {L : List K}, R w G p L → Fr S w w' → (∀ i, S i → i < w.heap.size → ¬ G i) → R w' G p L
  lt : ∀ {w : World} {G : Nat → Prop} {p : Nat} {L : List K}, R w G p L → ∀ i, G i → i < w.heap.size
  ok : ∀ {w : World} {G : Nat → Prop} {p : Nat} {L : List K}, R w G p L → Ok L ∧ L.length ≤ 1000000
def Triv : Mem := fun _ G _ L => (∀ i, ¬ G i) ∧ L = []
theorem triv_rep : Rep Triv := ⟨fun h _ _ => h, fun h i hi => absurd hi (h.1 i), fun h => by rw [h.2]; exact ⟨Ok.nil, Nat.zero_le _⟩⟩
structure TmI (R : Mem) : Prop extends Rep R where
  zero : ∀ {w : World} {p : Nat}, Blk w p 58 #[.slice none 0 0, .map none] → R w (fun i => i = p) p []
  set : ∀ {w : World} {G : Nat → Prop} {p : Nat} {L : List K} {k : Int} {a : Nat}, R w G p L → L.length < 1000000 → (-9223372036854775808 ≤ k ∧ k ≤ 9223372036854775807) → a ≤ 18446744073709551615 →
    Calls Try.prog 18 #[tptr p, .int .i64 k, .int .u64 (a : Int)] w fun e w' => ∃ G', e = .returned (.tuple #[]) ∧ R w' G' p (put k a L) ∧ (∀ i, G' i → G i ∨ w.heap.size ≤ i) ∧ Fr G w w'
  stop : ∀ {w : World} {G : Nat → Prop} {p : Nat} {L : List K} {k : Int}, R w G p L → (-9223372036854775808 ≤ k ∧ k ≤ 9223372036854775807) →
    Calls Try.prog 20 #[tptr p, .int .i64 k] w fun e w' => ∃ G', e = .returned (.bool (has k L)) ∧ R w' G' p (stop k L) ∧ (∀ i, G' i → G i ∨ w.heap.size ≤ i) ∧ Fr G w w'
  due : ∀ {w : World} {G : Nat → Prop} {p : Nat} {L : List K} {now : Nat}, R w G p L → now ≤ 18446744073709551615 →
    Calls Try.prog 22 #[tptr p, .int .u64 (now : Int)] w fun e w' => ∃ (G' : Nat → Prop) (v : Value), e = .returned v ∧ w'.ownsRow w.heap.size 3 1 v (dueL now L).length (z64 ((dueL now L).map (·.2))) ∧ R w' G' p (dueR now L) ∧ (∀ i, G' i → G i ∨ w.heap.size ≤ i) ∧ (∀ g, v.ownBlock = some g → ¬ G' g) ∧ Fr G w w'
  next : ∀ {w : World} {G : Nat → Prop} {p : Nat} {L : List K}, R w G p L → Calls Try.prog 24 #[tptr p] w fun e w' => e = .returned (.tuple #[.int .u64 ((L.head?.map (·.1)).getD 0 : Nat), .bool (!L.isEmpty)]) ∧ Below w.heap.size w w'
  at' : ∀ {w : World} {G : Nat → Prop} {p : Nat} {L : List K} {k : Int}, R w G p L → (-9223372036854775808 ≤ k ∧ k ≤ 9223372036854775807) →
    Calls Try.prog 25 #[tptr p, .int .i64 k] w fun e w' => e = .returned (.tuple #[.int .u64 (((at_ k L).getD 0 : Nat) : Int), .bool (has k L)]) ∧ Below w.heap.size w w'
  len : ∀ {w : World} {G : Nat → Prop} {p : Nat} {L : List K}, R w G p L → Calls Try.prog 26 #[tptr p] w fun e w' => e = .returned (.int .i64 (L.length : Int)) ∧ Below w.heap.size w w'
  lenQ : ∀ {w : World} {G : Nat → Prop} {p : Nat} {L : List K}, R w G p L → Calls Try.prog 26 #[tptr p] w fun e w' => e = .returned (.int .i64 (L.length : Int)) ∧ w = w'
/-- Two tables of the call's own, apart from each other; beside them lie the blocks S. -/
structure T2 (R1 R2 : Mem) (w V : World) (p1 p2 : Nat) (L1 L2 : List K) (S G1 G2 : Nat → Prop) : Prop where
  r1 : R1 V G1 p1 L1
  r2 : R2 V G2 p2 L2
  o1 : ∀ i, G1 i → w.heap.size ≤ i
  o2 : ∀ i, G2 i → w.heap.size ≤ i
  ap : ∀ i, G1 i → ¬ G2 i
  si : ∀ i, S i → i < V.heap.size ∧ ¬ G1 i ∧ ¬ G2 i
  bel : Below w.heap.size w V
def TW (R1 R2 : Mem) (w V : World) (p1 p2 : Nat) (L1 L2 : List K) (S : Nat → Prop) : Prop := ∃ G1 G2, T2 R1 R2 w V p1 p2 L1 L2 S G1 G2
/-- The blocks S have kept. -/
abbrev Kp (S : Nat → Prop) (V V' : World) : Prop := Fr (fun i => ¬ S i) V V'
section
variable {R1 R2 : Mem} {w V V' : World} {p1 p2 : Nat} {L1 L2 L' : List K} {S S' G1 G2 G' : Nat → Prop}
theorem TW.bel (h : TW R1 R2 w V p1 p2 L1 L2 S) : Below w.heap.size w V := by obtain ⟨G1, G2, h⟩ := h; exact h.bel
theorem TW.swap (h : TW R1 R2 w V p1 p2 L1 L2 S) : TW R2 R1 w V p2 p1 L2 L1 S := by
  obtain ⟨G1, G2, h⟩ := h
  exact ⟨G2, G1, h.r2, h.r1, h.o2, h.o1, fun i h2 h1 => h.ap i h1 h2, fun i hi => ⟨(h.si i hi).1, (h.si i hi).2.2, (h.si i hi).2.1⟩, h.bel⟩
theorem T2.step (I2 : Rep R2) (h : T2 R1 R2 w V p1 p2 L1 L2 S G1 G2) (hr : R1 V' G' p1 L') (hg : ∀ i, G' i → G1 i ∨ V.heap.size ≤ i) (hf : Fr G1 V V') : T2 R1 R2 w V' p1 p2 L' L2 S G' G2 := by
  refine ⟨hr, I2.fr h.r2 hf (fun i h1 _ => h.ap i h1), fun i hi => ?_, h.o2, fun i hi h2 => ?_, fun i hi => ⟨Nat.lt_of_lt_of_le (h.si i hi).1 hf.size, fun hx => ?_, (h.si i hi).2.2⟩, below_fr h.bel hf (Nat.le_refl _) h.o1⟩
  · rcases hg i hi with h1 | h1
    · exact h.o1 i h1
    · exact Nat.le_trans h.bel.size h1
  · rcases hg i hi with h1 | h1
    · exact h.ap i h1 h2
    · have := I2.lt h.r2 i h2; omega
  · rcases hg i hx with h1 | h1
    · exact (h.si i hi).2.1 h1
    · have := (h.si i hi).1; omega
theorem T2.kp (h : T2 R1 R2 w V p1 p2 L1 L2 S G1 G2) (hf : Fr G1 V V') : Kp S V V' := hf.mono fun x _ hx hs => (h.si x hs).2.1 hx
theorem T2.grows (I1 : Rep R1) (I2 : Rep R2) (h : T2 R1 R2 w V p1 p2 L1 L2 S G1 G2) (hb : Below V.heap.size V V') : T2 R1 R2 w V' p1 p2 L1 L2 S G1 G2 :=
  ⟨I1.fr h.r1 (Fr.of_below hb) (fun i h1 h2 _ => by omega), I2.fr h.r2 (Fr.of_below hb) (fun i h1 h2 _ => by omega), h.o1, h.o2, h.ap, fun i hi => ⟨Nat.lt_of_lt_of_le (h.si i hi).1 hb.size, (h.si i hi).2⟩, h.bel.trans (hb.mono h.bel.size)⟩
theorem TW.grows (I1 : Rep R1) (I2 : Rep R2) (h : TW R1 R2 w V p1 p2 L1 L2 S) (hb : Below V.heap.size V V') : TW R1 R2 w V' p1 p2 L1 L2 S := by
  obtain ⟨G1, G2, h⟩ := h
  exact ⟨G1, G2, h.grows I1 I2 hb⟩
/-- New blocks stand beside them. -/
theorem TW.more (I1 : Rep R1) (I2 : Rep R2) (h : TW R1 R2 w V p1 p2 L1 L2 S) (hb : Below V.heap.size V V') (hs : ∀ i, S' i → S i ∨ (V.heap.size ≤ i ∧ i < V'.heap.size)) : TW R1 R2 w V' p1 p2 L1 L2 S' := by
  obtain ⟨G1, G2, h⟩ := h
  have h' := h.grows I1 I2 hb
  refine ⟨G1, G2, h'.r1, h'.r2, h'.o1, h'.o2, h'.ap, fun i hi => ?_, h'.bel⟩
  rcases hs i hi with h1 | ⟨h1, h2⟩
  · exact h'.si i h1
  · exact ⟨h2, fun hg => by have := I1.lt h.r1 i hg; omega, fun hg => by have := I2.lt h.r2 i hg; omega⟩
/-- A row beside them has grown, maybe into a new block. -/
theorem TW.grown (I1 : Rep R1) (I2 : Rep R2) (h : TW R1 R2 w V p1 p2 L1 L2 S) {row : Option Nat} (hb : V.grownBy V' row) (hr : ∀ g, row = some g → S g ∧ w.heap.size ≤ g) (hs : ∀ i, S' i → S i ∨ (V.heap.size ≤ i ∧ i < V'.heap.size)) : TW R1 R2 w V' p1 p2 L1 L2 S' := by
  have hf : Fr (fun i => some i = row) V V' := Fr.of_grown hb
  obtain ⟨G1, G2, h⟩ := h
  have hw : Below w.heap.size w V' := below_fr h.bel hf (Nat.le_refl _) (fun i e => (hr i e.symm).2)
  refine ⟨G1, G2, I1.fr h.r1 hf (fun i h1 _ h2 => (h.si i (hr i h1.symm).1).2.1 h2), I2.fr h.r2 hf (fun i h1 _ h2 => (h.si i (hr i h1.symm).1).2.2 h2), h.o1, h.o2, h.ap, fun i hi => ?_, hw⟩
  rcases hs i hi with h1 | ⟨h1, h2⟩
  · exact ⟨Nat.lt_of_lt_of_le (h.si i h1).1 hb.size, (h.si i h1).2⟩
  · exact ⟨h2, fun hg => by have := I1.lt h.r1 i hg; omega, fun hg => by have := I2.lt h.r2 i hg; omega⟩
variable (I : TmI R1) (I2 : Rep R2) {k : Int} {a now : Nat}
include I I2
theorem TW.set (h : TW R1 R2 w V p1 p2 L1 L2 S) (hl : L1.length < 1000000) (hk : -9223372036854775808 ≤ k ∧ k ≤ 9223372036854775807) (ha : a ≤ 18446744073709551615) :
    Calls Try.prog 18 #[tptr p1, .int .i64 k, .int .u64 (a : Int)] V fun e w' => e = .returned (.tuple #[]) ∧ Hid (TW R1 R2 w w' p1 p2 (put k a L1) L2 S) ∧ Hid (Kp S V w') := by
  obtain ⟨G1, G2, h⟩ := h
  exact (I.set h.r1 hl hk ha).mono (by rintro e w' ⟨G', rfl, hr, hg, hf⟩; exact ⟨rfl, ⟨G', G2, h.step I2 hr hg hf⟩, h.kp hf⟩)
theorem TW.stop (h : TW R1 R2 w V p1 p2 L1 L2 S) (hk : -9223372036854775808 ≤ k ∧ k ≤ 9223372036854775807) :
    Calls Try.prog 20 #[tptr p1, .int .i64 k] V fun e w' => e = .returned (.bool (has k L1)) ∧ Hid (TW R1 R2 w w' p1 p2 (stop k L1) L2 S) ∧ Hid (Kp S V w') := by
  obtain ⟨G1, G2, h⟩ := h
  exact (I.stop h.r1 hk).mono (by rintro e w' ⟨G', rfl, hr, hg, hf⟩; exact ⟨rfl, ⟨G', G2, h.step I2 hr hg hf⟩, h.kp hf⟩)
/-- What Due hands back stands beside the tables from then on. -/
theorem TW.due (h : TW R1 R2 w V p1 p2 L1 L2 S) (hn : now ≤ 18446744073709551615) :
    Calls Try.prog 22 #[tptr p1, .int .u64 (now : Int)] V fun e w' => ∃ (A : Option Addr) (cp n : Nat), e = .returned (.slice A n cp) ∧ n ≤ cp ∧ cp ≤ 9223372036854775807 ∧ Hid (n = (dueL now L1).length) ∧ Hid (w'.ownsRow V.heap.size 3 1 (.slice A n cp) n (z64 ((dueL now L1).map (·.2)))) ∧ Hid (TW R1 R2 w w' p1 p2 (dueR now L1) L2 (fun i => S i ∨ ∃ g, (Value.slice A n cp).ownBlock = some g ∧ g = i)) ∧ Hid (Kp S V w') := by
  obtain ⟨G1, G2, h⟩ := h
  exact (I.due h.r1 hn).mono (by
    rintro e w' ⟨G', v, rfl, ho, hr, hg, hv, hf⟩
    obtain ⟨A, cp, rfl, h3, h4⟩ := own_slice ho
    have h5 := h.step I2 hr hg hf
    refine ⟨A, cp, _, rfl, h3, h4, rfl, ho, ⟨G', G2, h5.r1, h5.r2, h5.o1, h5.o2, h5.ap, fun i hi => ?_, h5.bel⟩, h.kp hf⟩
    rcases hi with hi | ⟨g, e, rfl⟩
    · exact h5.si i hi
    · have h6 := ho.lt g e
      exact ⟨h6.2, hv g e, fun h7 => by have := I2.lt h.r2 g h7; omega⟩)
theorem TW.next (h : TW R1 R2 w V p1 p2 L1 L2 S) :
    Calls Try.prog 24 #[tptr p1] V fun e w' => e = .returned (.tuple #[.int .u64 ((L1.head?.map (·.1)).getD 0 : Nat), .bool (!L1.isEmpty)]) ∧ Hid (TW R1 R2 w w' p1 p2 L1 L2 S) ∧ Hid (Below V.heap.size V w') := by
  obtain ⟨G1, G2, h⟩ := h
  exact (I.next h.r1).mono (by rintro e w' ⟨rfl, hb⟩; exact ⟨rfl, ⟨G1, G2, h.grows I.toRep I2 hb⟩, hb⟩)
theorem TW.at' (h : TW R1 R2 w V p1 p2 L1 L2 S) (hk : -9223372036854775808 ≤ k ∧ k ≤ 9223372036854775807) :
    Calls Try.prog 25 #[tptr p1, .int .i64 k] V fun e w' => e = .returned (.tuple #[.int .u64 (((at_ k L1).getD 0 : Nat) : Int), .bool (has k L1)]) ∧ Hid (TW R1 R2 w w' p1 p2 L1 L2 S) ∧ Hid (Below V.heap.size V w') := by
  obtain ⟨G1, G2, h⟩ := h
  exact (I.at' h.r1 hk).mono (by rintro e w' ⟨rfl, hb⟩; exact ⟨rfl, ⟨G1, G2, h.grows I.toRep I2 hb⟩, hb⟩)
theorem TW.len (h : TW R1 R2 w V p1 p2 L1 L2 S) :
    Calls Try.prog 26 #[tptr p1] V fun e w' => e = .returned (.int .i64 (L1.length : Int)) ∧ Hid (TW R1 R2 w w' p1 p2 L1 L2 S) ∧ Hid (Below V.heap.size V w') := by
  obtain ⟨G1, G2, h⟩ := h
  exact (I.len h.r1).mono (by rintro e w' ⟨rfl, hb⟩; exact ⟨rfl, ⟨G1, G2, h.grows I.toRep I2 hb⟩, hb⟩)
omit I I2
/-- A table that has just been made. -/
theorem TW.zero (I : TmI R1) (I2 : Rep R2) {q : Nat} {r : List K} (h : TW Triv R2 w V p1 p2 [] L2 S) (hb : Below V.heap.size V V') (hq : Blk V' q 58 #[.slice none 0 0, .map none]) (hn : V.heap.size ≤ q) : TW R1 R2 w V' q p2 [] L2 S := by
  obtain ⟨G1, G2, h⟩ := h
  have h' := h.grows triv_rep I2 hb
  exact ⟨fun i => i = q, G2, I.zero hq, h'.r2, fun i hi => by rw [show i = q from hi]; exact Nat.le_trans h.bel.size hn, h'.o2, fun i hi h2 => by have := I2.lt h.r2 i h2; rw [show i = q from hi] at this; omega, fun i hi => ⟨(h'.si i hi).1, fun e => by have := (h.si i hi).1; rw [show i = q from e] at this; omega, (h'.si i hi).2.2⟩, h'.bel⟩
theorem TW.none (w : World) : TW Triv Triv w w 0 0 [] [] (fun _ => False) := ⟨fun _ => False, fun _ => False, ⟨fun _ h => h, rfl⟩, ⟨fun _ h => h, rfl⟩, fun _ h => h.elim, fun _ h => h.elim, fun _ h => h.elim, fun _ h => h.elim, Below.refl _ _⟩
end
end Go.Proofs.Ytfgfiiknbkakaaa.Tm

set_option linter.unusedVariables false
set_option linter.unusedSimpArgs false
set_option maxRecDepth 20000
namespace Go.Proofs.Ytfgfiiknbkakaaa.Tm
open Go.ChangeShapes Go.WideShapes Go.ChangeAt Go.RowKit Go.Deep Go.Proofs.Ytfgfiiknbkakaaa.Words
section
variable {V V' : World} {B n cp j : Nat} {A : Option Addr} {l : List Int} {S : Nat → Prop}
theorem own_i64 (h : V.ownsRow B 3 1 (.slice A n cp) n (z64 l)) (hj : j < n) : ∃ (g : Nat) (x : Int), A = some ⟨g, 0, none⟩ ∧ l[j]? = some x ∧ V.cell? ⟨g, j, none⟩ = some (.int .i64 x) := by
  have hl : l.length = n := by have := h.1; simpa using this
  rcases h.2 with ⟨_, h0⟩ | ⟨g, c, cur, e, _⟩
  · omega
  · injection e with e _ _
    subst e
    have hx := List.getElem?_eq_getElem (show j < l.length by omega)
    refine ⟨g, _, rfl, hx, ?_⟩
    rw [h.cellAt j (by omega), List.getElem?_map, hx]
    rfl
/-- A row that stands among S is kept. -/
theorem Kp.own {e : TypeId} {size : Nat} {v : Value} {xs : List Value} (hk : Kp S V V') (h : V.ownsRow B e size v n xs) (hs : ∀ g, v.ownBlock = some g → S g) : V'.ownsRow B e size v n xs := Fr.own hk h (fun g hg hn => hn (hs g hg))
theorem row_below {e : TypeId} {size : Nat} {v : Value} {xs : List Value} (hb : Below V.heap.size V V') (h : V.ownsRow B e size v n xs) : V'.ownsRow B e size v n xs := Fr.own (Fr.of_below hb) h (fun g hg hn => by have := (h.lt g hg).2; omega)
end
theorem tab_zero (w : World) : Blk (w.alloc (.cells #[.slice none 0 0, .map none] 58)) w.heap.size 58 #[.slice none 0 0, .map none] := Blk.new _ _ _
theorem below_new (w : World) (o : Obj) : Below w.heap.size w (w.alloc o) := (Below.refl _ w).alloc (Nat.le_refl _) o
def l3 : List K := [(4, 2), (10, 1), (10, 3)]
theorem l3_eq : put 2 4 (put 1 10 (put 3 10 [])) = l3 := by decide
set_option maxHeartbeats 3200000 in
theorem first_t {R : Mem} (I : TmI R) (w : World) : Calls Try.prog 17 #[] w fun e w' => e = .returned (.bool true) ∧ Below w.heap.size w w' := by
  go_enter Try.func17, Try.ntmps17
  go_upto_region 2 with (fail)
  obtain ⟨W1, hW1⟩ : ∃ W1, W1 = w.alloc (.cells #[.slice none 0 0, .map none] 58) := ⟨_, rfl⟩
  obtain ⟨p, hp⟩ : ∃ p, p = w.heap.size := ⟨_, rfl⟩
  have H1 : Hid (TW R Triv w W1 p 0 [] [] (fun _ => False)) := by
    rw [hW1, hp]
    exact (TW.none w).zero (r := []) I triv_rep (below_new _ _) (tab_zero w) (Nat.le_refl _)
  rw [← hW1, ← hp]
  clear hW1 hp
  go_wp2_with fail
  refine (H1.out.set I triv_rep (k := 3) (a := 10) (by decide) (by decide) (by decide)).mono ?_
  rintro e W2 ⟨rfl, H2, _⟩
  go_wp2_with fail
  refine (H2.out.set I triv_rep (k := 1) (a := 10) (by decide) (by decide) (by decide)).mono ?_
  rintro e W3 ⟨rfl, H3, _⟩
  go_wp2_with fail
  refine (H3.out.set I triv_rep (k := 2) (a := 4) (by decide) (by decide) (by decide)).mono ?_
  rintro e W4 ⟨rfl, H4, _⟩
  rw [l3_eq] at H4
  go_wp2_with fail
  refine (H4.out.next I triv_rep).mono ?_
  rintro e W5 ⟨he, H5, _⟩
  obtain rfl : e = .returned (.tuple #[.int .u64 4, .bool true]) := he
  go_wp2_with fail
  refine (H5.out.due I triv_rep (now := 9) (by decide)).mono ?_
  rintro e W6 ⟨A6, c6, n6, rfl, hn6, hc6, hl6, ho6, H6, _⟩
  obtain rfl : n6 = 1 := hl6.out
  go_wp2_with fail
  refine (H6.out.due I triv_rep (now := 10) (by decide)).mono ?_
  rintro e W7 ⟨A7, c7, n7, rfl, hn7, hc7, hl7, ho7, H7, k7⟩
  obtain rfl : n7 = 2 := hl7.out
  have ho6' := k7.out.own ho6.out (fun g hg => .inr ⟨g, hg, rfl⟩)
  obtain ⟨g6, x6, rfl, hx6, cx6⟩ := own_i64 ho6' (show 0 < 1 by decide)
  obtain ⟨g7, x7, rfl, hx7, cx7⟩ := own_i64 ho7.out (show 0 < 2 by decide)
  obtain rfl : (2 : Int) = x6 := by injection hx6
  obtain rfl : (1 : Int) = x7 := by injection hx7
  have hlen := H7.out.len I triv_rep
  clear hx6 hx7 ho6' ho6 ho7 hl6 hl7 k7
  go_wp2_with (go_at_call 26; refine hlen.mono ?_; rintro e W8 ⟨he8, H8, _⟩; obtain rfl : e = .returned (.int .i64 0) := he8)
  go_ret
  exact ⟨rfl, H8.out.bel⟩
end Go.Proofs.Ytfgfiiknbkakaaa.Tm

set_option linter.unusedVariables false
set_option linter.unusedSimpArgs false
namespace Go.Proofs.Ytfgfiiknbkakaaa.Tm
open Go.ChangeShapes Go.WideShapes Go.ChangeAt Go.RowKit Go.Deep Go.Proofs.Ytfgfiiknbkakaaa.Words
section
variable {el : Nat → Nat} {k : Int} {i now x : Nat}
theorem nat_u64a {x : Int} (h : (Lit.int .u64 x).wf = true) : ∃ n : Nat, x = n ∧ n ≤ 18446744073709551615 := by
  have := bounds_u64 h
  exact ⟨x.toNat, by omega, by omega⟩
end
end Go.Proofs.Ytfgfiiknbkakaaa.Tm

set_option linter.unusedVariables false
set_option linter.unusedSimpArgs false
namespace Go.Proofs.Ytfgfiiknbkakaaa.Tm
open Go.Proofs.Ytfgfiiknbkakaaa.Words
section
variable {el : Nat → Nat} {L t : List K} {z x : K} {i n j now : Nat}
theorem due_len : (dueL now L).length + (dueR now L).length = L.length := by
  have := congrArg List.length (due_app (now := now) (L := L))
  rw [List.length_append] at this
  exact this
end
end Go.Proofs.Ytfgfiiknbkakaaa.Tm
