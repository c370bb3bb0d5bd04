/-
  Of the texts Words, OctPlain, ParPlain, ChPlain, ChWays, Sees, Bytes, OctText, ParRef, Oct, OctE, ChMem, ParPut: what the laws reach.
-/
import Derived.Test.YtkjlmibjpfmfnaaRows
import Derived.WalkKit
import Derived.ProofKit
import Derived.Below
import Derived.Lib.Hide
import Derived.Laws.OwnMore
import Derived.Laws.Rows
import Derived.Laws.IdiomStrings
import Derived.Laws.BytesArg
import Derived.Laws.BitsAllLaws
import Derived.Lib.SlBytesConst
import Derived.Deep.AppendLies
import Derived.Deep.Draws
import Derived.Deep.QuietTactic
import Derived.BigQuiet
import Derived.Deep.RegionHeld3
import Derived.Maps.AppendAt
import Derived.RegionTactic
import Derived.OwnWalk
import Derived.StillTailTactics
import Derived.WalkSpells
import Derived.Deep.CutRange
import Derived.Laws.MakeOwn
import Derived.Deep.OwnRows
import Derived.Deep.DeepCutAuto
import Derived.OpenShut
import Derived.Deep.Slices
import Derived.Deep.CutBlock
import Derived.Lib.AppendZerosOnto

set_option linter.unusedVariables false
set_option linter.unusedSimpArgs false
namespace Go.Proofs.Ytkjlmibjpfmfnaa.Words
open Go.ChangeShapes Go.WideShapes Go.ChangeAt Go.RowKit
theorem block_of_add (a : Addr) (n : Nat) : (a.add n).block = a.block := by unfold Addr.add; split <;> rfl
theorem add_of_add (a : Addr) (i j : Nat) : (a.add i).add j = a.add (i + j) := by
  unfold Addr.add
  by_cases hi : i = 0 <;> by_cases hj : j = 0 <;> simp [hi, hj, Nat.add_assoc]
def Reads (w : World) (B size : Nat) (A : Option Addr) (n : Nat) (xs : List Value) : Prop :=
  xs.length = n * size ∧ (0 < n → ∃ ad, A = some ad ∧ ad.block < B ∧ ∀ j u, xs[j]? = some u → w.cell? (ad.add j) = some u)
section
variable {w w' : World} {B B' size n : Nat} {A : Option Addr} {xs : List Value}
theorem Reads.none_ : Reads w B size A 0 [] := ⟨by simp, fun h => absurd h (by omega)⟩
theorem Reads.at_ {k : Nat} (h : Reads w B 1 A n xs) (hk : k < n) : ∃ ad u, A = some ad ∧ ad.block < B ∧ xs[k]? = some u ∧ w.cell? (ad.add k) = some u := by
  obtain ⟨ad, e, hb, hc⟩ := h.2 (by omega)
  have hl : k < xs.length := by have := h.1; omega
  exact ⟨ad, xs[k], e, hb, List.getElem?_eq_getElem hl, hc k _ (List.getElem?_eq_getElem hl)⟩
theorem Reads.keep (h : Reads w B size A n xs) (hk : ∀ p : Addr, p.block < B → w'.cell? p = w.cell? p) : Reads w' B size A n xs :=
  ⟨h.1, fun hn => by
    obtain ⟨ad, e, hb, hc⟩ := h.2 hn
    exact ⟨ad, e, hb, fun j u hu => (hk _ (by rw [block_of_add]; exact hb)).trans (hc j u hu)⟩⟩
theorem Reads.more (h : Reads w B size A n xs) (hB : B ≤ B') : Reads w B' size A n xs :=
  ⟨h.1, fun hn => by
    obtain ⟨ad, e, hb, hc⟩ := h.2 hn
    exact ⟨ad, e, by omega, hc⟩⟩
theorem Reads.below (h : Reads w B size A n xs) (hb : Below B w w') : Reads w' B size A n xs := h.keep fun _ hp => hb.cell hp
theorem Reads.drew (h : Reads w B size A n xs) : Reads w.drew B size A n xs := h
theorem Reads.drewN (h : Reads w B size A n xs) (k : Nat) : Reads (w.drewN k) B size A n xs := h
theorem Reads.alloc (h : Reads w B size A n xs) (hB : B ≤ w.heap.size) (o : Obj) : Reads (w.alloc o) B size A n xs := h.keep fun p hp => World.cell?_alloc_lt w o p (by omega)
theorem Reads.setCell (h : Reads w B size A n xs) {p : Addr} (hB : B ≤ p.block) (u : Value) : Reads (w.setCell p u) B size A n xs :=
  h.keep fun q hq => World.cell?_setCell_other w p q u (fun e => by subst e; omega)
theorem Reads.grown (h : Reads w B size A n xs) {row : Option Nat} (hg : w.grownBy w' row) (hB : B ≤ w.heap.size) (hr : ∀ g, row = some g → B ≤ g) : Reads w' B size A n xs :=
  h.keep fun p hp => World.cell?_of_block (hg.block p.block (by omega) (fun e => by have := hr _ e.symm; omega))
theorem Reads.cut (h : Reads w B size A n xs) {k cap : Nat} (hk : k ≤ n) (hc : n ≤ cap) :
    Reads w B size (if cap = k then A else A.map (·.add (k * size))) (n - k) (xs.drop (k * size)) := by
  refine ⟨by rw [List.length_drop, h.1, Nat.sub_mul], fun hn => ?_⟩
  obtain ⟨ad, rfl, hb, hcell⟩ := h.2 (by omega)
  rw [if_neg (by omega)]
  refine ⟨ad.add (k * size), rfl, by rw [block_of_add]; exact hb, fun j u hu => ?_⟩
  rw [add_of_add]
  exact hcell _ u (by rw [← hu, List.getElem?_drop])
theorem Reads.of_own {base : Nat} {e : TypeId} {c : Nat} (h : w.ownsRow base e size (.slice A n c) n xs) : Reads w w.heap.size size A n xs := by
  refine ⟨h.1, fun hn => ?_⟩
  obtain ⟨g, cap, hv, _, hlt⟩ := h.form hn
  have hA : A = some ⟨g, 0, none⟩ := by injection hv
  subst hA
  exact ⟨_, rfl, hlt, h.cells (g := g) rfl⟩
end
def Blk (w : World) (g : Nat) (t : TypeId) (cs : Array Value) : Prop := w.heap[g]? = some (.cells cs t (0, 0))
section
variable {w w' : World} {g : Nat} {t : TypeId} {cs : Array Value}
theorem Blk.lt (h : Blk w g t cs) : g < w.heap.size := by
  rcases Nat.lt_or_ge g w.heap.size with hlt | hge
  · exact hlt
  · unfold Blk at h; rw [Array.getElem?_eq_none hge] at h; cases h
theorem Blk.cell (h : Blk w g t cs) (i : Nat) : w.cell? ⟨g, i, none⟩ = cs[i]? := cell_of_row w g i cs t (0, 0) h
theorem Blk.frozen (h : Blk w g t cs) (i : Nat) : w.frozen? ⟨g, i, none⟩ = false := by
  unfold Blk at h
  simp [World.frozen?, h]
theorem Blk.new (w : World) (t : TypeId) (cs : Array Value) : Blk (w.alloc (.cells cs t)) w.heap.size t cs := heap_alloc_new w _
theorem Blk.drew (h : Blk w g t cs) : Blk w.drew g t cs := h
theorem Blk.drewN (h : Blk w g t cs) (n : Nat) : Blk (w.drewN n) g t cs := h
theorem Blk.alloc (h : Blk w g t cs) (o : Obj) : Blk (w.alloc o) g t cs := (Below.heap_alloc w o g h.lt).trans h
theorem Blk.set_ (h : Blk w g t cs) (i : Nat) (u : Value) : Blk (w.setCell ⟨g, i, none⟩ u) g t (cs.setIfInBounds i u) := by
  unfold Blk at h ⊢
  simp [World.setCell, Array.getElem?_modify, h]
theorem Blk.far (h : Blk w g t cs) {p : Addr} (hp : g ≠ p.block) (u : Value) : Blk (w.setCell p u) g t cs := (Below.heap_setCell w p u g hp).trans h
theorem Blk.below {B : Nat} (h : Blk w g t cs) (hb : Below B w w') (hg : g < B) : Blk w' g t cs := (hb.block g hg).trans h
theorem Blk.grown {row : Option Nat} (h : Blk w g t cs) (hb : w.grownBy w' row) (hg : some g ≠ row) : Blk w' g t cs := (hb.block g h.lt hg).trans h
theorem Blk.ne_ {g' : Nat} {t' : TypeId} {cs' : Array Value} (h : Blk w g t cs) (h' : Blk w g' t' cs') (hne : t ≠ t') : g ≠ g' := by
  rintro rfl
  unfold Blk at h h'
  rw [h] at h'
  injection h' with h'
  injection h' with _ ht
  exact hne ht
theorem own_blk_ne {base : Nat} {e : TypeId} {size n : Nat} {v : Value} {xs : List Value} (h : w.ownsRow base e size v n xs) (hg : Blk w g t cs) (hne : e ≠ t) : v.ownBlock ≠ some g := by
  rcases h.2 with ⟨rfl, _⟩ | ⟨g', cap, cur, rfl, _, hh, _⟩
  · simp [Value.ownBlock]
  · intro he
    have : g' = g := by simpa [Value.ownBlock] using he
    subst this
    exact Blk.ne_ (t := e) hh hg hne rfl
end
section
variable {P : Program} (w : World)
theorem run_append_of_nil (base : Nat) (t ty e : TypeId) (i : TypeInfo) (size : Nat) (ht : P.underlying t = some (.slice e)) (hi : P.info? e = some i)
    (v : Value) (n : Nat) (xs : List Value) (hown : w.ownsRow base e size v n xs) (c : Nat) : (Builtin.append_ #[t, t] ty #[v, .slice none 0 c]).run P w = .ok v w := by
  rcases hown.2 with ⟨rfl, rfl⟩ | ⟨g, cap, cur, rfl, _, _, hnc, _⟩
  · simp [Builtin.append_, run_underlying ht, sizeOf, typeInfo, hi, Builtin.lenOf, Builtin.firstCells]
  · simp [Builtin.append_, run_underlying ht, sizeOf, typeInfo, hi, Builtin.lenOf, Builtin.firstCells, hnc, storeCells]
theorem run_append_any (base : Nat) (t ty e : TypeId) (i : TypeInfo) (z : Value) (size bytes : Nat) (ht : P.underlying t = some (.slice e)) (hi : P.info? e = some i) (hz : i.zero = some z)
    (hsize : i.size = size) (hby : i.bytes = bytes) (hzs : z.cells.size = size) (hsz : 0 < size)
    (v : Value) (n : Nat) (xs : List Value) (hown : w.ownsRow base e size v n xs)
    (B : Nat) (A : Option Addr) (m c : Nat) (news : List Value) (hr : Reads w B size A m news) (h1 : ∀ u ∈ news, u.oneCell' = true)
    (h63 : n + m ≤ maxLen) (hbytes : (n + m) * bytes ≤ 140737488355328) (hbase : base ≤ w.heap.size) :
    ∃ v' w', (Builtin.append_ #[t, t] ty #[v, .slice A m c]).run P w = .ok v' w' ∧ w'.ownsRow base e size v' (n + m) (xs ++ news) ∧ w.grownBy w' v.ownBlock ∧
      (v'.ownBlock = v.ownBlock ∨ v'.ownBlock = some w.heap.size) := by
  rcases A with _ | ad
  · have hm : m = 0 := by
      rcases Nat.eq_zero_or_pos m with h0 | h0
      · exact h0
      · obtain ⟨ad, h, _⟩ := hr.2 h0
        cases h
    subst hm
    have hn : news = [] := List.eq_nil_of_length_eq_zero (by simpa using hr.1)
    subst hn
    exact ⟨v, w, run_append_of_nil w base t ty e i size ht hi v n xs hown c, by simpa using hown, World.grownBy.refl w _, .inl rfl⟩
  · have hcells : ∀ j u, news[j]? = some u → w.cell? (ad.add j) = some u := by
      intro j u hu
      rcases Nat.eq_zero_or_pos m with h0 | h0
      · subst h0
        have hn : news = [] := List.eq_nil_of_length_eq_zero (by simpa using hr.1)
        subst hn
        simp at hu
      · obtain ⟨ad', h, _, hc⟩ := hr.2 h0
        injection h with h
        subst h
        exact hc j u hu
    obtain ⟨v', w', hrun, h2, h3, _, h5⟩ := run_append_own_at (P := P) w base t ty e i z size bytes ht hi hz hsize hby hzs hsz v n xs hown ad m c news hr.1 hcells h1 h63 hbytes hbase
    exact ⟨v', w', hrun, h2, h3, h5⟩
theorem wp_append_any {o : Oper} {a : Act} {K : Act → World → Prop} {Q : Exit → Act → World → Prop} (s x : Operand) (t : TypeId)
    (ho : o.op = .call { callee := .builtin .append, args := #[s, x], argTypes := #[t, t] })
    (base : Nat) (e : TypeId) (i : TypeInfo) (z : Value) (size bytes : Nat) (ht : P.underlying t = some (.slice e)) (hi : P.info? e = some i) (hz : i.zero = some z)
    (hsize : i.size = size) (hby : i.bytes = bytes) (hzs : z.cells.size = size) (hsz : 0 < size)
    (v : Value) (n : Nat) (xs : List Value) (hs : a.eval s = v) (hown : w.ownsRow base e size v n xs)
    (B : Nat) (A : Option Addr) (m c : Nat) (news : List Value) (hx : a.eval x = .slice A m c) (hr : Reads w B size A m news) (h1 : ∀ u ∈ news, u.oneCell' = true)
    (h63 : n + m ≤ maxLen) (hbytes : (n + m) * bytes ≤ 140737488355328) (hbase : base ≤ w.heap.size)
    (h : ∀ v' w', w'.ownsRow base e size v' (n + m) (xs ++ news) → w.grownBy w' v.ownBlock → (v'.ownBlock = v.ownBlock ∨ v'.ownBlock = some w.heap.size) → K (a.put o.dst v') w') : o.wp P a w K Q := by
  obtain ⟨v', w', hrun, h2, h3, h4⟩ := run_append_any (P := P) w base t o.type e i z size bytes ht hi hz hsize hby hzs hsz v n xs hown B A m c news hr h1 h63 hbytes hbase
  unfold Oper.wp execOp
  simp only [ho, resolve, invoke, builtin, Sem.run_bind, Sem.run_pure, Result.andThen_ok, List.map_toArray, List.map_cons, List.map_nil, hs, hx, hrun]
  exact h v' w' h2 h3 h4
theorem wpList_append_any {ops : Array Oper} {rest : List Oper} {o : Oper} {a : Act} {Q : Exit → Act → World → Prop} (hgd : o.guard = none) (s x : Operand) (t : TypeId)
    (ho : o.op = .call { callee := .builtin .append, args := #[s, x], argTypes := #[t, t] })
    (base : Nat) (e : TypeId) (i : TypeInfo) (z : Value) (size bytes : Nat) (ht : P.underlying t = some (.slice e)) (hi : P.info? e = some i) (hz : i.zero = some z)
    (hsize : i.size = size) (hby : i.bytes = bytes) (hzs : z.cells.size = size) (hsz : 0 < size)
    (v : Value) (n : Nat) (xs : List Value) (hs : a.eval s = v) (hown : w.ownsRow base e size v n xs)
    (B : Nat) (A : Option Addr) (m c : Nat) (news : List Value) (hx : a.eval x = .slice A m c) (hr : Reads w B size A m news) (h1 : ∀ u ∈ news, u.oneCell' = true)
    (h63 : n + m ≤ maxLen) (hbytes : (n + m) * bytes ≤ 140737488355328) (hbase : base ≤ w.heap.size)
    (h : ∀ v' w', w'.ownsRow base e size v' (n + m) (xs ++ news) → w.grownBy w' v.ownBlock → (v'.ownBlock = v.ownBlock ∨ v'.ownBlock = some w.heap.size) → wpList P ops Q rest (a.put o.dst v') w') : wpList P ops Q (o :: rest) a w :=
  wpList_plain hgd fun _ hK => wp_append_any w s x t ho base e i z size bytes ht hi hz hsize hby hzs hsz v n xs hs hown B A m c news hx hr h1 h63 hbytes hbase fun v' w' h2 h3 h4 => hK _ _ (h v' w' h2 h3 h4)
end
/-- The cells of bytes. -/
def u8s (l : List UInt8) : List Value := l.map fun b => .int .u8 (b.toNat : Int)
theorem u8s_length (l : List UInt8) : (u8s l).length = l.length := by simp [u8s]
theorem u8s_get (l : List UInt8) (i : Nat) : (u8s l)[i]? = l[i]?.map fun b => .int .u8 (b.toNat : Int) := by simp [u8s]
theorem u8s_drop (l : List UInt8) (i : Nat) : u8s (l.drop i) = (u8s l).drop i := by simp [u8s, List.map_drop]
theorem u8s_take (l : List UInt8) (i : Nat) : u8s (l.take i) = (u8s l).take i := by simp [u8s, List.map_take]
theorem u8s_one (l : List UInt8) : ∀ u ∈ u8s l, u.oneCell' = true := by
  intro u hu
  simp only [u8s, List.mem_map] at hu
  obtain ⟨b, _, rfl⟩ := hu
  rfl
theorem bounds_u8' {n : Int} (h : (Lit.int .u8 n).wf = true) : 0 ≤ n ∧ n ≤ 255 := by
  simp [Lit.wf, IntKind.min, IntKind.max, IntKind.signed, IntKind.bits] at h
  omega
/-- A slice of bytes that reads as the list l, below block B. -/
abbrev Byt (w : World) (B : Nat) (A : Option Addr) (l : List UInt8) : Prop := Reads w B 1 A l.length (u8s l)
theorem Reads.at_byte {w : World} {B : Nat} {A : Option Addr} {l : List UInt8} (h : Byt w B A l) {k : Nat} (hk : k < l.length) :
    ∃ ad, A = some ad ∧ ad.block < B ∧ w.cell? (ad.add k) = some (.int .u8 (l[k].toNat : Int)) := by
  obtain ⟨ad, u, e, hb, hx, hc⟩ := h.at_ hk
  rw [u8s_get, List.getElem?_eq_getElem hk] at hx
  simp only [Option.map_some, Option.some.injEq] at hx
  exact ⟨ad, e, hb, by rw [hc, ← hx]⟩
theorem Reads.take_ {w : World} {B : Nat} {A : Option Addr} {l : List UInt8} (h : Byt w B A l) (k : Nat) : Byt w B A (l.take k) := by
  refine ⟨by simp [u8s_length], fun hn => ?_⟩
  obtain ⟨ad, e, hb, hc⟩ := h.2 (by simp at hn; omega)
  refine ⟨ad, e, hb, fun j u hu => hc j u ?_⟩
  rw [u8s_take, List.getElem?_take] at hu
  split at hu
  · exact hu
  · cases hu
theorem Reads.cut_ {w : World} {B : Nat} {A : Option Addr} {l : List UInt8} (h : Byt w B A l) {k cap : Nat} (hk : k ≤ l.length) (hc : l.length ≤ cap) :
    Byt w B (if cap = k then A else A.map (·.add k)) (l.drop k) := by
  have := h.cut hk hc
  unfold Byt
  rw [u8s_drop, List.length_drop]
  simpa using this
theorem Blk.cellAdd {w : World} {g : Nat} {t : TypeId} {cs : Array Value} (h : Blk w g t cs) (i : Nat) : w.cell? ((⟨g, 0, none⟩ : Addr).add i) = cs[i]? := by
  rw [← h.cell i]
  unfold Addr.add
  split
  · rename_i e; rw [e]
  · simp
theorem Blk.byt {w : World} {B g : Nat} {t : TypeId} {cs : Array Value} (h : Blk w g t cs) (hB : g < B) {l : List UInt8} (hl : cs.toList.take l.length = u8s l) : Byt w B (some ⟨g, 0, none⟩) l := by
  refine ⟨by simp [u8s_length], fun _ => ⟨_, rfl, hB, fun j u hu => ?_⟩⟩
  rw [h.cellAdd, ← hu, ← hl, List.getElem?_take]
  have hj : j < l.length := by
    have := (List.getElem?_eq_some_iff.1 hu).1
    simpa [u8s_length] using this
  rw [if_pos hj]
  simp
theorem add_lit (x : Addr) {k : Nat} (hk : 0 < k) : x.add k = ⟨x.block, x.off + k, none⟩ := by unfold Addr.add; rw [if_neg (by omega)]
/-- What the shell tells of a slice of bytes that came in. -/
theorem bytes_of {w : World} {a : Option Addr} {len cap : Nat} {z : List Int}
    (h : (a = none ∧ len = 0 ∧ cap = 0 ∧ z = []) ∨ ∃ x, a = some x ∧ len ≤ cap ∧ cap ≤ maxLen ∧ z.length = cap ∧ (∀ i, i < z.length → w.cell? (x.add i) = some (.int .u8 (z.getD i 0))) ∧ ∀ n ∈ z, (Lit.int .u8 n).wf = true) :
    ∃ l : List UInt8, len = l.length ∧ l.length ≤ cap ∧ cap ≤ 9223372036854775807 ∧ Byt w w.heap.size a l := by
  rcases h with ⟨rfl, rfl, rfl, rfl⟩ | ⟨x, rfl, h1, h2, h3, h4, h5⟩
  · exact ⟨[], rfl, Nat.le_refl _, by omega, by unfold Byt; exact Reads.none_⟩
  · refine ⟨(z.take len).map fun n => UInt8.ofNat n.toNat, by simp; omega, by simp; omega, by unfold maxLen at h2; omega, ⟨by simp [u8s_length], fun hn => ⟨x, rfl, ?_, ?_⟩⟩⟩
    · have hl : 0 < z.length := by simp at hn; omega
      have := World.block_lt_of_cell? w _ (h4 0 hl)
      rwa [block_of_add] at this
    · intro j u hu
      rw [u8s_get, List.getElem?_map] at hu
      by_cases hj : j < len
      · have hj2 : j < z.length := by omega
        have hw := h5 z[j] (List.getElem_mem _)
        have hb : 0 ≤ z[j] ∧ z[j] ≤ 255 := bounds_u8' hw
        rw [List.getElem?_take, if_pos hj, List.getElem?_eq_getElem hj2] at hu
        simp only [Option.map_some, Option.some.injEq] at hu
        rw [h4 j hj2, ← hu, List.getD_eq_getElem?_getD, List.getElem?_eq_getElem hj2]
        simp only [Option.getD_some, UInt8.toNat_ofNat', Option.some.injEq, Value.int.injEq, true_and]
        omega
      · rw [List.getElem?_take, if_neg hj] at hu
        cases hu
/-- 'string(b)'. -/
theorem run_str {P : Program} {w : World} {B : Nat} {A : Option Addr} {l : List UInt8} (h : Byt w B A l) (src dst e : TypeId) (hs : P.underlying src = some (.slice e)) (he : P.underlying e = some (.int .u8)) (hd : P.underlying dst = some .string) (n c : Nat) (hn : n = l.length) :
    (convert src dst (.slice A n c)).run P w = .ok (.string ⟨l.toArray⟩) w := by
  subst hn
  rcases A with _ | ad
  · have hl : l = [] := by
      rcases Nat.eq_zero_or_pos l.length with h0 | h0
      · exact List.eq_nil_of_length_eq_zero h0
      · obtain ⟨ad, e, _⟩ := h.2 h0
        cases e
    subst hl
    exact run_convert_bytes_nil w src e hs he _ _ dst hd
  · refine run_convert_bytes_back w src dst e ad c l hs he hd (fun j hj => ?_)
    obtain ⟨ad', e1, _, hc⟩ := h.at_byte hj
    injection e1 with e1
    subst e1
    exact hc
/-- A row of bytes of the call's own. -/
theorem own_empty (w : World) (e : TypeId) : (w.alloc (.cells #[] e)).ownsRow w.heap.size e 1 (.slice (some ⟨w.heap.size, 0, none⟩) 0 0) 0 [] := by
  have := World.ownsRow_made (base := w.heap.size) (e := e) (size := 1) w #[] 0 (Nat.le_refl _) (by unfold maxLen; omega) rfl
  simpa using this
theorem own_slice {w : World} {B : Nat} {e : TypeId} {size n : Nat} {v : Value} {xs : List Value} (h : w.ownsRow B e size v n xs) : ∃ A c, v = .slice A n c ∧ n ≤ c ∧ c ≤ 9223372036854775807 := by
  rcases h.2 with ⟨rfl, rfl⟩ | ⟨g, cap, cur, rfl, _, _, h1, h2, _⟩
  · exact ⟨_, _, rfl, Nat.le_refl _, by omega⟩
  · exact ⟨_, _, rfl, h1, by unfold maxLen at h2; omega⟩
theorem info_parts3 {P : Program} {e : TypeId} {z : Value} {s b : Nat} (h : (P.info? e).map (fun i => (i.zero, i.size, i.bytes)) = some (some z, s, b)) : ∃ i, P.info? e = some i ∧ i.zero = some z ∧ i.size = s ∧ i.bytes = b := by
  cases hp : P.info? e with
  | none => rw [hp] at h; cases h
  | some i => rw [hp] at h; simp at h; exact ⟨i, rfl, h.1, h.2.1, h.2.2⟩
end Go.Proofs.Ytkjlmibjpfmfnaa.Words

set_option linter.unusedVariables false
set_option linter.unusedSimpArgs false
namespace Go.Proofs.Ytkjlmibjpfmfnaa.Oct
open Go.RowKit Go.Proofs.Ytkjlmibjpfmfnaa.Words
def byteAt (v m : Nat) : UInt8 := UInt8.ofNat (v / 2 ^ (8 * m))
/-- The last n bytes of v, the most significant first. -/
def be (v n : Nat) : List UInt8 := (List.range n).map fun d => byteAt v (n - 1 - d)
/-- The number of bytes, the most significant first. -/
def num (l : List UInt8) : Nat := l.foldl (fun v x => 256 * v + x.toNat) 0
end Go.Proofs.Ytkjlmibjpfmfnaa.Oct

set_option linter.unusedVariables false
set_option linter.unusedSimpArgs false
namespace Go.Proofs.Ytkjlmibjpfmfnaa.Par
open Go.RowKit Go.Proofs.Ytkjlmibjpfmfnaa.Words Go.Proofs.Ytkjlmibjpfmfnaa.Oct
/-- A parameter: its kind and its value. -/
abbrev Prm := Nat × List UInt8
def padC (n : Nat) : Nat := (4 - n % 4) % 4
def encP (p : Prm) : List UInt8 := be p.1 2 ++ (be (p.2.length + 4) 2 ++ (p.2 ++ List.replicate (padC p.2.length) 0))
def encL (ls : List Prm) : List UInt8 := (ls.map encP).flatten
/-- How long a list is as bytes, at most. -/
def sizeL (ls : List Prm) : Nat := (ls.map fun p => 4 + p.2.length).sum
/-- The first parameter of bytes, and how many bytes it has. -/
def one (b : List UInt8) : Except Nat (Prm × Nat) :=
  if b.length < 4 then .error 40 else
  if num ((b.drop 2).take 2) < 4 then .error 42 else
  if b.length < (num ((b.drop 2).take 2) + 3) / 4 * 4 then .error 40 else
  if ((b.drop (num ((b.drop 2).take 2))).take ((num ((b.drop 2).take 2) + 3) / 4 * 4 - num ((b.drop 2).take 2))).any (· != 0) then .error 42
  else .ok ((num (b.take 2), (b.drop 4).take (num ((b.drop 2).take 2) - 4)), (num ((b.drop 2).take 2) + 3) / 4 * 4)
/-- What has been read so far, ahead of what is still to read. -/
def behind (acc : List Prm) : Except Nat (List Prm) → Except Nat (List Prm)
  | .error e => .error e
  | .ok ps => .ok (acc ++ ps)
end Go.Proofs.Ytkjlmibjpfmfnaa.Par

set_option linter.unusedVariables false
set_option linter.unusedSimpArgs false
namespace Go.Proofs.Ytkjlmibjpfmfnaa.Chk
open Go.RowKit Go.Proofs.Ytkjlmibjpfmfnaa.Words Go.Proofs.Ytkjlmibjpfmfnaa.Oct Go.Proofs.Ytkjlmibjpfmfnaa.Par
/-- A gap: from, to. What is skipped: the stream, unordered or not, the message's number. -/
abbrev Gp := Nat × Nat
abbrev Skp := Nat × Bool × Nat
structure Ck where
  kind : Nat
  bg : Bool
  en : Bool
  lo : Bool
  ba : Bool
  tsn : Nat
  st : Nat
  mid : Nat
  pp : Nat
  fr : Nat
  tag : Nat
  win : Nat
  out : Nat
  inn : Nat
  gaps : List Gp
  dups : List Nat
  skips : List Skp
  ps : List Prm
  body : List UInt8
structure Ck.ok (c : Ck) : Prop where
  kind : c.kind < 256
  tsn : c.tsn < 4294967296
  st : c.st < 65536
  mid : c.mid < 4294967296
  pp : c.pp < 4294967296
  fr : c.fr < 4294967296
  tag : c.tag < 4294967296
  win : c.win < 4294967296
  out : c.out < 65536
  inn : c.inn < 65536
  gaps : ∀ g ∈ c.gaps, g.1 < 65536 ∧ g.2 < 65536
  dups : ∀ d ∈ c.dups, d < 4294967296
  skips : ∀ s ∈ c.skips, s.1 < 65536 ∧ s.2.2 < 4294967296
  ps : ∀ p ∈ c.ps, p.1 < 65536
def known (k : Nat) : Bool := decide (k ≤ 11) || (k == 14 || (k == 64 || (k == 130 || (k == 192 || k == 194))))
def hasBody (k : Nat) : Bool := k == 0 || k == 64
def hasPs (k : Nat) : Bool := k == 1 || (k == 2 || (k == 6 || (k == 9 || k == 130)))
def lacks (c : Ck) : Bool := hasBody c.kind && c.body.isEmpty
def gapE (g : Gp) : List UInt8 := be g.1 2 ++ be g.2 2
def dupE (d : Nat) : List UInt8 := be d 4
def skE (s : Skp) : List UInt8 := be s.1 2 ++ be (s.2.2 % 65536) 2
def loN (b : Bool) : Nat := if b then 1 else 0
def skW (s : Skp) : List UInt8 := be s.1 2 ++ (be 0 1 ++ (be (loN s.2.1) 1 ++ be s.2.2 4))
def gapsE (l : List Gp) : List UInt8 := (l.map gapE).flatten
def dupsE (l : List Nat) : List UInt8 := (l.map dupE).flatten
def sksE (l : List Skp) : List UInt8 := (l.map skE).flatten
def sksW (l : List Skp) : List UInt8 := (l.map skW).flatten
def fragE (c : Ck) : List UInt8 := be c.tsn 4 ++ (be c.st 2 ++ if c.kind = 0 then be (c.mid % 65536) 2 ++ be c.pp 4 else be 0 2 ++ (be c.mid 4 ++ be (if c.bg then c.pp else c.fr) 4))
def greetE (c : Ck) : List UInt8 := be c.tag 4 ++ (be c.win 4 ++ (be c.out 2 ++ (be c.inn 2 ++ be c.tsn 4)))
def sackE (c : Ck) : List UInt8 := be c.tsn 4 ++ (be c.win 4 ++ (be c.gaps.length 2 ++ (be c.dups.length 2 ++ (gapsE c.gaps ++ dupsE c.dups))))
/-- What stands behind a chunk's length. -/
def cont (c : Ck) : List UInt8 :=
  if hasBody c.kind then fragE c ++ c.body
  else if c.kind = 1 ∨ c.kind = 2 then greetE c ++ encL c.ps
  else if c.kind = 3 then sackE c
  else if c.kind = 4 ∨ c.kind = 5 ∨ c.kind = 10 then c.body
  else if hasPs c.kind then encL c.ps
  else if c.kind = 7 then be c.tsn 4
  else if c.kind = 192 then be c.tsn 4 ++ sksE c.skips
  else if c.kind = 194 then be c.tsn 4 ++ sksW c.skips
  else []
/-- Is it too long? -/
def tooLong (c : Ck) : Prop :=
  (c.kind = 3 ∧ (65535 < c.gaps.length ∨ 65535 < c.dups.length)) ∨ (hasPs c.kind = true ∧ ∃ p ∈ c.ps, 65531 < p.2.length) ∨ 65535 < (cont c).length + 4
def frame (k f : Nat) (x : List UInt8) : List UInt8 := be k 1 ++ (be f 1 ++ (be (x.length + 4) 2 ++ (x ++ List.replicate (padC x.length) 0)))
/-- Which chunks have bytes. -/
structure Puts (c : Ck) : Prop where
  known : known c.kind = true
  full : lacks c = false
  short : ¬ tooLong c
def sksN : Nat → List UInt8 → List Skp
  | 0, _ => []
  | n + 1, l => (num (l.take 2), false, num ((l.drop 2).take 2)) :: sksN n (l.drop 4)
def sksV : Nat → List UInt8 → List Skp
  | 0, _ => []
  | n + 1, l => (num (l.take 2), num ((l.drop 2).take 2) == 1, num ((l.drop 4).take 4)) :: sksV n (l.drop 8)
/-- Is each of the unordered ones' marks nought or one? -/
def sksOk : Nat → List UInt8 → Bool
  | 0, _ => true
  | n + 1, l => decide (num ((l.drop 2).take 2) ≤ 1) && sksOk n (l.drop 8)
def zeroC (k : Nat) : Ck := ⟨k, false, false, false, false, 0, 0, 0, 0, 0, 0, 0, 0, 0, [], [], [], [], []⟩
/-- A chunk without the fields that its kind hasn't. -/
def strip (c : Ck) : Ck :=
  if hasBody c.kind then { zeroC c.kind with bg := c.bg, en := c.en, lo := c.lo, tsn := c.tsn, st := c.st, mid := (if c.kind = 0 then c.mid % 65536 else c.mid), pp := (if c.kind = 64 ∧ c.bg = false then 0 else c.pp), fr := (if c.kind = 64 ∧ c.bg = false then c.fr else 0), body := c.body }
  else if c.kind = 1 ∨ c.kind = 2 then { zeroC c.kind with tag := c.tag, win := c.win, out := c.out, inn := c.inn, tsn := c.tsn, ps := c.ps }
  else if c.kind = 3 then { zeroC c.kind with tsn := c.tsn, win := c.win, gaps := c.gaps, dups := c.dups }
  else if c.kind = 4 ∨ c.kind = 5 ∨ c.kind = 10 then { zeroC c.kind with body := c.body }
  else if hasPs c.kind then (if c.kind = 6 then { zeroC c.kind with ba := c.ba, ps := c.ps } else { zeroC c.kind with ps := c.ps })
  else if c.kind = 7 then { zeroC c.kind with tsn := c.tsn }
  else if c.kind = 192 then { zeroC c.kind with tsn := c.tsn, skips := c.skips.map fun s => (s.1, false, s.2.2 % 65536) }
  else if c.kind = 194 then { zeroC c.kind with tsn := c.tsn, skips := c.skips }
  else if c.kind = 14 then { zeroC c.kind with ba := c.ba } else zeroC c.kind
end Go.Proofs.Ytkjlmibjpfmfnaa.Chk

set_option linter.unusedVariables false
set_option linter.unusedSimpArgs false
namespace Go.Proofs.Ytkjlmibjpfmfnaa.Chk
open Go.RowKit Go.Proofs.Ytkjlmibjpfmfnaa.Words Go.Proofs.Ytkjlmibjpfmfnaa.Oct Go.Proofs.Ytkjlmibjpfmfnaa.Par
/-- What reading leaves alone. -/
structure Alike (c c' : Ck) : Prop where
  kind : c'.kind = c.kind
  bg : c'.bg = c.bg
  en : c'.en = c.en
  lo : c'.lo = c.lo
  ba : c'.ba = c.ba
section
variable {c : Ck} {x : List UInt8}
end
section
variable {c : Ck}
end
end Go.Proofs.Ytkjlmibjpfmfnaa.Chk

set_option linter.unusedVariables false
set_option linter.unusedSimpArgs false
namespace Go.Proofs.Ytkjlmibjpfmfnaa.Words
open Go.ChangeShapes Go.WideShapes Go.ChangeAt Go.RowKit Go.Deep
inductive Sh where
  | int (k : IntKind)
  | bool
  | str
  | slice (e : Sh)
  | arr (n : Nat) (e : Sh)
  | strct (s : Sh)
  | pair (a b : Sh)
  | nil
def Sh.size : Sh → Nat
  | .int _ => 1
  | .bool => 1
  | .str => 1
  | .slice _ => 1
  | .arr n e => n * e.size
  | .strct s => s.size
  | .pair a b => a.size + b.size
  | .nil => 0
/-- What the memory shows of cells of a shape. -/
def Sees (w : World) : Sh → List Value → Prop
  | .int k, cs => ∃ n, cs = [.int k n] ∧ (Lit.int k n).wf = true
  | .bool, cs => ∃ b, cs = [.bool b]
  | .str, cs => ∃ s, cs = [.string s] ∧ s.size ≤ maxLen
  | .slice e, cs => cs = [.slice none 0 0] ∨ ∃ a len cap, cs = [.slice (some a) len cap] ∧ len ≤ cap ∧ cap ≤ maxLen ∧
      ∀ i, i < cap → ∃ cs', cs'.length = e.size ∧ (∀ j u, cs'[j]? = some u → w.cell? (a.add (i * e.size + j)) = some u) ∧ Sees w e cs'
  | .arr n e, cs => cs.length = n * e.size ∧ ∀ i, i < n → Sees w e ((cs.drop (i * e.size)).take e.size)
  | .strct s, cs => Sees w s cs
  | .pair a b, cs => ∃ x y, cs = x ++ y ∧ x.length = a.size ∧ Sees w a x ∧ Sees w b y
  | .nil, cs => cs = []
def Sh.chain : Sh → Bool
  | .pair _ _ => true
  | .nil => true
  | _ => false
/-- Has a type this shape? (A chain of pairs: the fields from 'off' on.) -/
def fitsB (P : Program) : Sh → TypeId → Nat → List Field → Bool
  | .int k, t, _, _ => match P.underlying t with | some (.int k') => k' == k | _ => false
  | .bool, t, _, _ => match P.underlying t with | some .bool => true | _ => false
  | .str, t, _, _ => match P.underlying t with | some .string => true | _ => false
  | .slice e, t, _, _ => match P.underlying t with | some (.slice te) => !e.chain && (P.cellsOf te == e.size && fitsB P e te 0 []) | _ => false
  | .arr n e, t, _, _ => match P.underlying t with | some (.array n' te) => !e.chain && (n' == n && (P.cellsOf te == e.size && (P.cellsOf t == n * e.size && fitsB P e te 0 []))) | _ => false
  | .strct s, t, _, _ => match P.underlying t with | some (.struct fs) => s.chain && (P.cellsOf t == s.size && fitsB P s 0 0 fs.toList) | _ => false
  | .pair _ _, _, _, [] => false
  | .pair a b, _, off, f :: fs => !a.chain && (b.chain && (f.offset == off && (P.cellsOf f.type == a.size && (fitsB P a f.type 0 [] && fitsB P b 0 (off + a.size) fs))))
  | .nil, _, _, fs => fs.isEmpty
section
variable {H : Type} {enc : TypeId × Value → H} {P : Program} {w : World} {base : Nat}
theorem sees_both : ∀ (sh : Sh),
    (∀ t fuel cs x, sh.chain = false → fitsB P sh t 0 [] = true → DataW.trod enc P w base (fun _ => true) true fuel t cs = some x → Sees w sh cs) ∧
    (∀ (off : Nat) (fs : List Field) (cs : List Value), sh.chain = true → fitsB P sh 0 off fs = true → (∀ f ∈ fs, ∃ x n, DataW.trod enc P w base (fun _ => true) true n f.type ((cs.drop f.offset).take (P.cellsOf f.type)) = some x) → cs.length = off + sh.size → Sees w sh (cs.drop off)) := by
  intro sh
  induction sh with
  | int k =>
    refine ⟨fun t fuel cs x _ hf h => ?_, fun _ _ _ h => by cases h⟩
    simp only [fitsB] at hf
    split at hf
    · rename_i k' hu
      have hk : k' = k := by simpa using hf
      subst hk
      obtain ⟨n, rfl, _, hw⟩ := DataW.trod_int hu h
      exact ⟨n, rfl, hw⟩
    · cases hf
  | bool =>
    refine ⟨fun t fuel cs x _ hf h => ?_, fun _ _ _ h => by cases h⟩
    simp only [fitsB] at hf
    split at hf
    · rename_i hu
      obtain ⟨b, rfl, _⟩ := DataW.trod_bool hu h
      exact ⟨b, rfl⟩
    · cases hf
  | str =>
    refine ⟨fun t fuel cs x _ hf h => ?_, fun _ _ _ h => by cases h⟩
    simp only [fitsB] at hf
    split at hf
    · rename_i hu
      obtain ⟨s, rfl, _, hs⟩ := DataW.trod_string hu h
      exact ⟨s, rfl, hs⟩
    · cases hf
  | slice e ih =>
    refine ⟨fun t fuel cs x _ hf h => ?_, fun _ _ _ h => by cases h⟩
    simp only [fitsB] at hf
    split at hf
    · rename_i te hu
      simp only [Bool.and_eq_true, beq_iff_eq, Bool.not_eq_true'] at hf
      rcases open_slice hu h with ⟨h0, _⟩ | ⟨a, len, cap, m, n, D, Pl, rfl, hb, hl, hm, hmm, _, hx⟩
      · exact .inl h0
      · simp only [if_true] at hmm
        subst hmm
        refine .inr ⟨a, len, m, rfl, hl, hm, fun i hi => ?_⟩
        obtain ⟨cs', h1, h2⟩ := hx i hi
        rw [hf.2.1] at h1
        obtain ⟨_, hlen, hcell⟩ := World.cells?_some h1
        refine ⟨cs', hlen, fun j u hu' => ?_, ih.1 _ _ _ _ hf.1 hf.2.2 h2⟩
        have hj : j < e.size := by rw [← hlen]; exact (List.getElem?_eq_some_iff.1 hu').1
        have := hcell j hj
        rw [add_of_add] at this
        rw [this, hu']
    · cases hf
  | arr n e ih =>
    refine ⟨fun t fuel cs x _ hf h => ?_, fun _ _ _ h => by cases h⟩
    simp only [fitsB] at hf
    split at hf
    · rename_i n' te hu
      simp only [Bool.and_eq_true, beq_iff_eq, Bool.not_eq_true'] at hf
      obtain ⟨hc, rfl, hs, ht, hf⟩ := hf
      obtain ⟨ys, m, rfl, _, hl, hyl, hall⟩ := DataW.trod_array hu h
      refine ⟨by rw [hl, ht], fun i hi => ?_⟩
      have h1 := hall i hi
      rw [hs, List.getElem?_eq_getElem (by omega)] at h1
      exact ih.1 _ _ _ _ hc hf h1
    · cases hf
  | strct s ih =>
    refine ⟨fun t fuel cs x _ hf h => ?_, fun _ _ _ h => by cases h⟩
    simp only [fitsB] at hf
    split at hf
    · rename_i fs hu
      simp only [Bool.and_eq_true, beq_iff_eq] at hf
      obtain ⟨xs, n, rfl, _, hl, hxl, hall⟩ := DataW.trod_struct hu h
      have := ih.2 0 fs.toList cs hf.1 hf.2.2 (fun f hfm => by
        obtain ⟨i, hi, rfl⟩ := List.mem_iff_getElem.1 hfm
        have h1 := hall i _ (by simpa using Array.getElem?_eq_getElem (xs := fs) (by simpa using hi))
        rw [List.getElem?_eq_getElem (by rw [hxl]; simpa using hi)] at h1
        exact ⟨_, _, by simpa using h1⟩) (by rw [hl, hf.2.1]; omega)
      rw [List.drop_zero] at this
      exact this
    · cases hf
  | pair a b iha ihb =>
    refine ⟨fun _ _ _ _ h => by simp [Sh.chain] at h, fun off fs cs _ hf h hl => ?_⟩
    cases fs with
    | nil => simp [fitsB] at hf
    | cons f fs =>
      simp only [fitsB, Bool.and_eq_true, beq_iff_eq, Bool.not_eq_true'] at hf
      obtain ⟨hca, hcb, ho, hs, hfa, hfb⟩ := hf
      obtain ⟨x, n, h1⟩ := h f (by simp)
      rw [ho, hs] at h1
      simp only [Sh.size] at hl
      refine ⟨(cs.drop off).take a.size, cs.drop (off + a.size), ?_, ?_, iha.1 _ _ _ _ hca hfa h1, ihb.2 (off + a.size) fs cs hcb hfb (fun g hg => h g (by simp [hg])) (by omega)⟩
      · rw [← List.drop_drop, List.take_append_drop]
      · rw [List.length_take, List.length_drop]; omega
  | nil =>
    refine ⟨fun _ _ _ _ h => by simp [Sh.chain] at h, fun off fs cs _ hf h hl => ?_⟩
    simp only [Sh.size] at hl
    show cs.drop off = []
    rw [List.drop_of_length_le (by omega)]
theorem sees_of {sh : Sh} {t : TypeId} {v : Value} {d : DataW H} {p : List MemPlace} (hc : sh.chain = false) (hf : fitsB P sh t 0 [] = true) (h : DataW.Trod enc P w base (fun _ => true) true t v d p) : Sees w sh v.cells.toList := by
  obtain ⟨fuel, h⟩ := h
  exact (sees_both sh).1 _ _ _ _ hc hf h
end
theorem Sees.keep {w w' : World} : ∀ (sh : Sh) (cs : List Value), Sees w sh cs → Below w.heap.size w w' → Sees w' sh cs := by
  intro sh
  induction sh with
  | int k => intro cs h _; exact h
  | bool => intro cs h _; exact h
  | str => intro cs h _; exact h
  | slice e ih =>
    intro cs h hb
    rcases h with h | ⟨a, len, cap, h1, h2, h3, h4⟩
    · exact .inl h
    · refine .inr ⟨a, len, cap, h1, h2, h3, fun i hi => ?_⟩
      obtain ⟨cs', h5, h6, h7⟩ := h4 i hi
      exact ⟨cs', h5, fun j u hu => (hb.cell (World.block_lt_of_cell? w _ (h6 j u hu))).trans (h6 j u hu), ih _ h7 hb⟩
  | arr n e ih =>
    intro cs h hb
    exact ⟨h.1, fun i hi => ih _ (h.2 i hi) hb⟩
  | strct s ih =>
    intro cs h hb
    exact ih cs h hb
  | pair a b iha ihb =>
    intro cs h hb
    obtain ⟨x, y, h1, h2, h3, h4⟩ := h
    exact ⟨x, y, h1, h2, iha _ h3 hb, ihb _ h4 hb⟩
  | nil => intro cs h _; exact h
abbrev Sh.bytes : Sh := .slice (.int .u8)
/-- A slice of integers that is seen, as the shell tells it. -/
theorem Sees.ints {w : World} {k : IntKind} {v : Value} (h : Sees w (.slice (.int k)) [v]) : ∃ a len cap z, v = .slice a len cap ∧ ((a = none ∧ len = 0 ∧ cap = 0 ∧ z = []) ∨ ∃ x, a = some x ∧ len ≤ cap ∧ cap ≤ maxLen ∧ z.length = cap ∧ (∀ i, i < z.length → w.cell? (x.add i) = some (.int k (z.getD i 0))) ∧ ∀ n ∈ z, (Lit.int k n).wf = true) := by
  rcases h with h | ⟨a, len, cap, h1, h2, h3, h4⟩
  · injection h with h _
    exact ⟨none, 0, 0, [], h, .inl ⟨rfl, rfl, rfl, rfl⟩⟩
  · injection h1 with h1 _
    obtain ⟨D, hD⟩ := choose_lt (α := Int) (n := cap) (p := fun i n => w.cell? (a.add i) = some (.int k n) ∧ (Lit.int k n).wf = true) (fun i hi => by
      obtain ⟨cs', h5, h6, n, rfl, hw⟩ := h4 i hi
      refine ⟨n, ?_, hw⟩
      have := h6 0 (.int k n) rfl
      simpa [Sh.size] using this)
    refine ⟨some a, len, cap, (List.range cap).map D, h1, .inr ⟨a, rfl, h2, h3, by simp, fun i hi => ?_, fun n hn => ?_⟩⟩
    · have hi' : i < cap := by simpa using hi
      rw [(hD i hi').1]
      simp [List.getD_eq_getElem?_getD, hi']
    · simp only [List.mem_map, List.mem_range] at hn
      obtain ⟨i, hi, rfl⟩ := hn
      exact (hD i hi).2
/-- Bytes that are seen. -/
theorem Sees.bytes {w : World} {v : Value} (h : Sees w Sh.bytes [v]) : ∃ (a : Option Addr) (c : Nat) (l : List UInt8), v = .slice a l.length c ∧ l.length ≤ c ∧ c ≤ 9223372036854775807 ∧ Byt w w.heap.size a l := by
  obtain ⟨a, len, cap, z, rfl, hr⟩ := h.ints
  obtain ⟨l, rfl, h1, h2, h3⟩ := bytes_of hr
  exact ⟨a, cap, l, rfl, h1, h2, h3⟩
/-- A slice of whatever, element by element. -/
theorem Sees.elems {w : World} {e : Sh} {v : Value} (h : Sees w (.slice e) [v]) : ∃ (A : Option Addr) (len cap : Nat), v = .slice A len cap ∧ len ≤ cap ∧ cap ≤ 9223372036854775807 ∧
    ∀ i, i < len → ∃ a cs', A = some a ∧ cs'.length = e.size ∧ (∀ j u, cs'[j]? = some u → w.cell? (a.add (i * e.size + j)) = some u) ∧ Sees w e cs' := by
  rcases h with h | ⟨a, len, cap, h1, h2, h3, h4⟩
  · injection h with h _
    exact ⟨none, 0, 0, h, Nat.le_refl _, by omega, fun i hi => by omega⟩
  · injection h1 with h1 _
    refine ⟨some a, len, cap, h1, h2, by unfold maxLen at h3; omega, fun i hi => ?_⟩
    obtain ⟨cs', h5, h6, h7⟩ := h4 i (by omega)
    exact ⟨a, cs', rfl, h5, h6, h7⟩
end Go.Proofs.Ytkjlmibjpfmfnaa.Words

set_option linter.unusedVariables false
set_option linter.unusedSimpArgs false
namespace Go.Proofs.Ytkjlmibjpfmfnaa.Words
open Go.ChangeShapes Go.WideShapes Go.ChangeAt Go.RowKit
/-- Only blocks of S, and new ones, have turned. -/
structure Fr (S : Nat → Prop) (w w' : World) : Prop where
  os : w'.os = w.os
  tape : w'.tape = w.tape
  output : w'.output = w.output
  size : w.heap.size ≤ w'.heap.size
  block : ∀ k, k < w.heap.size → ¬ S k → w'.heap[k]? = w.heap[k]?
section
variable {S S' T : Nat → Prop} {a b c w w' : World}
theorem Fr.refl (S : Nat → Prop) (w : World) : Fr S w w := ⟨rfl, rfl, rfl, Nat.le_refl _, fun _ _ _ => rfl⟩
theorem Fr.trans (h : Fr S a b) (k : Fr S' b c) (hs : ∀ x, x < a.heap.size → S' x → S x) : Fr S a c :=
  ⟨k.os.trans h.os, k.tape.trans h.tape, k.output.trans h.output, Nat.le_trans h.size k.size, fun x hx hn => (k.block x (Nat.lt_of_lt_of_le hx h.size) (fun hx' => hn (hs x hx hx'))).trans (h.block x hx hn)⟩
theorem Fr.same (h : Fr S a b) (k : Fr S b c) : Fr S a c := h.trans k (fun _ _ hx => hx)
theorem Fr.mono (h : Fr S a b) (hs : ∀ x, x < a.heap.size → S x → T x) : Fr T a b :=
  ⟨h.os, h.tape, h.output, h.size, fun x hx hn => h.block x hx (fun hx' => hn (hs x hx hx'))⟩
theorem Fr.drewN (h : Fr S a b) (n : Nat) : Fr S a (b.drewN n) := ⟨h.os, h.tape, h.output, h.size, h.block⟩
theorem Fr.drew (h : Fr S a b) : Fr S a b.drew := ⟨h.os, h.tape, h.output, h.size, h.block⟩
theorem Fr.alloc (h : Fr S a b) (o : Obj) : Fr S a (b.alloc o) :=
  ⟨h.os, h.tape, h.output, Nat.le_trans h.size (by simp), fun x hx hn => (Below.heap_alloc b o x (Nat.lt_of_lt_of_le hx h.size)).trans (h.block x hx hn)⟩
theorem Fr.setCell (h : Fr S a b) {p : Addr} (hp : S p.block ∨ a.heap.size ≤ p.block) (u : Value) : Fr S a (b.setCell p u) :=
  ⟨h.os, h.tape, h.output, by simpa [World.setCell] using h.size, fun x hx hn => (Below.heap_setCell b p u x (by
    rintro rfl
    rcases hp with hp | hp
    · exact hn hp
    · omega)).trans (h.block x hx hn)⟩
theorem Fr.grown {row : Option Nat} (h : Fr S a b) (k : b.grownBy c row) (hs : ∀ g, row = some g → S g ∨ a.heap.size ≤ g) : Fr S a c :=
  ⟨k.os.trans h.os, k.tape.trans h.tape, k.output.trans h.output, Nat.le_trans h.size k.size, fun x hx hn => (k.block x (Nat.lt_of_lt_of_le hx h.size) (fun e => by
    rcases hs x e.symm with h1 | h1
    · exact hn h1
    · omega)).trans (h.block x hx hn)⟩
theorem Fr.below {B : Nat} (h : Fr S a b) (k : Below B b c) (hs : ∀ x, B ≤ x → x < a.heap.size → S x) : Fr S a c :=
  ⟨k.os.trans h.os, k.tape.trans h.tape, k.output.trans h.output, Nat.le_trans h.size k.size, fun x hx hn => by
    rcases Nat.lt_or_ge x B with h1 | h1
    · exact (k.block x h1).trans (h.block x hx hn)
    · exact absurd (hs x h1 hx) hn⟩
theorem Fr.grows (h : Fr S a b) (k : Below b.heap.size b c) : Fr S a c := h.below k (fun x h1 h2 => by have := h.size; omega)
theorem Fr.of_below {B : Nat} (h : Below B a b) : Fr (fun k => B ≤ k) a b := ⟨h.os, h.tape, h.output, h.size, fun k _ hn => h.block k (by omega)⟩
theorem Fr.to_below {B : Nat} (h : Fr S a b) (hB : B ≤ a.heap.size) (hs : ∀ x, S x → B ≤ x) : Below B a b :=
  ⟨h.os, h.tape, h.output, h.size, fun x hx => h.block x (by omega) (fun h1 => by have := hs x h1; omega)⟩
/-- Behind something that lies below B, a step that turns what lies from B on alone. -/
theorem below_fr {B : Nat} (h : Below B a b) (k : Fr S b c) (hB : B ≤ a.heap.size) (hs : ∀ x, S x → B ≤ x) : Below B a c := h.trans (k.to_below (Nat.le_trans hB h.size) hs)
theorem Fr.of_grown {row : Option Nat} (h : a.grownBy b row) : Fr (fun k => some k = row) a b := ⟨h.os, h.tape, h.output, h.size, fun k hk hn => h.block k hk hn⟩
theorem Fr.blk {g : Nat} {t : TypeId} {cs : Array Value} (h : Fr S w w') (k : Blk w g t cs) (hg : ¬ S g) : Blk w' g t cs := (h.block g k.lt hg).trans k
theorem Fr.byt {B : Nat} {A : Option Addr} {l : List UInt8} (h : Fr S w w') (k : Byt w B A l) (hB : B ≤ w.heap.size) (hA : ∀ x, A = some x → ¬ S x.block) : Byt w' B A l :=
  ⟨k.1, fun hn => by
    obtain ⟨ad, e, hb, hc⟩ := k.2 hn
    exact ⟨ad, e, hb, fun j u hu => (World.cell?_of_block (h.block _ (by rw [block_of_add]; omega) (by rw [block_of_add]; exact hA ad e))).trans (hc j u hu)⟩⟩
theorem Fr.reads {B size n : Nat} {A : Option Addr} {xs : List Value} (h : Fr S w w') (k : Reads w B size A n xs) (hB : B ≤ w.heap.size) (hA : ∀ x, A = some x → ¬ S x.block) : Reads w' B size A n xs :=
  ⟨k.1, fun hn => by
    obtain ⟨ad, e, hb, hc⟩ := k.2 hn
    exact ⟨ad, e, hb, fun j u hu => (World.cell?_of_block (h.block _ (by rw [block_of_add]; omega) (by rw [block_of_add]; exact hA ad e))).trans (hc j u hu)⟩⟩
theorem Fr.own {B size n : Nat} {e : TypeId} {v : Value} {xs : List Value} (h : Fr S w w') (k : w.ownsRow B e size v n xs) (hv : ∀ g, v.ownBlock = some g → ¬ S g) : w'.ownsRow B e size v n xs := by
  refine ⟨k.1, ?_⟩
  rcases k.2 with hh | ⟨g, cap, cur, h1, h2, h3, h4⟩
  · exact .inl hh
  · subst h1
    have hlt : g < w.heap.size := Blk.lt (t := e) h3
    exact .inr ⟨g, cap, cur, rfl, h2, (h.block g hlt (hv g (by simp [Value.ownBlock]))).trans h3, h4⟩
end
theorem u8_info : (Try.prog.info? 5).map (fun i => (i.zero, i.size, i.bytes)) = some (some (.int .u8 0), 1, 1) := by kernel_rfl
/-- A row of bytes of the call's own. -/
abbrev Own (w : World) (B : Nat) (v : Value) (l : List UInt8) : Prop := w.ownsRow B 5 1 v l.length (u8s l)
theorem Own.byt {w : World} {B : Nat} {A : Option Addr} {c n : Nat} {l : List UInt8} (h : Own w B (.slice A n c) l) : Byt w w.heap.size A l := by
  have hn : n = l.length := by
    rcases h.2 with ⟨h1, h3⟩ | ⟨g, cap, cur, h1, _⟩
    · injection h1 with _ h2
      omega
    · injection h1
  subst hn
  exact Reads.of_own h
theorem own_mono {w : World} {B B' : Nat} {e : TypeId} {size n : Nat} {v : Value} {xs : List Value} (h : w.ownsRow B e size v n xs) (hB : B' ≤ B) : w.ownsRow B' e size v n xs := by
  refine ⟨h.1, ?_⟩
  rcases h.2 with h | ⟨g, cap, cur, h1, h2, h3⟩
  · exact .inl h
  · exact .inr ⟨g, cap, cur, h1, Nat.le_trans hB h2, h3⟩
theorem byt_of_heap {w : World} {B g : Nat} {t : TypeId} {fr : Nat × Nat} {cs : Array Value} (h : w.heap[g]? = some (.cells cs t fr)) (hB : g < B) {l : List UInt8} (hl : cs.toList.take l.length = u8s l) : Byt w B (some ⟨g, 0, none⟩) l := by
  refine ⟨by simp [u8s_length], fun _ => ⟨_, rfl, hB, fun j u hu => ?_⟩⟩
  have hj : j < l.length := by
    have := (List.getElem?_eq_some_iff.1 hu).1
    simpa [u8s_length] using this
  have hc : w.cell? ((⟨g, 0, none⟩ : Addr).add j) = cs[j]? := by
    rw [← cell_of_row w g j cs t fr h]
    unfold Addr.add
    split
    · rename_i e; rw [e]
    · simp
  rw [hc, ← hu, ← hl, List.getElem?_take, if_pos hj]
  simp
/-- A number laid into a range: int(uint(a) % uint(m)). -/
theorem u64rem (a m : Int) (hm : 0 < m) (h63 : m ≤ 9223372036854775807) : ∃ k : Nat, wrap64 ((IntKind.u64.wrap a).tmod m) = (k : Int) ∧ (k : Int) < m := by
  have h0 : 0 ≤ IntKind.u64.wrap a := by rw [IntKind.wrap_u64]; omega
  rw [Int.tmod_eq_emod_of_nonneg h0]
  have h1 := Int.emod_nonneg (IntKind.u64.wrap a) (show m ≠ 0 by omega)
  have h2 := Int.emod_lt_of_pos (IntKind.u64.wrap a) hm
  refine ⟨((IntKind.u64.wrap a) % m).toNat, ?_, by omega⟩
  rw [IntWalk.wrap64_in _ ⟨by omega, by omega⟩]
  omega
end Go.Proofs.Ytkjlmibjpfmfnaa.Words

set_option linter.unusedVariables false
set_option linter.unusedSimpArgs false
namespace Go.Proofs.Ytkjlmibjpfmfnaa.Oct
open Go.ChangeShapes Go.WideShapes Go.ChangeAt Go.RowKit Go.Proofs.Ytkjlmibjpfmfnaa.Words
def lenOf : Value → Nat | .slice _ n _ => n | _ => 0
end Go.Proofs.Ytkjlmibjpfmfnaa.Oct

set_option linter.unusedVariables false
set_option linter.unusedSimpArgs false
namespace Go.Proofs.Ytkjlmibjpfmfnaa.Par
open Go.ChangeShapes Go.WideShapes Go.ChangeAt Go.RowKit Go.Deep Go.Proofs.Ytkjlmibjpfmfnaa.Words Go.Proofs.Ytkjlmibjpfmfnaa.Oct
/-- A slice of parameters that reads as the list ls, below block B. -/
def Ps (w : World) (B : Nat) (A : Option Addr) (ls : List Prm) : Prop :=
  ∀ k p, ls[k]? = some p → ∃ ad a c, A = some ad ∧ ad.block < B ∧ p.1 < 65536 ∧ w.cell? (ad.add (k * 2)) = some (.int .u16 (p.1 : Int)) ∧
    w.cell? ⟨(ad.add (k * 2)).block, (ad.add (k * 2)).off + 1, none⟩ = some (.slice a p.2.length c) ∧ p.2.length ≤ c ∧ c ≤ 9223372036854775807 ∧ Byt w B a p.2
section
variable {w w' : World} {B B' : Nat} {A : Option Addr} {ls : List Prm}
theorem Ps.keep (h : Ps w B A ls) (hk : ∀ p : Addr, p.block < B → w'.cell? p = w.cell? p) : Ps w' B A ls := fun k p hp => by
  obtain ⟨ad, a, c, h1, h2, h3, h4, h5, h6, h7, h8⟩ := h k p hp
  have hb : (ad.add (k * 2)).block < B := by rw [block_of_add]; exact h2
  exact ⟨ad, a, c, h1, h2, h3, (hk _ hb).trans h4, (hk ⟨(ad.add (k * 2)).block, (ad.add (k * 2)).off + 1, none⟩ hb).trans h5, h6, h7, h8.keep hk⟩
theorem Ps.more (h : Ps w B A ls) (hB : B ≤ B') : Ps w B' A ls := fun k p hp => by
  obtain ⟨ad, a, c, h1, h2, h3, h4, h5, h6, h7, h8⟩ := h k p hp
  exact ⟨ad, a, c, h1, by omega, h3, h4, h5, h6, h7, h8.more hB⟩
theorem Ps.below (h : Ps w B A ls) (hb : Below B w w') : Ps w' B A ls := h.keep fun _ hp => hb.cell hp
theorem Ps.drewN (h : Ps w B A ls) (n : Nat) : Ps (w.drewN n) B A ls := h
theorem Ps.nil (w : World) (B : Nat) (A : Option Addr) : Ps w B A [] := fun k p hp => by simp at hp
end
/-- A row of parameters of the call's own, their values rows of bytes of its own. -/
def OwnPs (w : World) (B : Nat) (v : Value) (ls : List Prm) : Prop :=
  ∃ xs, w.ownsRow B 160 2 v ls.length xs ∧ ∀ k p, ls[k]? = some p → p.1 < 65536 ∧ ∃ a c, xs[k * 2]? = some (.int .u16 (p.1 : Int)) ∧ xs[k * 2 + 1]? = some (.slice a p.2.length c) ∧ p.2.length ≤ c ∧ c ≤ 9223372036854775807 ∧ Own w B (.slice a p.2.length c) p.2
theorem own_ne {w : World} {B B' : Nat} {e e' : TypeId} {s s' n n' : Nat} {v v' : Value} {xs xs' : List Value} (h : w.ownsRow B e s v n xs) (h' : w.ownsRow B' e' s' v' n' xs') (hne : e ≠ e') : ∀ g, v.ownBlock = some g → v'.ownBlock ≠ some g := by
  intro g hg hg'
  rcases h.2 with ⟨rfl, _⟩ | ⟨b, cap, cur, rfl, _, hb, _⟩
  · simp [Value.ownBlock] at hg
  · rcases h'.2 with ⟨rfl, _⟩ | ⟨b', cap', cur', rfl, _, hb', _⟩
    · simp [Value.ownBlock] at hg'
    · simp only [Value.ownBlock, Option.some.injEq] at hg hg'
      subst hg hg'
      exact Blk.ne_ (t := e) (t' := e') hb hb' hne rfl
section
variable {w w' : World} {B B' : Nat} {v : Value} {ls : List Prm}
theorem OwnPs.nil (w : World) (B : Nat) : OwnPs w B (.slice none 0 0) [] := ⟨[], World.ownsRow_nil _ _ _ _, fun k p h => by simp at h⟩
theorem OwnPs.fr {S : Nat → Prop} (h : OwnPs w B v ls) (k : Fr S w w') (hS : ∀ i, S i → i < w.heap.size → i < B) : OwnPs w' B v ls := by
  obtain ⟨xs, h1, h2⟩ := h
  refine ⟨xs, k.own h1 (fun g hg hi => by have := h1.lt g hg; have := hS g hi this.2; omega), fun i p hp => ?_⟩
  obtain ⟨h3, a, c, h4, h5, h6, h7, h8⟩ := h2 i p hp
  exact ⟨h3, a, c, h4, h5, h6, h7, k.own h8 (fun g hg hi => by have := h8.lt g hg; have := hS g hi this.2; omega)⟩
theorem OwnPs.grows (h : OwnPs w B v ls) (k : Below w.heap.size w w') : OwnPs w' B v ls := h.fr (Fr.of_below k) (fun i hi hlt => by omega)
theorem OwnPs.mono (h : OwnPs w B v ls) (hB : B' ≤ B) : OwnPs w B' v ls := by
  obtain ⟨xs, h1, h2⟩ := h
  refine ⟨xs, own_mono h1 hB, fun i p hp => ?_⟩
  obtain ⟨h3, a, c, h4, h5, h6, h7, h8⟩ := h2 i p hp
  exact ⟨h3, a, c, h4, h5, h6, h7, own_mono h8 hB⟩
theorem OwnPs.slice (h : OwnPs w B v ls) : ∃ A c, v = .slice A ls.length c ∧ ls.length ≤ c ∧ c ≤ 9223372036854775807 := by
  obtain ⟨xs, h1, _⟩ := h
  exact own_slice h1
theorem OwnPs.ps {A : Option Addr} {n c : Nat} (h : OwnPs w B (.slice A n c) ls) : Ps w w.heap.size A ls := fun k p hp => by
  obtain ⟨xs, h1, h2⟩ := h
  obtain ⟨h3, a, c', h4, h5, h6, h7, h8⟩ := h2 k p hp
  have hk : k < ls.length := (List.getElem?_eq_some_iff.1 hp).1
  obtain ⟨g, cap, hv, hg1, hg2⟩ := h1.form (by omega)
  injection hv with hv _ _
  subst hv
  have hcell := h1.cells (g := g) rfl
  refine ⟨⟨g, 0, none⟩, a, c', rfl, hg2, h3, hcell _ _ h4, ?_, h6, h7, Own.byt h8⟩
  have := hcell _ _ h5
  rwa [← add_of_add, add_lit _ (by omega)] at this
/-- One parameter more behind a row of its own. -/
theorem OwnPs.snoc {v' : Value} {a : Option Addr} {c n : Nat} {p : Prm} {xs : List Value} (h : OwnPs w B v ls) (hg : w.grownBy w' v.ownBlock) (hx : w.ownsRow B 160 2 v ls.length xs) (ho : w'.ownsRow B 160 2 v' n (xs ++ [.int .u16 (p.1 : Int), .slice a p.2.length c])) (hn : n = ls.length + 1)
    (hp : p.1 < 65536) (hc : p.2.length ≤ c) (hm : c ≤ 9223372036854775807) (hv : Own w B (.slice a p.2.length c) p.2) (hxs : ∀ k q, ls[k]? = some q → q.1 < 65536 ∧ ∃ a c, xs[k * 2]? = some (.int .u16 (q.1 : Int)) ∧ xs[k * 2 + 1]? = some (.slice a q.2.length c) ∧ q.2.length ≤ c ∧ c ≤ 9223372036854775807 ∧ Own w B (.slice a q.2.length c) q.2) : OwnPs w' B v' (ls ++ [p]) := by
  have hf := Fr.of_grown hg
  have keep : ∀ {u : Value} {l : List UInt8}, Own w B u l → Own w' B u l := fun {u l} hu => hf.own hu (fun g hg hi => own_ne hx hu (by decide) g hi.symm hg)
  have hl := hx.1
  refine ⟨_, by rw [List.length_append, List.length_singleton, ← hn]; exact ho, fun k q hq => ?_⟩
  by_cases hk : k < ls.length
  · rw [List.getElem?_append_left hk] at hq
    obtain ⟨h3, a', c', h4, h5, h6, h7, h8⟩ := hxs k q hq
    exact ⟨h3, a', c', by rw [List.getElem?_append_left (by omega)]; exact h4, by rw [List.getElem?_append_left (by omega)]; exact h5, h6, h7, keep h8⟩
  · rw [List.getElem?_append_right (by omega)] at hq
    have hk0 : k - ls.length = 0 := by
      have := (List.getElem?_eq_some_iff.1 hq).1
      simp at this
      omega
    rw [hk0] at hq
    simp only [List.getElem?_cons_zero, Option.some.injEq] at hq
    subst hq
    have hkl : k = ls.length := by omega
    subst hkl
    refine ⟨hp, a, c, ?_, ?_, hc, hm, keep hv⟩
    · rw [List.getElem?_append_right (by omega), show ls.length * 2 - xs.length = 0 by omega]; rfl
    · rw [List.getElem?_append_right (by omega), show ls.length * 2 + 1 - xs.length = 1 by omega]; rfl
end
end Go.Proofs.Ytkjlmibjpfmfnaa.Par

set_option linter.unusedVariables false
set_option linter.unusedSimpArgs false
namespace Go.Proofs.Ytkjlmibjpfmfnaa.Oct
open Go.ChangeShapes Go.WideShapes Go.ChangeAt Go.RowKit Go.Proofs.Ytkjlmibjpfmfnaa.Words
section
variable {w w' : World} {p G : Nat} {l : List UInt8} {bad : Bool}
end
/-- The frame of a reader's step. -/
abbrev At (p : Nat) : Nat → Prop := fun k => k = p
end Go.Proofs.Ytkjlmibjpfmfnaa.Oct

set_option linter.unusedVariables false
set_option linter.unusedSimpArgs false
namespace Go.Proofs.Ytkjlmibjpfmfnaa.Oct
open Go.ChangeShapes Go.WideShapes Go.ChangeAt Go.RowKit Go.Proofs.Ytkjlmibjpfmfnaa.Words
section
variable {w w' : World} {p B : Nat} {v : Value} {l : List UInt8} {lg : Bool}
end
/-- What is left behind n bytes; whether that is bad; the number of n bytes; n bytes. -/
def cutL (n : Nat) (l : List UInt8) : List UInt8 := if n ≤ l.length then l.drop n else []
def cutB (n : Nat) (l : List UInt8) (bad : Bool) : Bool := if n ≤ l.length then bad else true
def val (n : Nat) (l : List UInt8) : Nat := if n ≤ l.length then num (l.take n) else 0
theorem cutL_yes {n : Nat} {l : List UInt8} (h : n ≤ l.length) : cutL n l = l.drop n := if_pos h
theorem cutB_yes {n : Nat} {l : List UInt8} (h : n ≤ l.length) (bad : Bool) : cutB n l bad = bad := if_pos h
theorem cutB_no {n : Nat} {l : List UInt8} (h : ¬ n ≤ l.length) (bad : Bool) : cutB n l bad = true := if_neg h
theorem val_yes {n : Nat} {l : List UInt8} (h : n ≤ l.length) : val n l = num (l.take n) := if_pos h
theorem val_cut {a b : Nat} {l : List UInt8} (h : b + a ≤ l.length) : val a (cutL b l) = num ((l.drop b).take a) := by
  rw [cutL_yes (by omega), val_yes (by rw [List.length_drop]; omega)]
end Go.Proofs.Ytkjlmibjpfmfnaa.Oct

set_option linter.unusedVariables false
set_option linter.unusedSimpArgs false
namespace Go.Proofs.Ytkjlmibjpfmfnaa.Chk
open Go.ChangeShapes Go.WideShapes Go.ChangeAt Go.RowKit Go.Deep Go.Proofs.Ytkjlmibjpfmfnaa.Words Go.Proofs.Ytkjlmibjpfmfnaa.Oct Go.Proofs.Ytkjlmibjpfmfnaa.Par
/-- A chunk's cells: its plain fields, its five lists. -/
def ckArr (c : Ck) (gv dv sv pv bv : Value) : Array Value :=
  #[.int .u8 (c.kind : Int), .bool c.bg, .bool c.en, .bool c.lo, .bool c.ba, .int .u32 (c.tsn : Int), .int .u16 (c.st : Int), .int .u32 (c.mid : Int), .int .u32 (c.pp : Int), .int .u32 (c.fr : Int), .int .u32 (c.tag : Int), .int .u32 (c.win : Int),
    .int .u16 (c.out : Int), .int .u16 (c.inn : Int), gv, dv, sv, pv, bv]
def gapC (l : List Gp) : List Value := (l.map fun g => [Value.int .u16 (g.1 : Int), .int .u16 (g.2 : Int)]).flatten
def dupC (l : List Nat) : List Value := l.map fun d : Nat => Value.int .u32 (d : Int)
def skC (l : List Skp) : List Value := (l.map fun s => [Value.int .u16 (s.1 : Int), .bool s.2.1, .int .u32 (s.2.2 : Int)]).flatten
/-- A list's head: where it lies, how long, what room. -/
structure Hd where
  A : Option Addr
  cap : Nat
def Hd.v (h : Hd) (n : Nat) : Value := .slice h.A n h.cap
def Hd.okN (h : Hd) (n : Nat) : Prop := n ≤ h.cap ∧ h.cap ≤ 9223372036854775807
/-- Cells that read as the chunk c, its lists below block B. -/
structure CkAt (w : World) (B : Nat) (cs : Array Value) (c : Ck) : Prop where
  ok : c.ok
  ex : ∃ g d s p b : Hd, cs = ckArr c (g.v c.gaps.length) (d.v c.dups.length) (s.v c.skips.length) (p.v c.ps.length) (b.v c.body.length) ∧
    g.okN c.gaps.length ∧ d.okN c.dups.length ∧ s.okN c.skips.length ∧ p.okN c.ps.length ∧ b.okN c.body.length ∧
    Reads w B 2 g.A c.gaps.length (gapC c.gaps) ∧ Reads w B 1 d.A c.dups.length (dupC c.dups) ∧ Reads w B 3 s.A c.skips.length (skC c.skips) ∧ Ps w B p.A c.ps ∧ Byt w B b.A c.body
section
variable {w w' : World} {B B' : Nat} {cs : Array Value} {c : Ck}
theorem CkAt.keep (h : CkAt w B cs c) (hk : ∀ p : Addr, p.block < B → w'.cell? p = w.cell? p) : CkAt w' B cs c := by
  obtain ⟨ok, g, d, s, p, b, e, h1, h2, h3, h4, h5, r1, r2, r3, r4, r5⟩ := h
  exact ⟨ok, g, d, s, p, b, e, h1, h2, h3, h4, h5, r1.keep hk, r2.keep hk, r3.keep hk, r4.keep hk, r5.keep hk⟩
theorem CkAt.more (h : CkAt w B cs c) (hB : B ≤ B') : CkAt w B' cs c := by
  obtain ⟨ok, g, d, s, p, b, e, h1, h2, h3, h4, h5, r1, r2, r3, r4, r5⟩ := h
  exact ⟨ok, g, d, s, p, b, e, h1, h2, h3, h4, h5, r1.more hB, r2.more hB, r3.more hB, r4.more hB, r5.more hB⟩
theorem CkAt.below (h : CkAt w B cs c) (hb : Below B w w') : CkAt w' B cs c := h.keep fun _ hp => hb.cell hp
theorem CkAt.fr {S : Nat → Prop} (h : CkAt w B cs c) (k : Fr S w w') (hB : B ≤ w.heap.size) (hS : ∀ i, S i → B ≤ i) : CkAt w' B cs c :=
  h.keep fun p hp => World.cell?_of_block (k.block _ (by omega) (fun hs => by have := hS _ hs; omega))
theorem CkAt.drewN (h : CkAt w B cs c) (n : Nat) : CkAt (w.drewN n) B cs c := h.keep fun _ _ => rfl
theorem CkAt.drew (h : CkAt w B cs c) : CkAt w.drew B cs c := h.keep fun _ _ => rfl
theorem CkAt.size (h : CkAt w B cs c) : cs.size = 19 := by obtain ⟨_, g, d, s, p, b, rfl, _⟩ := h; rfl
theorem CkAt.one (h : CkAt w B cs c) : cs.all (·.oneCell') = true := by obtain ⟨_, g, d, s, p, b, rfl, _⟩ := h; simp [ckArr, Value.oneCell', Hd.v]
end
/-- A chunk's variable. -/
abbrev CkBlk (w : World) (g : Nat) (cs : Array Value) : Prop := Blk w g 51 cs
theorem chunk_info : (Try.prog.info? 51).map (·.size) = some 19 := by kernel_rfl
/-- What the walk is told of a chunk's cells. -/
structure Cells (cs : Array Value) (c : Ck) (g d s p b : Hd) : Prop where
  size : cs.size = 19
  c0 : cs[0]? = some (.int .u8 (c.kind : Int))
  c1 : cs[1]? = some (.bool c.bg)
  c2 : cs[2]? = some (.bool c.en)
  c3 : cs[3]? = some (.bool c.lo)
  c4 : cs[4]? = some (.bool c.ba)
  c5 : cs[5]? = some (.int .u32 (c.tsn : Int))
  c6 : cs[6]? = some (.int .u16 (c.st : Int))
  c7 : cs[7]? = some (.int .u32 (c.mid : Int))
  c8 : cs[8]? = some (.int .u32 (c.pp : Int))
  c9 : cs[9]? = some (.int .u32 (c.fr : Int))
  c10 : cs[10]? = some (.int .u32 (c.tag : Int))
  c11 : cs[11]? = some (.int .u32 (c.win : Int))
  c12 : cs[12]? = some (.int .u16 (c.out : Int))
  c13 : cs[13]? = some (.int .u16 (c.inn : Int))
  c14 : cs[14]? = some (.slice g.A c.gaps.length g.cap)
  c15 : cs[15]? = some (.slice d.A c.dups.length d.cap)
  c16 : cs[16]? = some (.slice s.A c.skips.length s.cap)
  c17 : cs[17]? = some (.slice p.A c.ps.length p.cap)
  c18 : cs[18]? = some (.slice b.A c.body.length b.cap)
structure Lists (w : World) (B : Nat) (c : Ck) (g d s p b : Hd) : Prop where
  okg : g.okN c.gaps.length
  okd : d.okN c.dups.length
  oks : s.okN c.skips.length
  okp : p.okN c.ps.length
  okb : b.okN c.body.length
  gaps : Reads w B 2 g.A c.gaps.length (gapC c.gaps)
  dups : Reads w B 1 d.A c.dups.length (dupC c.dups)
  skips : Reads w B 3 s.A c.skips.length (skC c.skips)
  ps : Ps w B p.A c.ps
  body : Byt w B b.A c.body
theorem CkAt.parts {w : World} {B : Nat} {cs : Array Value} {c : Ck} (h : CkAt w B cs c) : ∃ g d s p b : Hd, Cells cs c g d s p b ∧ Lists w B c g d s p b := by
  obtain ⟨_, g, d, s, p, b, rfl, h1, h2, h3, h4, h5, r1, r2, r3, r4, r5⟩ := h
  exact ⟨g, d, s, p, b, ⟨rfl, rfl, rfl, rfl, rfl, rfl, rfl, rfl, rfl, rfl, rfl, rfl, rfl, rfl, rfl, rfl, rfl, rfl, rfl, rfl⟩, ⟨h1, h2, h3, h4, h5, r1, r2, r3, r4, r5⟩⟩
/-- A chunk's variable, just made: its cell, and what it stands beside. -/
theorem CkBlk.at {w : World} {g : Nat} {cs : Array Value} {i : Nat} {v : Value} (h : CkBlk w g cs) (hv : cs[i]? = some v) : w.cell? ⟨g, i, none⟩ = some v := (h.cell i).trans hv
theorem beq_no {k : Nat} {n : Int} (h : ¬ (k : Int) = n) : ((k : Int) == n) = false := by simpa using h
end Go.Proofs.Ytkjlmibjpfmfnaa.Chk

set_option linter.unusedVariables false
set_option linter.unusedSimpArgs false
namespace Go.Proofs.Ytkjlmibjpfmfnaa.Par
open Go.ChangeShapes Go.WideShapes Go.ChangeAt Go.RowKit Go.Deep Go.Proofs.Ytkjlmibjpfmfnaa.Words Go.Proofs.Ytkjlmibjpfmfnaa.Oct
/-- Where a list of bytes stands beside the loop's variable. -/
structure BSt (w V : World) (gv : Nat) (b : Value) (l : List UInt8) (cs : Array Value) : Prop where
  own : Own V w.heap.size b l
  blk : Blk V gv 160 cs
  below : Below w.heap.size w V
section
variable {w V V' : World} {gv : Nat} {b b' : Value} {l l' : List UInt8} {cs : Array Value}
theorem BSt.grows (h : BSt w V gv b l cs) (k : Below V.heap.size V V') : BSt w V' gv b l cs :=
  ⟨(Fr.of_below k).own h.own (fun g hg hi => by have := (h.own.lt g hg).2; omega), h.blk.below k h.blk.lt, h.below.trans (k.mono h.below.size)⟩
end
end Go.Proofs.Ytkjlmibjpfmfnaa.Par
