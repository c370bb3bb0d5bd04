/-
  For the laws of package mac: calls of Seal and Hash at slices that were just built; a sum that is laid in a block of its own.
-/
import Derived.Test.YtmbgjijajakgeaaDoorMac12
import Derived.Laws.Cover1
set_option linter.unusedVariables false
set_option linter.unusedSimpArgs false
namespace Go.Proofs.YtmbgjijajakgeaaDoor.Sha
open Go.ChangeShapes Go.WideShapes Go.ChangeAt Go.RowKit Go.Proofs.YtmbgjijajakgeaaDoor.Words

/-- A value that is a slice of these bytes. -/
def PtV (w : World) (B : Nat) (v : Value) (l : List UInt8) : Prop := ∃ a n c, v = .slice a n c ∧ n = l.length ∧ n ≤ c ∧ c ≤ 9223372036854775807 ∧ Byt w B a l
def PtL (w : World) (B : Nat) : List Value → List (List UInt8) → Prop
  | [], [] => True
  | v :: vs, l :: ls => PtV w B v l ∧ PtL w B vs ls
  | _, _ => False
section
variable {w w' : World} {B B' g : Nat} {v vk : Value} {l kb : List UInt8} {xs : List Value} {ls : List (List UInt8)} {t : TypeId}
theorem PtV.below (h : PtV w B v l) (hb : Below B w w') : PtV w' B v l := by
  obtain ⟨a, n, c, h1, h2, h3, h4, h5⟩ := h
  exact ⟨a, n, c, h1, h2, h3, h4, h5.below hb⟩
theorem PtV.more (h : PtV w B v l) (hB : B ≤ B') : PtV w B' v l := by
  obtain ⟨a, n, c, h1, h2, h3, h4, h5⟩ := h
  exact ⟨a, n, c, h1, h2, h3, h4, h5.more hB⟩
theorem PtV.grow (h : PtV w w.heap.size v l) (hb : Below w.heap.size w w') : PtV w' w'.heap.size v l := (h.below hb).more hb.size
theorem PtV.nil (w : World) (B : Nat) : PtV w B (.slice none 0 0) [] := ⟨none, 0, 0, rfl, rfl, Nat.le_refl _, by omega, by unfold Byt; exact Reads.none_⟩
theorem PtV.mk {a : Option Addr} {n c : Nat} (hn : n = l.length) (h1 : n ≤ c) (h2 : c ≤ 9223372036854775807) (h : Byt w B a l) : PtV w B (.slice a n c) l := ⟨a, n, c, rfl, hn, h1, h2, h⟩
theorem PtV.blk32 (h : Blk w g t (V l)) (hl : l.length = 32) (hg : g < B) : PtV w B (.slice (some ⟨g, 0, none⟩) 32 32) l :=
  .mk hl.symm (Nat.le_refl _) (by omega) (h.byt hg (by rw [List.take_of_length_le (by simp [V, u8s_length])]; rfl))
theorem PtL.below : ∀ {xs : List Value} {ls : List (List UInt8)}, PtL w B xs ls → Below B w w' → PtL w' B xs ls
  | [], [], _, _ => trivial
  | v :: vs, l :: ls, h, hb => ⟨h.1.below hb, h.2.below hb⟩
  | [], _ :: _, h, _ => h.elim
  | _ :: _, [], h, _ => h.elim
theorem PtL.more : ∀ {xs : List Value} {ls : List (List UInt8)}, PtL w B xs ls → B ≤ B' → PtL w B' xs ls
  | [], [], _, _ => trivial
  | v :: vs, l :: ls, h, hb => ⟨h.1.more hb, h.2.more hb⟩
  | [], _ :: _, h, _ => h.elim
  | _ :: _, [], h, _ => h.elim
theorem PtL.len : ∀ {xs : List Value} {ls : List (List UInt8)}, PtL w B xs ls → xs.length = ls.length
  | [], [], _ => rfl
  | v :: vs, l :: ls, h => by rw [List.length_cons, List.length_cons, h.2.len]
  | [], _ :: _, h => h.elim
  | _ :: _, [], h => h.elim
theorem PtL.at_ : ∀ {xs : List Value} {ls : List (List UInt8)}, PtL w B xs ls → ∀ (j : Nat) (l : List UInt8), ls[j]? = some l → ∃ a c, xs[j]? = some (Value.slice a l.length c) ∧ l.length ≤ c ∧ c ≤ 9223372036854775807 ∧ Byt w B a l
  | [], [], _, j, l, hj => by simp at hj
  | v :: vs, l :: ls, h, 0, m, hj => by
    simp only [List.getElem?_cons_zero, Option.some.injEq] at hj
    subst hj
    obtain ⟨a, n, c, rfl, rfl, h3, h4, h5⟩ := h.1
    exact ⟨a, c, rfl, h3, h4, h5⟩
  | v :: vs, l :: ls, h, j + 1, m, hj => by
    simp only [List.getElem?_cons_succ] at hj ⊢
    exact h.2.at_ j m hj
  | [], _ :: _, h, _, _, _ => h.elim
  | _ :: _, [], h, _, _, _ => h.elim
theorem PtL.pts (h : PtL w B xs ls) (hb : Blk w g t xs.toArray) (hg : g < B) : Pts w B (some ⟨g, 0, none⟩) xs.length xs ls := ⟨blk_reads hb hg, h.len, h.at_⟩
theorem seal_v {n c : Nat} (hk : PtV w w.heap.size vk kb) (hb : Blk w g t xs.toArray) (hp : PtL w w.heap.size xs ls) (hn : n = xs.length) (hs : kb.length ≤ 800000 ∧ xs.length ≤ 80 ∧ ls.flatten.length ≤ 800000) (hK : Laid w) :
    Calls Tryd.prog 14 #[vk, .slice (some ⟨g, 0, none⟩) n c] w fun e w' => e = .returned (.agg (V (seal_ kb ls.flatten))) ∧ Below w.heap.size w w' := by
  obtain ⟨a, nk, ck, rfl, h2, h3, h4, h5⟩ := hk
  subst hn
  exact seal_any h2 h3 h4 h5 (by omega) (hp.pts hb hb.lt) hs.2.1 hs.2.2 hK
theorem hash_v {n c : Nat} (hb : Blk w g t xs.toArray) (hp : PtL w w.heap.size xs ls) (hn : n = xs.length) (hs : xs.length ≤ 80 ∧ ls.flatten.length ≤ 800000) (hK : Laid w) :
    Calls Tryd.prog 28 #[.slice (some ⟨g, 0, none⟩) n c] w fun e w' => e = .returned (.agg (V (hash ls.flatten))) ∧ Below w.heap.size w w' := by
  subst hn
  exact hash_any (hp.pts hb hb.lt) (by omega) (by omega) hK
theorem below_new (w : World) (o : Obj) : Below w.heap.size w (w.alloc o) := (Below.refl _ _).alloc (Nat.le_refl _) _
theorem seal_new {n c : Nat} (hk : PtV w w.heap.size vk kb) (hp : PtL w w.heap.size xs ls) (hn : n = xs.length) (hs : kb.length ≤ 800000 ∧ xs.length ≤ 80 ∧ ls.flatten.length ≤ 800000) (hK : Laid w) :
    Calls Tryd.prog 14 #[vk, .slice (some ⟨w.heap.size, 0, none⟩) n c] (w.alloc (.cells xs.toArray t)) fun e w' => e = .returned (.agg (V (seal_ kb ls.flatten))) ∧ Below w.heap.size w w' := by
  have hb := below_new w (.cells xs.toArray t)
  exact (seal_v (hk.grow hb) (Blk.new w t xs.toArray) ((hp.below hb).more hb.size) hn hs (hK.below hb hK.size)).mono fun e w' ⟨h1, h2⟩ => ⟨h1, hb.trans (h2.mono hb.size)⟩
theorem hash_new {n c : Nat} (hp : PtL w w.heap.size xs ls) (hn : n = xs.length) (hs : xs.length ≤ 80 ∧ ls.flatten.length ≤ 800000) (hK : Laid w) :
    Calls Tryd.prog 28 #[.slice (some ⟨w.heap.size, 0, none⟩) n c] (w.alloc (.cells xs.toArray t)) fun e w' => e = .returned (.agg (V (hash ls.flatten))) ∧ Below w.heap.size w w' := by
  have hb := below_new w (.cells xs.toArray t)
  exact (hash_v (Blk.new w t xs.toArray) ((hp.below hb).more hb.size) hn hs (hK.below hb hK.size)).mono fun e w' ⟨h1, h2⟩ => ⟨h1, hb.trans (h2.mono hb.size)⟩
end
/-- A sum in a block of its own. -/
def put32 (w : World) (s : List UInt8) : World := (w.alloc (.cells (V (Zb 32)) 41)).setRow w.heap.size (V s)
theorem put32_below (w : World) (s : List UInt8) : Below w.heap.size w (put32 w s) := below_setRow (below_new w _) (Nat.le_refl _) _
theorem put32_blk (w : World) (s : List UInt8) : Blk (put32 w s) w.heap.size 41 (V s) := setRow_heap _ _ _ _ _ _ (Blk.new w _ _)
theorem put32_size (w : World) (s : List UInt8) : (put32 w s).heap.size = w.heap.size + 1 := by simp [put32, World.setRow]
theorem wpList_alloc32 {ops : Array Oper} {rest : List Oper} {o : Oper} {a : Act} {w : World} {Q : Exit → Act → World → Prop} (hgd : o.guard = none) (ho : o.op = .alloc 41)
    (h : wpList Tryd.prog ops Q rest (a.put o.dst (.pointer (some ⟨w.heap.size, 0, none⟩))) (w.alloc (.cells (V (Zb 32)) 41))) : wpList Tryd.prog ops Q (o :: rest) a w :=
  wpList_alloc_run _ hgd 41 ho (alloc_b32 _) h
theorem wpList_store32 {ops : Array Oper} {rest : List Oper} {o : Oper} {a : Act} {w : World} {Q : Exit → Act → World → Prop} (hgd : o.guard = none) (x y : Operand) (ho : o.op = .store 41 x y) {s : List UInt8} (hs : s.length = 32)
    (hx : a.eval x = .pointer (some ⟨w.heap.size, 0, none⟩)) (hy : a.eval y = .agg (V s))
    (h : wpList Tryd.prog ops Q rest (a.put o.dst undef) (put32 w s)) : wpList Tryd.prog ops Q (o :: rest) a (w.alloc (.cells (V (Zb 32)) 41)) :=
  wpList_store_row hgd 41 x y ho w.heap.size (V s) hx hy 41 (V (Zb 32)) (Blk.new w _ _) (by rw [V_size, hs]; exact size_b32) (by rw [V_size, V_size, hs]; rfl) (V_one _) h
theorem load_b32 {w : World} {g : Nat} {l : List UInt8} (h : Blk w g 41 (V l)) (hl : l.length = 32) : (Instr.loadAt 41 (.pointer (some ⟨g, 0, none⟩))).run Tryd.prog w = .ok (.agg (V l)) w := by
  have := run_loadVar_row (P := Tryd.prog) w g 41 41 (V l) (0, 0) _ h Tryd.underlying41 rfl (by rw [V_size, hl]; exact size_b32)
  simp [Instr.loadAt, Instr.sureAddr, this]
theorem exec_same32 {ρ : Operand → Value} {o : Oper} {x y : Operand} {r : TypeId} {w : World} (a b : List UInt8) (ha : a.length = 32) (he : a = b) (ho : o.op = .binOp .eql 41 x y r) (hx : ρ x = .agg (V a)) (hy : ρ y = .agg (V b)) :
    (execOp ρ o).run Tryd.prog w = .ok (.value (.bool true)) w := by
  subst he
  rw [exec_eq32 a a ha ha ho hx hy, decide_eq_true rfl]
/-- A built slice of parts, as later operations read it. -/
def Built (xs : List Value) (v : Value) (w : World) : Prop := ∃ g, v = .slice (some ⟨g, 0, none⟩) xs.length xs.length ∧ Blk w g 22 xs.toArray
theorem Built.new (w : World) (xs : List Value) : Built xs (.slice (some ⟨w.heap.size, 0, none⟩) xs.length xs.length) (w.alloc (.cells xs.toArray 22)) := ⟨_, rfl, Blk.new w _ _⟩
theorem Built.below {xs : List Value} {v : Value} {w w' : World} (h : Built xs v w) (hb : Below w.heap.size w w') : Built xs v w' := by
  obtain ⟨g, rfl, h⟩ := h
  exact ⟨g, rfl, h.below hb h.lt⟩
theorem seal_b {w : World} {vk v : Value} {kb : List UInt8} {xs : List Value} {ls : List (List UInt8)} (hk : PtV w w.heap.size vk kb) (hb : Built xs v w) (hp : PtL w w.heap.size xs ls) (hs : kb.length ≤ 800000 ∧ xs.length ≤ 80 ∧ ls.flatten.length ≤ 800000) (hK : Laid w) :
    Calls Tryd.prog 14 #[vk, v] w fun e w' => e = .returned (.agg (V (seal_ kb ls.flatten))) ∧ Below w.heap.size w w' := by
  obtain ⟨g, rfl, hb⟩ := hb
  exact seal_v hk hb hp rfl hs hK
theorem hash_b {w : World} {v : Value} {xs : List Value} {ls : List (List UInt8)} (hb : Built xs v w) (hp : PtL w w.heap.size xs ls) (hs : xs.length ≤ 80 ∧ ls.flatten.length ≤ 800000) (hK : Laid w) :
    Calls Tryd.prog 28 #[v] w fun e w' => e = .returned (.agg (V (hash ls.flatten))) ∧ Below w.heap.size w w' := by
  obtain ⟨g, rfl, hb⟩ := hb
  exact hash_v hb hp rfl hs hK
/-- Where the laws' copies end: bytes that a call put together on its own. -/
theorem added {W : World} {n1 n2 : Nat} {v : Value} {w1 : World} {l1 l2 : List UInt8} {B : Nat} (h : w1.ownsRow B 5 1 v (n1 + n2) (u8s l1 ++ u8s l2)) (h1 : n1 = l1.length) (h2 : n2 = l2.length) : ∃ A c n, v = .slice A n c ∧ n = (l1 ++ l2).length ∧ PtV w1 w1.heap.size v (l1 ++ l2) := by
  obtain ⟨A, c, rfl, h3, h4⟩ := own_slice h
  rw [← u8s_append] at h
  have hn : n1 + n2 = (l1 ++ l2).length := by simp [h1, h2]
  exact ⟨A, c, _, rfl, hn, .mk hn h3 h4 (by have := Reads.of_own h; rw [hn] at this; exact this)⟩
theorem max3 {P : Program} (n0 n1 n2 q : Nat) (ts : Array TypeId) (t : TypeId) : ∃ M : Int, (∀ W : World, (Builtin.max_ ts t #[.int .i64 (n0 : Int), .int .i64 (n1 : Int), .int .i64 (n2 : Int)]).run P W = .ok (.int .i64 M) W) ∧ ((n0 ≤ q ∧ n1 ≤ q ∧ n2 ≤ q) → M ≤ (q : Int)) ∧ (¬ (n0 ≤ q ∧ n1 ≤ q ∧ n2 ≤ q) → (q : Int) < M) :=
  ⟨_, fun W => run_max_int3 W ts t .i64 .i64 .i64 _ _ _, fun h => by split <;> split <;> omega, fun h => by split <;> split <;> omega⟩
theorem max2 {P : Program} (n0 n1 q : Nat) (ts : Array TypeId) (t : TypeId) : ∃ M : Int, (∀ W : World, (Builtin.max_ ts t #[.int .i64 (n0 : Int), .int .i64 (n1 : Int)]).run P W = .ok (.int .i64 M) W) ∧ ((n0 ≤ q ∧ n1 ≤ q) → M ≤ (q : Int)) ∧ (¬ (n0 ≤ q ∧ n1 ≤ q) → (q : Int) < M) :=
  ⟨_, fun W => run_max_int2 W ts t .i64 .i64 _ _, fun h => by split <;> omega, fun h => by split <;> omega⟩
theorem below_app {W1 w1 : World} (hg : (W1.alloc (.cells #[] 5)).grownBy w1 (Value.slice (some ⟨W1.heap.size, 0, none⟩) 0 0).ownBlock) : Below W1.heap.size W1 w1 :=
  (below_new W1 _).grown hg (by simp) (fun b e => by
    have : some W1.heap.size = some b := e
    injection this with this
    omega)
theorem below_app2 {W1 w1 w2 : World} {v : Value} {n : Nat} {xs : List Value} (h : Below W1.heap.size W1 w1) (ho : w1.ownsRow W1.heap.size 5 1 v n xs) (hg : w1.grownBy w2 v.ownBlock) : Below W1.heap.size W1 w2 :=
  h.grown hg h.size (fun b e => own_ge ho b e)
theorem ptv_of_own {w : World} {B n : Nat} {v : Value} {l : List UInt8} (h : w.ownsRow B 5 1 v n (u8s l)) (hn : n = l.length) : PtV w w.heap.size v l := by
  obtain ⟨A, c, rfl, h3, h4⟩ := own_slice h
  exact .mk hn h3 h4 (by have := Reads.of_own h; rw [hn] at this; exact this)
end Go.Proofs.YtmbgjijajakgeaaDoor.Sha
