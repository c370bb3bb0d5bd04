/-
  Contracts of package chunk's reader: acknowledgements, what is skipped.
-/
import Derived.Test.YtabkjgklmibagaaChR
set_option linter.unusedVariables false
set_option linter.unusedSimpArgs false
namespace Go.Proofs.Ytabkjgklmibagaa.Chk
open Go.ChangeShapes Go.WideShapes Go.ChangeAt Go.RowKit Go.Deep Go.Proofs.Ytabkjgklmibagaa.Words Go.Proofs.Ytabkjgklmibagaa.Oct Go.Proofs.Ytabkjgklmibagaa.Par

theorem gap_info : (Try.prog.info? 56).map (fun i => (i.zero, i.size, i.bytes)) = some (some (.agg #[.int .u16 0, .int .u16 0]), 2, 4) := by kernel_rfl
theorem skip_info : (Try.prog.info? 58).map (fun i => (i.zero, i.size, i.bytes)) = some (some (.agg #[.int .u16 0, .bool false, .int .u32 0]), 3, 8) := by kernel_rfl
theorem u32_info : (Try.prog.info? 23).map (fun i => (i.zero, i.size, i.bytes)) = some (some (.int .u32 0), 1, 4) := by kernel_rfl

/-- 'append(s, x...)' in a region of stages. -/
theorem leaves_append {P : Program} {w : World} {o : Oper} {ev : Operand → Value} {Φ : Value → World → Prop} (s x : Operand) (t : TypeId) (ho : o.op = .call { callee := .builtin .append, args := #[s, x], argTypes := #[t, t] })
    (base : Nat) (e : TypeId) (i : TypeInfo) (z : Value) (size bytes : Nat) (ht : P.underlying t = some (.slice e)) (hi : P.info? e = some i) (hz : i.zero = some z)
    (hsize : i.size = size) (hby : i.bytes = bytes) (hzs : z.cells.size = size) (hsz : 0 < size)
    (v : Value) (n : Nat) (xs : List Value) (hs : ev s = v) (hown : w.ownsRow base e size v n xs)
    (B : Nat) (A : Option Addr) (m c : Nat) (news : List Value) (hx : ev x = .slice A m c) (hr : Reads w B size A m news) (h1 : ∀ u ∈ news, u.oneCell' = true)
    (h63 : n + m ≤ maxLen) (hbytes : (n + m) * bytes ≤ 140737488355328) (hbase : base ≤ w.heap.size)
    (h : ∀ v' w', w'.ownsRow base e size v' (n + m) (xs ++ news) → w.grownBy w' v.ownBlock → (v'.ownBlock = v.ownBlock ∨ v'.ownBlock = some w.heap.size) → Φ v' w') : Words.Leaves P Φ ((execOp ev o).run P w) := by
  obtain ⟨v', w', hrun, h2, h3, h4⟩ := run_append_any (P := P) w base t o.type e i z size bytes ht hi hz hsize hby hzs hsz v n xs hown B A m c news hr h1 h63 hbytes hbase
  unfold execOp
  simp only [ho, resolve, invoke, builtin, Sem.run_bind, Sem.run_pure, Result.andThen_ok, List.map_toArray, List.map_cons, List.map_nil, hs, hx, hrun]
  exact h v' w' h2 h3 h4

/-- What a step of such a region may turn: at the append (stage a) the row's block, else the reader's. -/
def stRel (a p : Nat) (v : Value) (m : Nat) : World → World → Prop := Fr (fun i => (m = a ∧ some i = v.ownBlock) ∨ (m ≠ a ∧ i = p))
/-- A row just laid, beside another and the reader. -/
def Laid (t : TypeId) (cs : Array Value) (p : Nat) (v : Value) (u : Value) (V : World) : Prop := ∃ b, u = .slice (some ⟨b, 0, none⟩) 1 1 ∧ Blk V b t cs ∧ v.ownBlock ≠ some b ∧ b ≠ p
theorem Laid.lasts {a p : Nat} {t : TypeId} {cs : Array Value} {v u : Value} {m : Nat} {V V' : World} (h : Laid t cs p v u V) (k : stRel a p v m V V') : Laid t cs p v u V' := by
  obtain ⟨b, rfl, h1, h2, h3⟩ := h
  refine ⟨b, rfl, Fr.blk k h1 ?_, h2, h3⟩
  rintro (⟨_, e⟩ | ⟨_, e⟩)
  · exact h2 e.symm
  · exact h3 e
/-- A row that was appended to. -/
def Grew (B : Nat) (t : TypeId) (size p n : Nat) (xs : List Value) (u : Value) (V : World) : Prop := V.ownsRow B t size u n xs ∧ u.ownBlock ≠ some p
theorem Grew.lasts {a p B size n : Nat} {t : TypeId} {xs : List Value} {v u : Value} {m : Nat} {V V' : World} (hm : m ≠ a) (h : Grew B t size p n xs u V) (k : stRel a p v m V V') : Grew B t size p n xs u V' := by
  refine ⟨Fr.own k h.1 (fun g hg => ?_), h.2⟩
  rintro (⟨e, _⟩ | ⟨_, e⟩)
  · exact hm e
  · exact h.2 (by rw [hg, e])
section
variable {w V V' : World} {p G r g a m B size n : Nat} {l l' : List UInt8} {bad bad' wr : Bool} {cs : Array Value} {t : TypeId} {v : Value} {xs : List Value}
theorem RSr.rel (hm : m ≠ a) (f : Fr (At p) V V') : stRel a p v m V V' := f.mono fun x _ hx => .inr ⟨hm, hx⟩
end
theorem gapC_snoc (l : List Gp) (g : Gp) : gapC (l ++ [g]) = gapC l ++ [.int .u16 (g.1 : Int), .int .u16 (g.2 : Int)] := by simp [gapC]
theorem dupC_snoc (l : List Nat) (d : Nat) : dupC (l ++ [d]) = dupC l ++ [.int .u32 (d : Int)] := by simp [dupC]
theorem skC_snoc (l : List Skp) (s : Skp) : skC (l ++ [s]) = skC l ++ [.int .u16 (s.1 : Int), .bool s.2.1, .int .u32 (s.2.2 : Int)] := by simp [skC]
theorem gapsN_snoc : ∀ (k : Nat) (l : List UInt8), gapsN (k + 1) l = gapsN k l ++ [(num ((l.drop (4 * k)).take 2), num (((l.drop (4 * k)).drop 2).take 2))]
  | 0, l => by simp [gapsN]
  | k + 1, l => by
    have e : gapsN (k + 1 + 1) l = (num (l.take 2), num ((l.drop 2).take 2)) :: gapsN (k + 1) (l.drop 4) := rfl
    rw [e, gapsN_snoc k (l.drop 4), List.drop_drop, show 4 + 4 * k = 4 * (k + 1) by omega]
    rfl
theorem dupsN_snoc : ∀ (k : Nat) (l : List UInt8), dupsN (k + 1) l = dupsN k l ++ [num ((l.drop (4 * k)).take 4)]
  | 0, l => by simp [dupsN]
  | k + 1, l => by
    have e : dupsN (k + 1 + 1) l = num (l.take 4) :: dupsN (k + 1) (l.drop 4) := rfl
    rw [e, dupsN_snoc k (l.drop 4), List.drop_drop, show 4 + 4 * k = 4 * (k + 1) by omega]
    rfl

theorem nil_own {w : World} {B size : Nat} {t : TypeId} : w.ownsRow B t size (.slice none 0 0) 0 [] := World.ownsRow_nil _ _ _ _
theorem blk_reads {w : World} {b n size : Nat} {t : TypeId} {cs : Array Value} (h : Blk w b t cs) (hn : cs.toList.length = n * size) : Reads w (b + 1) size (some ⟨b, 0, none⟩) n cs.toList :=
  ⟨hn, fun _ => ⟨_, rfl, by simp, fun j u hu => by rw [h.cellAdd, ← hu]; simp⟩⟩
theorem own_at {V V' : World} {B size n p : Nat} {t : TypeId} {v : Value} {xs : List Value} (h : V.ownsRow B t size v n xs) (hp : p < B) (f : Fr (At p) V V') : V'.ownsRow B t size v n xs :=
  f.own h (fun b hb e => by have := (h.lt b hb).1; have e' : b = p := e; omega)
theorem own_up {V V' : World} {B size n : Nat} {t : TypeId} {v : Value} {xs : List Value} (h : V.ownsRow B t size v n xs) (k : Below V.heap.size V V') : V'.ownsRow B t size v n xs :=
  (Fr.of_below k).own h (fun b hb hi => by have := (h.lt b hb).2; omega)
theorem own_beside {V V' : World} {B B' size size' n n' : Nat} {t t' : TypeId} {v v' : Value} {xs xs' : List Value} (h : V.ownsRow B t size v n xs) (h' : V.ownsRow B' t' size' v' n' xs') (hne : t ≠ t') (k : V.grownBy V' v'.ownBlock) : V'.ownsRow B t size v n xs :=
  (Fr.of_grown k).own h (fun b hb e => own_ne h h' hne b hb e.symm)
end Go.Proofs.Ytabkjgklmibagaa.Chk
