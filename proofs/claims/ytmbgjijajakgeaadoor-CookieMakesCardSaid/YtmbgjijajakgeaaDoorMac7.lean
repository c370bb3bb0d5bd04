/-
  Contracts of package mac: blocks, the iterator.
-/
import Derived.Test.YtmbgjijajakgeaaDoorMac6
import Derived.Deep.DeepCutAuto
set_option linter.unusedVariables false
set_option linter.unusedSimpArgs false
namespace Go.Proofs.YtmbgjijajakgeaaDoor.Sha
open Go.ChangeShapes Go.WideShapes Go.ChangeAt Go.RowKit Go.Proofs.YtmbgjijajakgeaaDoor.Words

/-- The blocks of bytes. -/
def blk (L : List UInt8) (q : Nat) : List UInt8 := (L.drop (64 * q)).take 64
theorem blk_length {L : List UInt8} {q : Nat} (h : 64 * (q + 1) ≤ L.length) : (blk L q).length = 64 := by simp [blk]; omega
theorem take_lay {cur L r tail : List UInt8} {f m q : Nat} (h : cur.take f = (L.drop (64 * q)).take f) (hL : L.drop (64 * q + f) = r ++ tail) (hm : m ≤ r.length) :
    (L.drop (64 * q)).take (f + m) = cur.take f ++ r.take m := by
  rw [h, List.take_add, List.drop_drop, hL, List.take_append_of_le_length hm]
/-- Slices of bytes by their cells. -/
def SlB (st : Nat) (w : World) (B : Nat) (xs : List Value) (ls : List (List UInt8)) : Prop :=
  xs.length = ls.length ∧ ∀ (j : Nat) (l : List UInt8), ls[j]? = some l → ∃ a c, xs[j]? = some (Value.slice a l.length c) ∧ l.length ≤ c ∧ c ≤ 9223372036854775807 ∧ Byt w B a l ∧ (0 < l.length → ∀ x, a = some x → x.block ≠ st)
/-- A slice of slices of bytes that is read; block st is none of theirs. -/
structure Prt (st : Nat) (w : World) (B : Nat) (A : Option Addr) (n : Nat) (xs : List Value) (ls : List (List UInt8)) : Prop where
  row : Reads w B 1 A n xs
  ne : 0 < n → ∀ x, A = some x → x.block ≠ st
  sl : SlB st w B xs ls
theorem reads_fr {S : Nat → Prop} {w w' : World} {B size n : Nat} {A : Option Addr} {xs : List Value} (h : Fr S w w') (k : Reads w B size A n xs) (hB : B ≤ w.heap.size) (hA : 0 < n → ∀ x, A = some x → x.block < B → ¬ S x.block) : Reads w' B size A n xs :=
  ⟨k.1, fun hn => by
    obtain ⟨ad, e, hb, hc⟩ := k.2 hn
    exact ⟨ad, e, hb, fun j u hu => (World.cell?_of_block (h.block _ (by rw [block_of_add]; omega) (by rw [block_of_add]; exact hA hn ad e hb))).trans (hc j u hu)⟩⟩
theorem SlB.fr {st B : Nat} {S : Nat → Prop} {w w' : World} {xs : List Value} {ls : List (List UInt8)} (h : SlB st w B xs ls) (hf : Fr S w w') (hB : B ≤ w.heap.size) (hS : ∀ k, k < B → k ≠ st → ¬ S k) : SlB st w' B xs ls :=
  ⟨h.1, fun j l hl => by
    obtain ⟨a, c, h1, h2, h3, h4, h5⟩ := h.2 j l hl
    exact ⟨a, c, h1, h2, h3, reads_fr hf h4 hB (fun hn x hx hb => hS _ hb (h5 (by simpa using hn) x hx)), h5⟩⟩
theorem Prt.fr {st B n : Nat} {S : Nat → Prop} {w w' : World} {A : Option Addr} {xs : List Value} {ls : List (List UInt8)} (h : Prt st w B A n xs ls) (hf : Fr S w w') (hB : B ≤ w.heap.size) (hS : ∀ k, k < B → k ≠ st → ¬ S k) : Prt st w' B A n xs ls :=
  ⟨reads_fr hf h.row hB (fun hn x hx hb => hS _ hb (h.ne hn x hx)), h.ne, h.sl.fr hf hB hS⟩
theorem Prt.len {st B n : Nat} {w : World} {A : Option Addr} {xs : List Value} {ls : List (List UInt8)} (h : Prt st w B A n xs ls) : ls.length = n := by have := h.row.1; have := h.sl.1; omega
/-- Element j. -/
theorem Prt.at_ {st B n : Nat} {w : World} {A : Option Addr} {xs : List Value} {ls : List (List UInt8)} (h : Prt st w B A n xs ls) {j : Nat} (hj : j < n) :
    ∃ ad a c, A = some ad ∧ w.cell? (ad.add j) = some (.slice a (ls.getD j []).length c) ∧ (ls.getD j []).length ≤ c ∧ c ≤ 9223372036854775807 ∧ Byt w B a (ls.getD j []) ∧ (0 < (ls.getD j []).length → ∀ x, a = some x → x.block ≠ st) ∧ ls[j]? = some (ls.getD j []) := by
  have hl : j < ls.length := by rw [h.len]; exact hj
  have e : ls[j]? = some (ls.getD j []) := by rw [List.getD_eq_getElem?_getD, List.getElem?_eq_getElem hl]; rfl
  obtain ⟨a, c, h1, h2, h3, h4, h5⟩ := h.sl.2 j _ e
  obtain ⟨ad, e1, _, hc⟩ := h.row.2 (by omega)
  exact ⟨ad, a, c, e1, hc j _ h1, h2, h3, h4, h5, e⟩
/-- Where the iterator is: p bytes have gone by. -/
structure ISt (J : Nat → World → Prop) (L : List UInt8) (st l : Nat) (W wr : World) (p : Nat) : Prop where
  own : ∃ cur : List UInt8, cur.length = 64 ∧ cur.take (p % 64) = (L.drop (64 * (p / 64))).take (p % 64) ∧ Blk wr W.heap.size 67 (V cur)
  j : J (p / 64) wr
  fr : Fr (fun k => k = st ∨ k = l ∨ W.heap.size ≤ k) W wr

/-- Within a part: r of it are left. -/
structure IHd (J : Nat → World → Prop) (L : List UInt8) (e st l : Nat) (W wr : World) (p : Nat) (r : List UInt8) (a : Option Addr) (B : Nat) : Prop where
  s : ISt J L st l W wr p
  rest : ∃ tail, L.drop p = r ++ tail
  sum : p + r.length = e
  byt : Byt wr B a r
  ne : 0 < r.length → ∀ x, a = some x → x.block ≠ st
theorem drop_part {ls : List (List UInt8)} {k : Nat} {r : List UInt8} (h : ls[k]? = some r) : ∃ tail, ls.flatten.drop (ls.take k).flatten.length = r ++ tail := by
  obtain ⟨hk, rfl⟩ := List.getElem?_eq_some_iff.1 h
  refine ⟨(ls.drop (k + 1)).flatten, ?_⟩
  have e : ls.flatten = (ls.take k).flatten ++ (ls[k] ++ (ls.drop (k + 1)).flatten) := by
    conv => lhs; rw [← List.take_append_drop k ls, List.flatten_append, List.drop_eq_getElem_cons hk, List.flatten_cons]
  rw [e, List.drop_left]
theorem len_part {ls : List (List UInt8)} {k : Nat} {r : List UInt8} (h : ls[k]? = some r) : (ls.take k).flatten.length + r.length = (ls.take (k + 1)).flatten.length := by
  obtain ⟨hk, rfl⟩ := List.getElem?_eq_some_iff.1 h
  rw [List.take_succ_eq_append_getElem hk, List.flatten_append, List.length_append, List.flatten_cons, List.flatten_nil, List.append_nil]

theorem slice_b64 (g f : Nat) (hf : f < 64) (w : World) : (Instr.sliceAt 67 (.pointer (some ⟨g, 0, none⟩)) (some (.int .i64 (f : Int))) none none).run Tryd.prog w = .ok (.slice (some ⟨g, f, none⟩) (64 - f) (64 - f)) w := by
  have hal : Tryd.prog.arrayLen 67 = 64 := by kernel_rfl
  have hel : Tryd.prog.elem 67 = 5 := by kernel_rfl
  have h := run_sliceAt_array_l (P := Tryd.prog) w 67 ⟨g, 0, none⟩ (by rw [hal, hel]; exact Tryd.underlying67) .i64 (f : Int) (by omega) (by rw [hal]; omega)
  obtain ⟨i, hi, hz, hs, hb⟩ := info_parts3 u8_info
  rw [h, hal, hel]
  have hne : ¬ (64 = f) := by omega
  simp [sizeOf, typeInfo, hi, hs, slicedAt, hne, Addr.add]
  exact fun h => h.symm
/-- Bytes that are read, put over a row from place f on. -/
theorem copy_b64 {w : World} {g : Nat} {cur r : List UInt8} {a : Option Addr} {B f m c : Nat} (hb : Blk w g 67 (V cur)) (hc : cur.length = 64) (hf : f < 64) (hm : m = r.length) (h0 : 0 < m) (hr : Byt w B a r) (ty : TypeId) :
    (Builtin.copy_ #[22, 22] ty #[.slice (some ⟨g, f, none⟩) (64 - f) (64 - f), .slice a m c]).run Tryd.prog w =
      .ok (goInt ((min m (64 - f) : Nat) : Int)) (w.setRow g (V (cur.take f ++ r.take (min m (64 - f)) ++ cur.drop (f + min m (64 - f))))) := by
  obtain ⟨ad, rfl, hlt, hcell⟩ := hr.2 (by omega)
  have hl : (u8s (r.take (min m (64 - f)))).length = min m (64 - f) := by rw [u8s_length, List.length_take]; omega
  have h := run_copy_row (P := Tryd.prog) w 22 22 ty 5 g f (64 - f) (64 - f) ad m c (V cur) 67 (u8s (r.take (min m (64 - f)))) Tryd.underlying22 (by kernel_rfl) hb (by rw [hl])
    (fun j v hv => hcell j v (by
      rw [u8s_take, List.getElem?_take] at hv
      split at hv
      · exact hv
      · cases hv)) (by rw [hl, V_size, hc]; omega) (u8s_one _)
  rw [h, hl]
  congr 3
  simp [V, u8s, List.map_take, List.map_drop]

theorem load_b64 {w : World} {g : Nat} {l : List UInt8} (h : Blk w g 67 (V l)) (hl : l.length = 64) : (Instr.loadAt 67 (.pointer (some ⟨g, 0, none⟩))).run Tryd.prog w = .ok (.agg (V l)) w := by
  have := run_loadVar_row (P := Tryd.prog) w g 67 67 (V l) (0, 0) _ h Tryd.underlying67 rfl (by rw [V_size, hl]; exact size_b64)
  simp [Instr.loadAt, Instr.sureAddr, this]
theorem wpIn_load_run {F : Fence} {n : Nat} {P : Program} {o : Oper} {a : Act} {w : World} {K : Act → World → Prop} {Q : Exit → Act → World → Prop} (ty : TypeId) (x : Operand) (ho : o.op = .load ty x) {vx v : Value} (hx : a.eval x = vx)
    (hr : (Instr.loadAt ty vx).run P w = .ok v w) (hro : F.round = none) (h : K (a.put o.dst v) w) : o.wpIn F n P a w K Q := by
  unfold Oper.wpIn
  refine ⟨fun f hf => by simp [Oper.about, ho] at hf, ?_⟩
  rw [hro, Oper.semAt_none]
  unfold execOp
  simp only [ho, hx, Sem.run_bind, Sem.run_pure, Result.andThen_ok, hr]
  exact h
section
variable {J : Nat → World → Prop} {L : List UInt8} {e st l : Nat} {W wr : World} {p : Nat} {r : List UInt8} {a : Option Addr} {B : Nat} {cur : List UInt8}
theorem fr_setRow {S : Nat → Prop} {w w' : World} (h : Fr S w w') {g : Nat} (hg : S g) (cs : Array Value) : Fr S w (w'.setRow g cs) :=
  ⟨h.os, h.tape, h.output, by simpa [World.setRow] using h.size, fun k hk hn => (setRow_other w' g k cs (fun e => hn (by rw [e]; exact hg))).trans (h.block k hk hn)⟩
/-- A part that ends within the block. -/
theorem IHd.lay_a (h : IHd J L e st l W wr p r a B) (hJ : ∀ q A A', J q A → Below W.heap.size A A' → J q A') (hm : r.length < 64 - p % 64)
    (hcl : cur.length = 64) (hct : cur.take (p % 64) = (L.drop (64 * (p / 64))).take (p % 64)) (hcb : Blk wr W.heap.size 67 (V cur)) (a' : Option Addr) :
    IHd J L e st l W (wr.setRow W.heap.size (V (cur.take (p % 64) ++ r.take r.length ++ cur.drop (p % 64 + r.length)))) (p + r.length) [] a' B := by
  obtain ⟨tail, ht⟩ := h.rest
  have hq : (p + r.length) / 64 = p / 64 := by omega
  have hf : (p + r.length) % 64 = p % 64 + r.length := by omega
  refine ⟨⟨⟨_, ?_, ?_, setRow_heap wr _ _ _ _ _ hcb⟩, ?_, fr_setRow h.s.fr (.inr (.inr (Nat.le_refl _))) _⟩, ⟨tail, ?_⟩, by rw [h.sum]; rfl, by unfold Byt; exact ⟨rfl, fun hn => absurd hn (by simp)⟩, fun hn => absurd hn (by simp)⟩
  · simp only [List.length_append, List.length_take, List.length_drop, hcl]; omega
  · rw [hq, hf, take_lay hct (by rw [← ht]; congr 1; omega) (Nat.le_refl _), List.take_append_of_le_length (by simp [hcl]; omega), List.take_of_length_le (by simp [hcl]; omega)]
  · rw [hq]
    exact hJ _ _ _ h.s.j (below_setRow (Below.refl _ _) (Nat.le_refl _) _)
  · rw [← List.drop_drop, ht, List.drop_left]; rfl
/-- A part that fills the block: what the block holds then, and that it is one of the whole's. -/
theorem IHd.full (h : IHd J L e st l W wr p r a B) (hJ : ∀ q A A', J q A → Below W.heap.size A A' → J q A') (hm : 64 - p % 64 ≤ r.length)
    (hcl : cur.length = 64) (hct : cur.take (p % 64) = (L.drop (64 * (p / 64))).take (p % 64)) (hcb : Blk wr W.heap.size 67 (V cur)) :
    cur.take (p % 64) ++ r.take (64 - p % 64) ++ cur.drop (p % 64 + (64 - p % 64)) = blk L (p / 64) ∧ p / 64 < L.length / 64 ∧ J (p / 64) (wr.setRow W.heap.size (V (blk L (p / 64)))) := by
  obtain ⟨tail, ht⟩ := h.rest
  have hlt : p % 64 < 64 := Nat.mod_lt _ (by decide)
  refine ⟨?_, ?_, hJ _ _ _ h.s.j (below_setRow (Below.refl _ _) (Nat.le_refl _) _)⟩
  · rw [← take_lay hct (by rw [← ht]; congr 1; omega) hm, show cur.drop (p % 64 + (64 - p % 64)) = [] from List.drop_of_length_le (by omega), List.append_nil, show p % 64 + (64 - p % 64) = 64 by omega]
    rfl
  · have hl := congrArg List.length ht
    simp only [List.length_drop, List.length_append] at hl
    omega
theorem IHd.lay_b (h : IHd J L e st l W wr p r a B) (hm : 64 - p % 64 ≤ r.length) (hBl : B ≤ l) (hB : B ≤ W.heap.size) (hl : l < W.heap.size) (hst : st < B) (hcb : Blk wr W.heap.size 67 (V cur)) {W3 : World}
    (hf : Fr (fun k => k = st ∨ k = l) (wr.setRow W.heap.size (V (blk L (p / 64)))) W3) (hj : J (p / 64 + 1) W3) (hb : (blk L (p / 64)).length = 64) (a' : Option Addr) (hne : 0 < (r.drop (64 - p % 64)).length → ∀ x, a' = some x → x.block ≠ st)
    (hby : Byt wr B a r → Byt W3 B a r → Byt W3 B a' (r.drop (64 - p % 64))) : IHd J L e st l W W3 (p + (64 - p % 64)) (r.drop (64 - p % 64)) a' B := by
  obtain ⟨tail, ht⟩ := h.rest
  have hlt : p % 64 < 64 := Nat.mod_lt _ (by decide)
  have hq : (p + (64 - p % 64)) / 64 = p / 64 + 1 := by omega
  have hm0 : (p + (64 - p % 64)) % 64 = 0 := by omega
  have hs := h.s.fr.size
  have hfr : Fr (fun k => k = st ∨ k = l ∨ W.heap.size ≤ k) wr W3 := by
    have h1 : Fr (fun k => k = st ∨ k = l ∨ W.heap.size ≤ k) wr (wr.setRow W.heap.size (V (blk L (p / 64)))) := fr_setRow (Fr.refl _ _) (.inr (.inr (Nat.le_refl _))) _
    exact h1.trans hf (fun x _ hx => by rcases hx with hx | hx <;> simp [hx])
  have hby3 : Byt W3 B a r := reads_fr hfr h.byt (by omega) (fun hn x hx hb => by have := h.ne hn x hx; omega)
  refine ⟨⟨⟨blk L (p / 64), hb, by rw [hm0]; rfl, hf.blk (setRow_heap wr _ _ _ _ _ hcb) (by omega)⟩, by rw [hq]; exact hj, h.s.fr.same hfr⟩, ⟨tail, ?_⟩, ?_, hby h.byt hby3, hne⟩
  · rw [← List.drop_drop, ht, List.drop_append_of_le_length hm]
  · have := h.sum
    rw [List.length_drop]
    omega
end

theorem ne_cut {a : Option Addr} {st m ca : Nat} (h : ∀ x, a = some x → x.block ≠ st) : ∀ x, (if ca = m then a else a.map fun x => x.add m) = some x → x.block ≠ st := by
  intro x hx
  split at hx
  · exact h x hx
  · cases a with
    | none => cases hx
    | some y =>
      simp only [Option.map_some, Option.some.injEq] at hx
      subst hx
      rw [block_of_add]
      exact h y rfl
set_option maxRecDepth 20000 in
set_option maxHeartbeats 2000000 in
theorem blocks_hands {st Bx n c : Nat} {A : Option Addr} {xs : List Value} {ls : List (List UInt8)} {w : World} (hst : st < w.heap.size) (hbx : w.cell? ⟨Bx, 0, none⟩ = some (.slice A n c)) (hx1 : Bx < w.heap.size) (hx2 : Bx ≠ st)
    (hP : Prt st w w.heap.size A n xs ls) (hn : n ≤ 1000) (hL : ls.flatten.length ≤ 1000000) :
    Hands Tryd.prog 48 #[.pointer (some ⟨Bx, 0, none⟩)] (fun q => .agg (V (blk ls.flatten q))) (ls.flatten.length / 64) st w := by
  intro l J W hl1 hl2 hbW hJ hY h0
  refine callsIn_wide.2 ?_
  show Calls Tryd.prog 48 #[.func (.yield l) #[] #[], .pointer (some ⟨Bx, 0, none⟩)] W _
  have hbx1 : W.cell? ⟨Bx, 0, none⟩ = some (.slice A n c) := (hbW.cell (p := ⟨Bx, 0, none⟩) hx1).trans hbx
  have hsz := hbW.size
  have HP : Hid (Prt st W w.heap.size A n xs ls) := hP.fr (Fr.of_below hbW) (Nat.le_refl _) (fun k hk _ => by omega)
  have HLN : Hid (ls.length = n) := hP.len
  have HY := Lib.hid hY
  have HJ := Lib.hid hJ
  obtain ⟨B, hB⟩ : ∃ B, B = w.heap.size := ⟨_, rfl⟩
  rw [← hB] at HP hl1 hst hsz hx1
  clear hP hY hJ hbx hbW hB
  obtain ⟨G, hG⟩ : ∃ G, G = W.heap.size := ⟨_, rfl⟩
  obtain ⟨W1, hW1⟩ : ∃ Wn, Wn = W.alloc (.cells (V (Zb 64)) 67) := ⟨_, rfl⟩
  have hal := alloc_b64 W
  rw [← hW1, ← hG] at hal
  have hb1 : Below W.heap.size W W1 := by rw [hW1]; exact (Below.refl _ _).alloc (Nat.le_refl _) _
  have HI0 : Hid (ISt J ls.flatten st l W W1 0) := by
    refine ⟨⟨Zb 64, by simp [Zb], by simp, by rw [hW1]; exact Blk.new W _ _⟩, HJ.out _ _ _ h0 hb1, ?_⟩
    exact (Fr.of_below hb1).mono (fun x _ hx => .inr (.inr hx))
  have hbx2 : W1.cell? ⟨Bx, 0, none⟩ = some (.slice A n c) := (hb1.cell (p := ⟨Bx, 0, none⟩) (show Bx < W.heap.size by omega)).trans hbx1
  have HG := Lib.hid hG
  have HAL := Lib.hid hal
  have hlG : l < G := by omega
  have hBG : B ≤ G := by omega
  clear hW1 hb1 h0 hbx1 hal hsz hl2 hx1
  clear hG
  go_enter Tryd.func48, Tryd.ntmps48
  go_wp2_with (with_reducible refine wpList_alloc_run _ rfl 67 rfl HAL.out ?_)
  clear hbx2
  go_loopw [4, 10] (fun f i wr => ∃ k p : Nat, k ≤ n ∧ i = .int .i64 (k : Int) ∧ f = .int .i64 ((p % 64 : Nat) : Int) ∧ Hid (p = (ls.take k).flatten.length) ∧ Hid (ISt J ls.flatten st l W wr p)) (fun _ i _ => n - (intOf i).toNat)
  case atStart => exact ⟨0, 0, Nat.zero_le _, rfl, rfl, rfl, HI0⟩
  case round =>
    obtain ⟨k, p, hk, rfl, rfl, hp, hs⟩ := hrel
    by_cases hlt : k < n
    · obtain ⟨ad, a, ca, rfl, hc, hle, hca, hby, hne, hke⟩ := (HP.out.fr hs.out.fr (by have := HG.out; omega) (fun x hx hn => by have := HG.out; omega)).at_ hlt
      obtain ⟨r, hr⟩ : ∃ r, r = ls.getD k [] := ⟨_, rfl⟩
      rw [← hr] at hc hle hby hke hne
      have hH : Hid (IHd J ls.flatten (ls.take (k + 1)).flatten.length st l W wr p r a B) := by
        refine ⟨hs.out, ?_, ?_, hby, hne⟩
        · rw [hp.out]; exact drop_part hke
        · rw [hp.out]; exact len_part hke
      obtain ⟨m, hm⟩ : ∃ m, m = r.length := ⟨_, rfl⟩
      rw [← hm] at hc hle
      have HM := Lib.hid hm
      clear hr hby hne hke hm hp hs
      obtain ⟨e, he⟩ : ∃ e, e = (ls.take (k + 1)).flatten.length := ⟨_, rfl⟩
      rw [← he] at hH
      have HE := Lib.hid he
      clear he
      go_wp2
      go_loopw [4, 6] (fun f s wr => ∃ (p m ca : Nat) (a : Option Addr) (r : List UInt8), f = .int .i64 ((p % 64 : Nat) : Int) ∧ s = .slice a m ca ∧ m ≤ ca ∧ ca ≤ 9223372036854775807 ∧ Hid (m = r.length) ∧ Hid (IHd J ls.flatten e st l W wr p r a B)) (fun _ s _ => match s with | .slice _ n _ => n | _ => 0)
      case atStart => exact ⟨p, m, ca, a, r, rfl, rfl, hle, hca, HM, hH⟩
      case round =>
        clear hle hca HM hH hc
        obtain ⟨p, m, ca, a, r, rfl, rfl, hle, hca, HM, hH⟩ := hrel
        by_cases h0 : 0 < m
        · obtain ⟨f, hf⟩ : ∃ f, f = p % 64 := ⟨_, rfl⟩
          have hf64 : f < 64 := by rw [hf]; exact Nat.mod_lt _ (by decide)
          have HF := Lib.hid hf
          rw [← hf]
          clear hf
          obtain ⟨cur, hcl, hct, hcb⟩ := hH.out.s.own
          have hsl := slice_b64 G f hf64
          have hcp := copy_b64 (f := f) (c := ca) (by rw [← HG.out] at hcb; exact hcb) hcl hf64 HM.out h0 hH.out.byt
          have HCB := Lib.hid hcb
          have HCT := Lib.hid hct
          have HCL := Lib.hid hcl
          clear hcl hct hcb
          by_cases hm : m < 64 - f
          · rw [show min m (64 - f) = m by omega] at hcp
            have HA := fun a' => Lib.hid (hH.out.lay_a HJ.out (by rw [← HM.out, ← HF.out]; exact hm) HCL.out HCT.out HCB.out a')
            rw [← HF.out, ← HM.out, ← HG.out] at HA
            obtain ⟨W2, hW2⟩ : ∃ Wn, Wn = wr.setRow G (V (cur.take f ++ r.take m ++ cur.drop (f + m))) := ⟨_, rfl⟩
            have hcp2 : ∀ ty, (Builtin.copy_ #[22, 22] ty #[.slice (some ⟨G, f, none⟩) (64 - f) (64 - f), .slice a m ca]).run Tryd.prog wr = .ok (goInt (m : Int)) W2 := fun ty => by rw [hW2]; exact hcp ty
            simp only [← hW2] at HA
            clear hW2 hcp
            go_wp2
            go_roundw
            case rel => exact ⟨p + m, 0, ca - m, _, [], congrArg (Value.int .i64) (by have := HF.out; omega), rfl, Nat.zero_le _, by omega, rfl, HA _⟩
            case measure => exact h0
          · obtain ⟨d, hd⟩ : ∃ d, d = 64 - f := ⟨_, rfl⟩
            obtain ⟨hfu, hqN, hJ2⟩ := hH.out.full HJ.out (by rw [← HM.out, ← HF.out]; omega) HCL.out HCT.out HCB.out
            rw [show min m (64 - f) = 64 - f by omega, HF.out, hfu] at hcp
            rw [← HG.out] at hJ2
            obtain ⟨q, hq⟩ : ∃ q, q = p / 64 := ⟨_, rfl⟩
            rw [← hq] at hcp hJ2 hqN
            obtain ⟨W2, hW2⟩ : ∃ Wn, Wn = wr.setRow G (V (blk ls.flatten q)) := ⟨_, rfl⟩
            have hbl : (blk ls.flatten q).length = 64 := blk_length (by omega)
            have HB2 : Hid (Blk W2 G 67 (V (blk ls.flatten q))) := by
              show Blk _ _ _ _
              rw [hW2, HG.out]; exact setRow_heap wr _ _ _ _ _ HCB.out
            rw [← hW2] at hJ2
            rw [← HF.out, ← hd] at hcp
            rw [← hd] at hsl
            have hcp2 : ∀ ty, (Builtin.copy_ #[22, 22] ty #[.slice (some ⟨G, f, none⟩) d d, .slice a m ca]).run Tryd.prog wr = .ok (goInt (d : Int)) W2 := fun ty => by rw [hW2]; exact hcp ty
            have HJ2 := Lib.hid hJ2
            have HQN := Lib.hid hqN
            have HBL := Lib.hid hbl
            have HW2 := Lib.hid hW2
            have HD := Lib.hid hd
            have HQ := Lib.hid hq
            have h1 : d ≤ m := by omega
            have h2 : 0 < d := by omega
            have h3 : d ≤ 64 := by omega
            have h4 : ((f : Int) + (d : Int)) % 64 = 0 := by omega
            clear hcp hd hW2 hJ2 hqN hbl hq hfu
            go_upto_region 9 with (fail)
            rw [h4]
            clear h4
            obtain ⟨a', ha'⟩ : ∃ a', a' = (if ca = d then a else a.map fun x => x.add d) := ⟨_, rfl⟩
            rw [← ha']
            have HA' := Lib.hid ha'
            clear ha'
            obtain ⟨fn, tm, asg, bdy, hy, hR⟩ := HY.out q W2 HJ2.out HQN.out
            have hld := load_b64 HB2.out HBL.out
            refine (wpIn_wide (n := 3)).1 ?_
            have H1 := Lib.hid h1
            have H3 := Lib.hid h3
            have HMM := Lib.hid hm
            have H0 := Lib.hid h0
            have H2 := Lib.hid h2
            have HLE := Lib.hid hle
            clear hcp2 hsl h1 h2 h3 hm h0 hf64 hle hlt hk hx2 hn hL
            obtain ⟨F, hF⟩ : ∃ F, F = Fence.wide := ⟨_, rfl⟩
            have hro : F.round = none := by rw [hF]; rfl
            have hfn : ∀ f, F.fn f := fun f => by rw [hF]; trivial
            rw [← hF] at hR ⊢
            clear hF HY
            have h13 : 1 ≤ 3 := by omega
            gi_wp2_with (refine wpIn_load_run 67 _ rfl rfl hld hro ?_)
            refine hR.mono ?_
            rintro ee W3 ⟨rfl, hj3, hf3⟩
            have HN : Hid (IHd J ls.flatten e st l W W3 (p + d) (r.drop d) a' B) := by
              show IHd _ _ _ _ _ _ _ _ _ _ _
              have h := hH.out.lay_b (W3 := W3) (by rw [← HM.out, ← HF.out, ← HD.out]; exact H1.out) hl1 (by rw [← HG.out]; exact hBG) (by rw [← HG.out]; exact hlG) hst HCB.out (by rw [← HQ.out, ← HG.out, ← HW2.out]; exact hf3) (by rw [← HQ.out]; exact hj3) (by rw [← HQ.out]; exact HBL.out) a'
                (fun hn => by rw [HA'.out]; exact ne_cut (hH.out.ne (by rw [List.length_drop] at hn; omega))) (fun _ h3 => by rw [← HF.out, ← HD.out, HA'.out]; exact h3.cut_ (by rw [← HM.out]; exact H1.out) (by rw [← HM.out]; exact HLE.out))
              rw [← HF.out, ← HD.out] at h
              exact h
            have HM2 : Hid (m - d = (r.drop d).length) := by
              show m - d = (r.drop d).length
              rw [List.length_drop, ← HM.out]
            clear hR hy hld hj3 hf3
            gi_wp2
            go_wp2
            go_roundw
            case rel => exact ⟨p + d, m - d, ca - d, a', r.drop d, congrArg (Value.int .i64) (by have := HF.out; have := HD.out; have := H3.out; omega), rfl, by have := HLE.out; omega, by omega, HM2, HN⟩
            case measure => exact Nat.sub_lt H0.out H2.out
        · have hpe : Hid (p = e) := by
            have h1 := hH.out.sum
            have h2 := HM.out
            show p = e
            omega
          have HS := Lib.hid hH.out.s
          go_wp2
          go_roundw
          case rel => exact ⟨k + 1, p, by omega, by go_num, rfl, hpe.out.trans HE.out, HS.out⟩
          case measure => simp [intOf]; omega
    · obtain rfl : k = n := by omega
      have hfin : Hid (J (ls.flatten.length / 64) wr) := by
        have h1 := hs.out.j
        rw [hp.out, ← HLN.out, List.take_length] at h1
        exact h1
      go_wp2
      go_end0
      exact ⟨⟨_, rfl⟩, hfin.out⟩
end Go.Proofs.YtmbgjijajakgeaaDoor.Sha
