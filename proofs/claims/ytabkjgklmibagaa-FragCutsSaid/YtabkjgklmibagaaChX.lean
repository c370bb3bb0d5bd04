/-
  Contracts of package chunk's writer: lists, and all of it.
-/
import Derived.Test.YtabkjgklmibagaaChW
import Derived.Test.YtabkjgklmibagaaParG
set_option linter.unusedVariables false
set_option linter.unusedSimpArgs false
namespace Go.Proofs.Ytabkjgklmibagaa.Chk
open Go.ChangeShapes Go.WideShapes Go.ChangeAt Go.RowKit Go.Deep Go.Proofs.Ytabkjgklmibagaa.Words Go.Proofs.Ytabkjgklmibagaa.Oct Go.Proofs.Ytabkjgklmibagaa.Par

/-- What the writer of parameters leaves. -/
def ParamsDone (w : World) (p B : Nat) (v : Value) (l : List UInt8) (lg : Bool) (ls : List Prm) (e : Ending) (w' : World) : Prop :=
  ∃ l' lg', WroteE w p B v l' lg' e w' ∧ l'.length ≤ 900000 ∧
    ((lg' = lg ∧ l' = l ++ encL ls ∧ ∀ p ∈ ls, p.2.length ≤ 65531) ∨ (lg' = true ∧ ((∃ p ∈ ls, 65531 < p.2.length) ∨ 65535 < (l ++ encL ls).length + 4)))
theorem WS.long {w V : World} {p B : Nat} {v0 v : Value} {l : List UInt8} {lg : Bool} (h : WS w V p B v0 v l lg) : WS w (V.setCell ⟨p, 1, none⟩ (.bool true)) p B v0 v l true := by
  have F : Fr (At p) V (V.setCell ⟨p, 1, none⟩ (.bool true)) := (Fr.refl (At p) V).setCell (p := ⟨p, 1, none⟩) (.inl rfl) _
  refine ⟨⟨?_, F.own h.wr.own (fun g hg e => h.wr.ne (by rw [hg]; have : g = p := e; rw [this]))⟩, h.fr.trans F (fun x _ hx => .inl hx), h.mv, h.low⟩
  have := h.wr.blk.set_ 1 (.bool true)
  simpa using this
theorem one_param {w : World} {B : Nat} {kd nv cv : Nat} {a : Option Addr} {p : Prm} (hk : p.1 < 65536) (hkd : kd = p.1) (hnv : nv = p.2.length) (hc : nv ≤ cv) (hm : cv ≤ 9223372036854775807) (hb : Byt w B a p.2) (hB : B ≤ w.heap.size) :
    Ps (w.alloc (.cells #[.int .u16 (kd : Int), .slice a nv cv] 74)) (w.heap.size + 1) (some ⟨w.heap.size, 0, none⟩) [p] := by
  subst hkd hnv
  have hbl := Blk.new w 74 #[.int .u16 (p.1 : Int), .slice a p.2.length cv]
  intro k q hq
  match k, hq with
  | 0, hq =>
    simp only [List.getElem?_cons_zero, Option.some.injEq] at hq
    subst hq
    exact ⟨⟨w.heap.size, 0, none⟩, a, cv, rfl, by simp, hk, hbl.cell 0, hbl.cell 1, hc, hm, (hb.alloc hB _).more (by omega)⟩
  | k + 1, hq => simp at hq
theorem encL_take_le (ls : List Prm) (k : Nat) : (encL (ls.take k)).length ≤ (encL ls).length := by
  have := offs_mono ls (i := min k ls.length) (j := ls.length) (by omega)
  unfold offs at this
  rw [List.take_length] at this
  rcases Nat.le_total k ls.length with h | h
  · rwa [Nat.min_eq_left h] at this
  · rw [List.take_of_length_le h]; exact Nat.le_refl _

set_option maxHeartbeats 4000000 in
set_option maxRecDepth 100000 in
theorem params_w {w : World} {p B C : Nat} {v : Value} {l : List UInt8} {lg : Bool} (A : Option Addr) (ls : List Prm) (n c : Nat) (h : WrE w p B v l lg) (hB : B ≤ w.heap.size) (hl : l.length ≤ 65531) (hps : Ps w C A ls) (hn : n = ls.length) (hnc : n ≤ c) (hcm : c ≤ 9223372036854775807) (hs : sizeL ls ≤ 450000) (hp : C ≤ p) (hC : C ≤ B) :
    Calls Try.prog 43 #[rptr p, .slice A n c] w (ParamsDone w p B v l lg ls) := by
  have H0 := Lib.hid h
  have HS0 := Lib.hid (WS.refl h hB)
  have HP := Lib.hid hps
  have HN := Lib.hid hn
  have hn2 : n ≤ 112500 := by have := len_le_size ls; omega
  have HS := Lib.hid hs
  have HL := Lib.hid hl
  clear h hn hs hps hl
  go_enter Try.func43, Try.ntmps43
  go_wp2_with fail
  go_loopw [5, 6, 7, 10] (fun _ _ _ i wr => ∃ (k : Nat) (vk : Value), k ≤ n ∧ i = .int .i64 k ∧ Hid (WS w wr p B v vk (l ++ encL (ls.take k)) lg) ∧ Hid ((l ++ encL (ls.take k)).length ≤ 65531) ∧ Hid (∀ p ∈ ls.take k, p.2.length ≤ 65531)) (fun _ _ _ i _ => n - (intOf i).toNat)
  case atStart => exact ⟨0, v, by omega, rfl, by rw [List.take_zero, encL_nil, List.append_nil]; exact HS0, by rw [List.take_zero, encL_nil, List.append_nil]; exact HL, fun p hp => by simp at hp⟩
  case round =>
    obtain ⟨k, vk, hk, rfl, HW, HLK, HSM⟩ := hrel
    by_cases hlt : k < n
    · have hk2 : k < ls.length := by rw [← HN.out]; exact hlt
      obtain ⟨ad, a, cv, rfl, hblk, hp16, hc0, hc1, hvc, hvm, hvb⟩ := (HW.out.pss H0.out HP.out hp hC) k _ (List.getElem?_eq_getElem hk2)
      obtain ⟨q, hq⟩ : ∃ q, q = ls[k] := ⟨_, rfl⟩
      rw [← hq] at hp16 hc0 hc1 hvc hvb
      have hqm : q ∈ ls := by rw [hq]; exact List.getElem_mem _
      have hql : 4 + q.2.length ≤ 450000 := by have := val_le_size ls q hqm; have := HS.out; omega
      have HT : Hid (ls.take (k + 1) = ls.take k ++ [q]) := by rw [List.take_succ_eq_append_getElem hk2, hq]; rfl
      have HQM := Lib.hid hqm
      have HVB := Lib.hid hvb
      obtain ⟨nv, hnv⟩ : ∃ nv, nv = q.2.length := ⟨_, rfl⟩
      rw [← hnv] at hc1 hvc hql
      have HNV := Lib.hid hnv
      obtain ⟨kd, hkd⟩ : ∃ kd, kd = q.1 := ⟨_, rfl⟩
      have HP16 := Lib.hid hp16
      rw [← hkd] at hp16 hc0
      have HKD := Lib.hid hkd
      obtain ⟨gv, hgv⟩ : ∃ gv, gv = wr.heap.size := ⟨_, rfl⟩
      have HBA : Hid (Below wr.heap.size wr (wr.alloc (.cells #[.int .u16 (kd : Int), .slice a nv cv] 74))) := (Below.refl wr.heap.size wr).alloc (Nat.le_refl _) _
      have HBK : Hid (Blk (wr.alloc (.cells #[.int .u16 (kd : Int), .slice a nv cv] 74)) gv 74 #[.int .u16 (kd : Int), .slice a nv cv]) := by rw [hgv]; exact Blk.new _ _ _
      have HCW : Hid (C ≤ wr.heap.size) := by have := HW.out.size; show _ ≤ _; omega
      clear hq hvb hnv hkd hqm
      go_upto_region 3 with (fail)
      obtain ⟨W1, hW1⟩ : ∃ W1, W1 = wr.alloc (.cells #[.int .u16 (kd : Int), .slice a nv cv] 74) := ⟨_, rfl⟩
      rw [← hW1] at HBA HBK ⊢
      rw [← hgv]
      have HW1 := Lib.hid (HW.out.grows HBA.out)
      have HVB1 : Hid (Byt W1 C a q.2) := HVB.out.below (HBA.out.mono HCW.out)
      have HCW1 : Hid (C ≤ W1.heap.size) := Nat.le_trans HCW.out HBA.out.size
      have c0 : W1.cell? ⟨gv, 0, none⟩ = some (.int .u16 (kd : Int)) := HBK.out.cell 0
      have c1 : W1.cell? ⟨gv, 1, none⟩ = some (.slice a nv cv) := HBK.out.cell 1
      clear hW1 hgv
      go_wp2_with fail
      have HPS : Hid (Ps (W1.alloc (.cells #[.int .u16 (kd : Int), .slice a nv cv] 74)) (W1.heap.size + 1) (some ⟨W1.heap.size, 0, none⟩) [q]) := one_param HP16.out HKD.out HNV.out hvc hvm HVB1.out HCW1.out
      have HBA2 : Hid (Below W1.heap.size W1 (W1.alloc (.cells #[.int .u16 (kd : Int), .slice a nv cv] 74))) := (Below.refl W1.heap.size W1).alloc (Nat.le_refl _) _
      obtain ⟨W2, hW2⟩ : ∃ W2, W2 = W1.alloc (.cells #[.int .u16 (kd : Int), .slice a nv cv] 74) := ⟨_, rfl⟩
      have hsz2 : W2.heap.size = W1.heap.size + 1 := by rw [hW2]; simp
      rw [← hW2] at HBA2 HPS ⊢
      rw [← hsz2] at HPS
      have HW2 := Lib.hid (HW1.out.grows HBA2.out)
      clear hW2 c0 c1 hsz2
      refine (put_c _ [q] 1 1 W2 rfl (by omega) (by omega) (by simp only [sizeL, List.map_cons, List.map_nil, List.sum_cons, List.sum_nil]; rw [← HNV.out]; omega) HPS.out).mono ?_
      rintro e W3 ⟨hd, hb3⟩
      have HW3 := Lib.hid (HW2.out.grows hb3)
      clear hb3
      have HENC : Hid (encL [q] = encP q) := by show _ = _; simp [encL]
      rcases hd with ⟨u, rfl, ho, hsm⟩ | ⟨A3, c3, rfl, q', hq', hql'⟩
      · have hq65 : q.2.length ≤ 65531 := hsm q (by simp)
        have hel : (encL [q]).length ≤ 65540 := by rw [HENC.out, encP_length]; omega
        obtain ⟨A3, c3, rfl, h3a, h3b⟩ := own_slice ho
        obtain ⟨n3, hn3⟩ : ∃ n3, n3 = (encL [q]).length := ⟨_, rfl⟩
        rw [← hn3] at hel h3a ⊢
        have HN3 := Lib.hid hn3
        have HY3 : Hid (Byt W3 W3.heap.size A3 (encL [q])) := Own.byt ho
        have HQ65 := Lib.hid hq65
        clear ho hsm hn3 hq65
        go_wp2_with fail
        refine (wre_put HW3.out.wr HW3.out.size (by have := HLK.out; omega) HN3.out (by omega) HY3.out).mono ?_
        intro e W4 hd
        obtain ⟨v4, rfl, HW4⟩ := HW3.out.step hd
        have HE : Hid (l ++ encL (ls.take k) ++ encL [q] = l ++ encL (ls.take (k + 1))) := by rw [HT.out, encL_append, List.append_assoc]; rfl
        rw [HE.out] at HW4
        have HLK4 : Hid ((l ++ encL (ls.take (k + 1))).length ≤ 300000) := by rw [← HE.out, List.length_append]; have := HLK.out; have := HN3.out; show _ ≤ _; omega
        obtain ⟨n4, hn4⟩ : ∃ n4, n4 = (l ++ encL (ls.take (k + 1))).length + 4 := ⟨_, rfl⟩
        have HN4 := Lib.hid hn4
        have HLEN := Lib.hid (length_w HW4.out.wr (by have := HLK4.out; omega))
        rw [← hn4] at HLEN
        have hn4b : n4 ≤ 300004 := by have := HLK4.out; omega
        clear hd hn4
        go_wp2_with fail
        refine HLEN.out.mono ?_
        rintro e W5 ⟨rfl, rfl⟩
        have c1 : W4.cell? ⟨p, 1, none⟩ = some (.bool lg) := HW4.out.wr.blk.cell 1
        have f1 := HW4.out.wr.blk.frozen 1
        by_cases hbig : (65535 : Int) < (n4 : Int)
        · go_wp2_with fail
          go_end0
          refine ⟨_, true, HW4.out.long.done, by have := HLK4.out; omega, .inr ⟨rfl, .inr ?_⟩⟩
          have h1 := encL_take_le ls (k + 1)
          have h2 := HN4.out
          rw [List.length_append] at h2 ⊢
          omega
        · go_wp2_with fail
          go_roundw
          case rel =>
            refine ⟨k + 1, v4, by omega, by go_num, HW4, by have := HN4.out; show _ ≤ _; omega, fun x hx => ?_⟩
            rw [HT.out] at hx
            rcases List.mem_append.1 hx with hx | hx
            · exact HSM.out x hx
            · simp only [List.mem_singleton] at hx
              subst hx
              exact HQ65.out
          case measure => simp [intOf]; omega
      · simp only [List.mem_singleton] at hq'
        subst hq'
        have HBIG := Lib.hid hql'
        clear hql'
        go_wp2_with fail
        refine (wre_put (news := []) (C := 0) (n2 := 0) HW3.out.wr HW3.out.size (by have := HLK.out; omega) rfl (by omega) ⟨by simp [u8s], fun hn => absurd hn (by simp)⟩).mono ?_
        intro e W4 hd
        obtain ⟨v4, rfl, HW4⟩ := HW3.out.step hd
        rw [List.append_nil] at HW4
        clear hd
        have c1 : W4.cell? ⟨p, 1, none⟩ = some (.bool lg) := HW4.out.wr.blk.cell 1
        have f1 := HW4.out.wr.blk.frozen 1
        go_wp2_with fail
        go_end0
        exact ⟨_, true, HW4.out.long.done, by have := HLK.out; omega, .inr ⟨rfl, .inl ⟨_, HQM.out, HBIG.out⟩⟩⟩
    · obtain rfl : k = n := by omega
      have HFull : Hid (ls.take k = ls) := List.take_of_length_le (by rw [HN.out]; exact Nat.le_refl _)
      rw [HFull.out] at HW HSM HLK
      go_wp2_with fail
      go_end0
      exact ⟨_, lg, HW.out.done, by have := HLK.out; omega, .inl ⟨rfl, rfl, HSM.out⟩⟩

theorem reads_step {xs : List Value} {w : World} {B size n k : Nat} {A : Option Addr} (h : Reads w B size A n xs) (hk : k < n) : ∃ ad, A = some ad ∧ ad.block < B ∧ ∀ j u, xs[k * size + j]? = some u → w.cell? ((ad.add (k * size)).add j) = some u := by
  obtain ⟨ad, e, hb, hc⟩ := h.2 (by omega)
  exact ⟨ad, e, hb, fun j u hu => by rw [add_of_add]; exact hc _ u hu⟩
theorem gapC_at (l : List Gp) : ∀ (k : Nat) (g : Gp), l[k]? = some g → (gapC l)[k * 2 + 0]? = some (.int .u16 (g.1 : Int)) ∧ (gapC l)[k * 2 + 1]? = some (.int .u16 (g.2 : Int)) := by
  induction l with
  | nil => intro k g h; simp at h
  | cons x l ih =>
    intro k g h
    match k, h with
    | 0, h => simp only [List.getElem?_cons_zero, Option.some.injEq] at h; subst h; exact ⟨rfl, rfl⟩
    | k + 1, h =>
      have := ih k g (by simpa using h)
      have e : gapC (x :: l) = [Value.int .u16 (x.1 : Int), .int .u16 (x.2 : Int)] ++ gapC l := rfl
      rw [e, List.getElem?_append_right (by simp; omega), List.getElem?_append_right (by simp; omega)]
      rw [show (k + 1) * 2 + 0 - ([Value.int .u16 (x.1 : Int), .int .u16 (x.2 : Int)]).length = k * 2 + 0 by simp; omega, show (k + 1) * 2 + 1 - ([Value.int .u16 (x.1 : Int), .int .u16 (x.2 : Int)]).length = k * 2 + 1 by simp; omega]
      exact this
theorem gap_cells {w : World} {B n k : Nat} {A : Option Addr} {l : List Gp} (h : Reads w B 2 A n (gapC l)) (hn : n = l.length) (hk : k < n) : ∃ (ad : Addr) (g : Gp), A = some ad ∧ ad.block < B ∧ l[k]? = some g ∧ w.cell? (ad.add (k * 2)) = some (.int .u16 (g.1 : Int)) ∧ w.cell? ⟨(ad.add (k * 2)).block, (ad.add (k * 2)).off + 1, none⟩ = some (.int .u16 (g.2 : Int)) := by
  obtain ⟨ad, e, hb, hc⟩ := reads_step h hk
  have hg : l[k]? = some (l[k]'(by omega)) := List.getElem?_eq_getElem (by omega)
  obtain ⟨h1, h2⟩ := gapC_at l k _ hg
  have e0 := hc 0 _ h1
  have e1 := hc 1 _ h2
  rw [add_lit _ (by omega)] at e1
  exact ⟨ad, _, e, hb, hg, e0, e1⟩
theorem skC_at (l : List Skp) : ∀ (k : Nat) (s : Skp), l[k]? = some s → (skC l)[k * 3 + 0]? = some (.int .u16 (s.1 : Int)) ∧ (skC l)[k * 3 + 1]? = some (.bool s.2.1) ∧ (skC l)[k * 3 + 2]? = some (.int .u32 (s.2.2 : Int)) := by
  induction l with
  | nil => intro k g h; simp at h
  | cons x l ih =>
    intro k g h
    match k, h with
    | 0, h => simp only [List.getElem?_cons_zero, Option.some.injEq] at h; subst h; exact ⟨rfl, rfl, rfl⟩
    | k + 1, h =>
      have := ih k g (by simpa using h)
      have e : skC (x :: l) = [Value.int .u16 (x.1 : Int), .bool x.2.1, .int .u32 (x.2.2 : Int)] ++ skC l := rfl
      rw [e, List.getElem?_append_right (by simp; omega), List.getElem?_append_right (by simp; omega), List.getElem?_append_right (by simp; omega)]
      rw [show (k + 1) * 3 + 0 - ([Value.int .u16 (x.1 : Int), .bool x.2.1, .int .u32 (x.2.2 : Int)]).length = k * 3 + 0 by simp; omega, show (k + 1) * 3 + 1 - ([Value.int .u16 (x.1 : Int), .bool x.2.1, .int .u32 (x.2.2 : Int)]).length = k * 3 + 1 by simp; omega, show (k + 1) * 3 + 2 - ([Value.int .u16 (x.1 : Int), .bool x.2.1, .int .u32 (x.2.2 : Int)]).length = k * 3 + 2 by simp; omega]
      exact this
theorem sk_cells {w : World} {B n k : Nat} {A : Option Addr} {l : List Skp} (h : Reads w B 3 A n (skC l)) (hn : n = l.length) (hk : k < n) : ∃ (ad : Addr) (s : Skp), A = some ad ∧ ad.block < B ∧ l[k]? = some s ∧ w.cell? (ad.add (k * 3)) = some (.int .u16 (s.1 : Int)) ∧ w.cell? ⟨(ad.add (k * 3)).block, (ad.add (k * 3)).off + 1, none⟩ = some (.bool s.2.1) ∧ w.cell? ⟨(ad.add (k * 3)).block, (ad.add (k * 3)).off + 2, none⟩ = some (.int .u32 (s.2.2 : Int)) := by
  obtain ⟨ad, e, hb, hc⟩ := reads_step h hk
  have hg : l[k]? = some (l[k]'(by omega)) := List.getElem?_eq_getElem (by omega)
  obtain ⟨h1, h2, h3⟩ := skC_at l k _ hg
  have e0 := hc 0 _ h1
  have e1 := hc 1 _ h2
  have e2 := hc 2 _ h3
  rw [add_lit _ (by omega)] at e1 e2
  exact ⟨ad, _, e, hb, hg, e0, e1, e2⟩
theorem dup_cells {w : World} {B n k : Nat} {A : Option Addr} {l : List Nat} (h : Reads w B 1 A n (dupC l)) (hn : n = l.length) (hk : k < n) : ∃ (ad : Addr) (d : Nat), A = some ad ∧ ad.block < B ∧ l[k]? = some d ∧ w.cell? (ad.add k) = some (.int .u32 (d : Int)) := by
  obtain ⟨ad, e, hb, hc⟩ := reads_step h hk
  have hg : l[k]? = some (l[k]'(by omega)) := List.getElem?_eq_getElem (by omega)
  have h1 : (dupC l)[k * 1 + 0]? = some (.int .u32 ((l[k]'(by omega) : Nat) : Int)) := by
    rw [dupC, List.getElem?_map, Nat.mul_one, Nat.add_zero, hg]; rfl
  have e0 := hc 0 _ h1
  rw [Nat.mul_one] at e0
  exact ⟨ad, _, e, hb, hg, e0⟩
/-- A writer beside the chunk's variable and a loop's. -/
theorem WC.grows {w V V' : World} {p B g : Nat} {v0 v : Value} {l : List UInt8} {lg : Bool} {cs : Array Value} (h : WC w V p B v0 v l lg g cs) (k : Below V.heap.size V V') : WC w V' p B v0 v l lg g cs := ⟨h.ws.grows k, h.blk.below k h.blk.lt⟩
theorem take_snoc {α : Type} {l : List α} {k : Nat} {x : α} (h : l[k]? = some x) : l.take (k + 1) = l.take k ++ [x] := by rw [List.take_add_one, h]; rfl
/-- A writer beside the chunk's variable and a loop's variable. -/
structure WL (w V : World) (p B : Nat) (v0 v : Value) (l : List UInt8) (lg : Bool) (g : Nat) (cs : Array Value) (gv : Nat) (t : TypeId) (xs : Array Value) : Prop where
  wc : WC w V p B v0 v l lg g cs
  var : Blk V gv t xs
  t1 : 5 ≠ t
  t2 : t ≠ 80
theorem WL.step {w V V' : World} {p B g gv : Nat} {v0 v : Value} {l l' : List UInt8} {lg lg' : Bool} {cs xs : Array Value} {t : TypeId} {e : Ending} (h : WL w V p B v0 v l lg g cs gv t xs) (k : WroteE V p B v l' lg' e V') : ∃ v', e = .returned (.tuple #[]) ∧ Hid (WL w V' p B v0 v' l' lg' g cs gv t xs) := by
  obtain ⟨v', he, hs⟩ := h.wc.step k
  exact ⟨v', he, hs.out, WroteE.keep h.wc.ws.wr k h.var h.t1 h.t2, h.t1, h.t2⟩
theorem WL.drew {w V : World} {p B g gv : Nat} {v0 v : Value} {l : List UInt8} {lg : Bool} {cs xs : Array Value} {t : TypeId} (h : WL w V p B v0 v l lg g cs gv t xs) : WL w V.drew p B v0 v l lg g cs gv t xs := ⟨h.wc.drew, h.var.drew, h.t1, h.t2⟩
theorem WL.init {w V : World} {p B g : Nat} {v0 v : Value} {l : List UInt8} {lg : Bool} {cs xs : Array Value} {t : TypeId} (h : WC w V p B v0 v l lg g cs) (t1 : 5 ≠ t) (t2 : t ≠ 80) : WL w (V.alloc (.cells xs t)) p B v0 v l lg g cs V.heap.size t xs :=
  ⟨h.grows ((Below.refl _ _).alloc (Nat.le_refl _) _), Blk.new V t xs, t1, t2⟩

end Go.Proofs.Ytabkjgklmibagaa.Chk
