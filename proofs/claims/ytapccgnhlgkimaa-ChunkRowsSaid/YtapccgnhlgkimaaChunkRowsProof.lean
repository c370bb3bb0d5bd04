/-
  PROVED: ChunkRows of flumelaw06 answers true for every input, and its arguments read afterwards as before. CONDITIONS: none beside the form's own.
-/
import Derived.Test.YtapccgnhlgkimaaRows
import Derived.Test.YtapccgnhlgkimaaChOpen
import Derived.Test.YtapccgnhlgkimaaChSz
import Derived.Test.YtapccgnhlgkimaaChBk
import Derived.Test.YtapccgnhlgkimaaCks
import Derived.Test.YtapccgnhlgkimaaSees
import Derived.WalkKit
import Derived.ProofKit
import Derived.OpenShut
import Derived.ShutString
import Derived.ChangeOld
import Derived.Below
namespace Go.Proofs.Ytapccgnhlgkimaa.chunkRows
open Go.ChangeShapes Go.WideShapes Go.ChangeAt Go.RowKit
open Go.ChangeMaps (open_string shut_string)
set_option linter.unusedVariables false
set_option linter.unusedSimpArgs false

theorem own : ownKnob Try.prog.godebug = none := by kernel_rfl
theorem laidOut : laidOutB Try.prog = true := by kernel_rfl

/-- What the walk is told of a slice of integers that came in. -/
def IsRow (k : IntKind) (w : World) (a : Option Addr) (len cap : Nat) (zs : List Int) : Prop :=
  (a = none ∧ len = 0 ∧ cap = 0 ∧ zs = []) ∨
  ∃ x, a = some x ∧ len ≤ cap ∧ cap ≤ maxLen ∧ zs.length = cap ∧ (∀ i, i < zs.length → w.cell? (x.add i) = some (.int k (zs.getD i 0))) ∧ ∀ n ∈ zs, (Lit.int k n).wf = true

/-! ### The walk -/
open Words Oct Par Chk
theorem kd_info : (Try.prog.info? 22).map (fun i => (i.zero, i.size, i.bytes)) = some (some (.int .u8 0), 1, 1) := by kernel_rfl
def flatB (xs : List Ck) : List UInt8 := (xs.map bytesC).flatten
theorem flatB_snoc (xs : List Ck) (c : Ck) : flatB (xs ++ [c]) = flatB xs ++ bytesC c := by simp [flatB]
theorem flatB_cons (xs : List Ck) (c : Ck) : flatB (c :: xs) = bytesC c ++ flatB xs := by simp [flatB]
def kdV (xs : List Ck) : List Value := xs.map fun c => .int .u8 (c.kind : Int)
/-- Where the law stands while it puts: the bytes, the kinds. -/
structure RowsSt (w V : World) (v1 v2 : Value) (nb q : Nat) (xs ys : List Ck) : Prop where
  own : V.ownsRow w.heap.size 5 1 v1 nb (u8s (flatB xs))
  kds : V.ownsRow w.heap.size 22 1 v2 q (kdV ys)
  len : nb = (flatB xs).length
  qlen : q = ys.length
  puts : ∀ c ∈ xs, c.ok ∧ Puts c
  below : Below w.heap.size w V
section
variable {w V V' : World} {v1 v2 v' : Value} {nb q n' : Nat} {xs ys : List Ck}
theorem RowsSt.grows (h : RowsSt w V v1 v2 nb q xs ys) (k : Below V.heap.size V V') : RowsSt w V' v1 v2 nb q xs ys :=
  ⟨(Fr.of_below k).own h.own (fun g hg hi => by have := (h.own.lt g hg).2; omega), (Fr.of_below k).own h.kds (fun g hg hi => by have := (h.kds.lt g hg).2; omega), h.len, h.qlen, h.puts, h.below.trans (k.mono h.below.size)⟩
theorem RowsSt.put {c : Ck} (h : RowsSt w V v1 v2 nb q xs ys) (ho : V'.ownsRow w.heap.size 5 1 v' n' (u8s (flatB xs) ++ u8s (bytesC c))) (hn : n' = nb + (bytesC c).length) (hg : V.grownBy V' v1.ownBlock) (ok : c.ok) (hp : Puts c) : RowsSt w V' v' v2 n' q (xs ++ [c]) ys := by
  refine ⟨by rw [flatB_snoc, u8s_append]; exact ho, (Fr.of_grown hg).own h.kds (fun g hg' hi => own_ne h.own h.kds (by decide) g hi.symm hg'), by rw [flatB_snoc, List.length_append, ← h.len]; exact hn, h.qlen, fun x hx => ?_, h.below.grown hg h.below.size (fun g hg => (h.own.lt g hg).1)⟩
  rcases List.mem_append.1 hx with hx | hx
  · exact h.puts x hx
  · simp only [List.mem_singleton] at hx
    subst hx
    exact ⟨ok, hp⟩
theorem RowsSt.kind {c : Ck} (h : RowsSt w V v1 v2 nb q xs ys) (ho : V'.ownsRow w.heap.size 22 1 v' n' (kdV ys ++ [.int .u8 (c.kind : Int)])) (hn : n' = q + 1) (hg : V.grownBy V' v2.ownBlock) : RowsSt w V' v1 v' nb n' xs (ys ++ [c]) :=
  ⟨(Fr.of_grown hg).own h.own (fun g hg' hi => own_ne h.kds h.own (by decide) g hi.symm hg'), by show V'.ownsRow _ _ _ _ _ (List.map _ _); rw [List.map_append]; exact ho, h.len, by rw [List.length_append, ← h.qlen]; exact hn, h.puts, h.below.grown hg h.below.size (fun g hg => (h.kds.lt g hg).1)⟩
end
theorem one_kind (w : World) (k : Nat) : Reads (w.alloc (.cells #[.int .u8 (k : Int)] 22)) (w.heap.size + 1) 1 (some ⟨w.heap.size, 0, none⟩) 1 [.int .u8 (k : Int)] := by
  have hb := Blk.new w 22 #[.int .u8 (k : Int)]
  refine ⟨rfl, fun _ => ⟨_, rfl, by simp, fun j u hu => ?_⟩⟩
  rw [hb.cellAdd, ← hu]
  match j with
  | 0 => rfl
  | j + 1 => rfl
theorem wpList_load_row_want {P : Program} {ops : Array Oper} {rest : List Oper} {o : Oper} {a : Act} {w : World} {Q : Exit → Act → World → Prop} (hgd : Region.wanted o (yielded ops a.tmps) = true) (ty : TypeId) (x : Operand) (ho : o.op = .load ty x)
    (g : Nat) (hx : a.eval x = .pointer (some ⟨g, 0, none⟩)) (t : TypeId) (cs : Array Value) (fr : Nat × Nat) (d : TypeDesc) (hg : w.heap[g]? = some (.cells cs t fr))
    (hu : P.underlying ty = some d) (hd : (match d with | .struct _ | .array _ _ => true | _ => false) = true) (hi : (P.info? ty).map (·.size) = some cs.size)
    (h : wpList P ops Q rest (a.put o.dst (.agg cs)) w) : wpList P ops Q (o :: rest) a w :=
  BigFrame.wpList_want hgd fun _ hK => wp_load_row ty x ho g hx t cs fr d hg hu hd hi (hK _ _ h)
set_option maxHeartbeats 4000000 in
set_option maxRecDepth 100000 in
theorem walk {H : Type} {enc : TypeId × Value → H} {base : Nat} (v0 : Value) (d0 : DataW H) (p0 : List MemPlace) (w : World) (o0 : Value.okWide Try.prog w .any base 49 v0) (k0 : DataW.Trod enc Try.prog w 0 (fun _ => true) true 49 v0 d0 p0) :
    Calls Try.prog 5 #[v0] w fun e w' => e = .returned (.bool true) ∧ Below w.heap.size w w' := by
  obtain ⟨A0, n0, c0, rfl⟩ := okWide_slice Try.underlying49 o0
  have hsee : Sees w (.slice CkSh) [.slice A0 n0 c0] := sees_of (sh := .slice CkSh) rfl cksSh_fits k0
  obtain ⟨A0', c0', ls, he, hc, hm, hps⟩ := cks_of hsee
  injection he with e1 e2 e3
  subst e1 e3
  obtain ⟨n, hn⟩ : ∃ n, n = n0 := ⟨_, rfl⟩
  have HN : Hid (n = ls.length) := by rw [hn]; exact e2
  rw [← e2, ← hn] at hc
  rw [← hn]
  have HP := Lib.hid hps
  obtain ⟨i0, hi0, hz0, hz1, hz2⟩ := info_parts3 u8_info
  obtain ⟨j0, hj0, hjz0, hjz1, hjz2⟩ := info_parts3 kd_info
  clear e2 hn o0 k0 hsee hps
  go_enter Try.func5, Try.ntmps5
  go_wp2_with fail
  refine (first_any w).mono ?_
  rintro e W1 ⟨rfl, hb1⟩
  have HB1 := Lib.hid hb1
  clear hb1
  go_upto_block 0 with (fail)
  go_cut [3, 4] (fun s3 s4 wx => ∃ (nb q : Nat) (A1 A2 : Option Addr) (c1 c2 : Nat) (xs : List Ck), s3 = .slice A1 nb c1 ∧ s4 = .slice A2 q c2 ∧ nb ≤ c1 ∧ c1 ≤ 9223372036854775807 ∧ q ≤ c2 ∧ c2 ≤ 9223372036854775807 ∧ q ≤ 10 ∧ nb ≤ 70000 * q ∧ Hid (RowsSt w wx (.slice A1 nb c1) (.slice A2 q c2) nb q xs xs))
  case first =>
    go_wp2_with fail
    go_loopw [3, 4, 5, 6, 7, 8, 18] (fun s3 s4 _ _ _ _ i wr => ∃ (k nb q : Nat) (A1 A2 : Option Addr) (c1 c2 : Nat) (xs : List Ck), k ≤ n ∧ i = .int .i64 k ∧ s3 = .slice A1 nb c1 ∧ s4 = .slice A2 q c2 ∧ nb ≤ c1 ∧ c1 ≤ 9223372036854775807 ∧ q ≤ c2 ∧ c2 ≤ 9223372036854775807 ∧ q ≤ 10 ∧ q ≤ k ∧ nb ≤ 70000 * q ∧ Hid (RowsSt w wr (.slice A1 nb c1) (.slice A2 q c2) nb q xs xs)) (fun _ _ _ _ _ _ i _ => n - (intOf i).toNat)
    case atStart => exact ⟨0, 0, 0, none, none, 0, 0, [], by omega, rfl, rfl, rfl, by omega, by omega, by omega, by omega, by omega, by omega, by omega, World.ownsRow_nil _ _ _ _, World.ownsRow_nil _ _ _ _, rfl, rfl, fun x hx => by simp at hx, HB1.out⟩
    case round =>
      obtain ⟨k, nb, q, A1, A2, c1, c2, xs, hk, rfl, rfl, rfl, hnc, hcx, hqc, hqx, hq, hqk, hnb, HS⟩ := hrel
      by_cases hlt : k < n
      · have hk2 : k < ls.length := by rw [← HN.out]; exact hlt
        obtain ⟨ad, cs, rfl, hblk, hsz, hat, hcell⟩ := (HP.out.below HS.out.below).nth hk2
        obtain ⟨c, hcq⟩ : ∃ c, c = ls[k] := ⟨_, rfl⟩
        rw [← hcq] at hat
        have HSZ := Lib.hid hsz
        have HAT := Lib.hid hat
        have HCELL := Lib.hid hcell
        have hk0 := hat.ok.kind
        obtain ⟨_, _, _, _, _, hcells, _⟩ := hat.parts
        have e0 := hcells.c0
        clear hsz hat hcell hcq hblk hcells
        go_upto_region 8 with (first
          | (refine wpList_load_any rfl 31 _ rfl (ad.add (k * 19)) rfl cs _ HCELL.out Try.underlying31 rfl (by rw [HSZ.out]; exact chunk_info) ?_)
          | (refine wpList_store_row rfl 31 _ _ rfl wr.heap.size cs rfl rfl 31 _ (Blk.new wr 31 _) (by rw [HSZ.out]; exact chunk_info) (by rw [HSZ.out]; rfl) HAT.out.one ?_))
        obtain ⟨HC2, HB2⟩ := kept_ck wr zeroA cs
        obtain ⟨W2, hW2⟩ : ∃ W2, W2 = (wr.alloc (.cells zeroA 31)).setRow wr.heap.size cs := ⟨_, rfl⟩
        rw [← hW2] at HC2 HB2
        obtain ⟨g0, hg0⟩ : ∃ g0, g0 = wr.heap.size := ⟨_, rfl⟩
        rw [← hg0] at HC2
        have hW2' : W2 = (wr.alloc (.cells #[.int .u8 0, .bool false, .bool false, .bool false, .bool false, .int .u32 0, .int .u16 0, .int .u32 0, .int .u32 0, .int .u32 0, .int .u32 0, .int .u32 0, .int .u16 0, .int .u16 0, .slice none 0 0, .slice none 0 0, .slice none 0 0, .slice none 0 0, .slice none 0 0] 31)).setRow wr.heap.size cs := hW2
        rw [← hW2', ← hg0]
        have HS2 := Lib.hid (HS.out.grows HB2)
        have HG2 : Hid (CkBlk W2 g0 cs) := HC2
        have HAT2 : Hid (CkAt W2 W2.heap.size cs c) := (HAT.out.keep (fun q hq => ((HB2.cell (Nat.lt_of_lt_of_le hq HS.out.below.size))))).more HS2.out.below.size
        clear hW2 hW2' hg0 HC2 HB2 HS HCELL HAT
        have FIN : Hid (∀ (V : World), Below W2.heap.size W2 V → RowsSt w V (.slice A1 nb c1) (.slice A2 q c2) nb q xs xs) := fun V hb => HS2.out.grows hb
        by_cases h10 : (10 : Int) ≤ (k : Int)
        · go_wp2_with fail
          go_meet
          exact ⟨nb, q, A1, A2, c1, c2, xs, rfl, rfl, hnc, hcx, hqc, hqx, hq, hnb, HS2⟩
        have d10 : decide ((10 : Int) ≤ (k : Int)) = false := by simpa using h10
        go_wp2_with (refine wpList_load_row_want (by kernel_rfl) 31 _ rfl g0 rfl 31 cs (0, 0) _ HG2.out Try.underlying31 rfl (by rw [HSZ.out]; exact chunk_info) ?_)
        refine (size_k (Nat.le_refl _) HAT2.out).mono ?_
        rintro e W3 ⟨⟨s, rfl, hs⟩, hb3⟩
        have HSC := Lib.hid hs
        have HS3 := Lib.hid (HS2.out.grows hb3)
        have HG3 : Hid (CkBlk W3 g0 cs) := HG2.out.below hb3 HG2.out.lt
        have HAT3 : Hid (CkAt W3 W3.heap.size cs c) := (HAT2.out.below hb3).more hb3.size
        clear hb3 hs HG2 HAT2 HS2 FIN
        by_cases hbig : (10000 : Int) < (s : Int)
        · go_wp2_with fail
          go_meet
          exact ⟨nb, q, A1, A2, c1, c2, xs, rfl, rfl, hnc, hcx, hqc, hqx, hq, hnb, HS3⟩
        have HSM : Hid (Small c) := by
          have h1 := HSC.out (by omega)
          unfold sizeC at h1
          exact ⟨by omega, by omega, by omega⟩
        go_wp2_with (refine wpList_load_row rfl 31 _ rfl g0 rfl 31 cs (0, 0) _ HG3.out Try.underlying31 rfl (by rw [HSZ.out]; exact chunk_info) ?_)
        refine (put_k HSM.out HAT3.out).mono ?_
        rintro e W4 ⟨hd, hb4⟩
        have HS4 := Lib.hid (HS3.out.grows hb4)
        have HG4 : Hid (CkBlk W4 g0 cs) := HG3.out.below hb4 HG3.out.lt
        have HOK := Lib.hid HAT3.out.ok
        clear hb4 HG3 HSC HSM
        rcases hd with ⟨v, hp, rfl, ho⟩ | ⟨kk, hk', rfl⟩
        · have hps := puts_short hp
          have hlen := bytes_len c
          have hpad3 : padC (cont c).length ≤ 3 := by unfold padC; omega
          obtain ⟨m3, hm3⟩ : ∃ m3, m3 = (bytesC c).length := ⟨_, rfl⟩
          have hm3b : m3 ≤ 70000 := by omega
          have HM3 := Lib.hid hm3
          have HPU := Lib.hid hp
          obtain ⟨A3, c3, rfl, h3a, h3b⟩ := own_slice ho
          have HB3 : Hid (Reads W4 W4.heap.size 1 A3 m3 (u8s (bytesC c))) := by have := Own.byt ho; unfold Byt at this; rw [← hm3] at this; exact this
          rw [← hm3] at h3a ⊢
          have hsz4 := HS4.out.below.size
          clear hps hlen hpad3 hm3 ho hp HAT3
          go_wp2_with (first
            | (at_builtin; refine wpList_append_any _ rfl (.tmp 37) (.tmp 38) _ rfl w.heap.size 5 i0 _ 1 1 Try.underlying29 hi0 hz0 hz1 hz2 rfl (by omega) (.slice A1 nb c1) nb (u8s (flatB xs)) rfl HS4.out.own W4.heap.size A3 m3 c3 (u8s (bytesC c)) rfl HB3.out (u8s_one _) (by simp only [maxLen]; omega) (by omega) hsz4 ?_; intro v5 w5 hown5 hg5 hat5; obtain ⟨A5, c5, rfl, h5a, h5b⟩ := own_slice hown5; have f05 : w5.cell? ⟨g0, 0, none⟩ = some (.int .u8 (c.kind : Int)) := CkBlk.at (Blk.grown HG4.out hg5 (own_blk_ne HS4.out.own HG4.out (by decide)).symm) e0; have HS5 := Lib.hid (HS4.out.put hown5 (by rw [HM3.out]) hg5 HOK.out HPU.out); have hsz5 := HS5.out.below.size; clear hown5 hg5 hat5)
            | (at_builtin; refine wpList_append_any _ rfl (.tmp 40) (.tmp 43) _ rfl w.heap.size 22 j0 _ 1 1 Try.underlying50 hj0 hjz0 hjz1 hjz2 rfl (by omega) (.slice A2 q c2) q (kdV xs) rfl (HS5.out.kds.alloc _) (w5.heap.size + 1) (some ⟨w5.heap.size, 0, none⟩) 1 1 [.int .u8 (c.kind : Int)] rfl (one_kind w5 c.kind) (fun u hu => by simp only [List.mem_singleton] at hu; subst hu; rfl) (by simp only [maxLen]; omega) (by omega) (Nat.le_trans hsz5 (by simp)) ?_; intro v6 w6 hown6 hg6 hat6; obtain ⟨A6, c6, rfl, h6a, h6b⟩ := own_slice hown6; have HS6 := Lib.hid ((HS5.out.grows ((Below.refl _ w5).alloc (Nat.le_refl _) _)).kind hown6 rfl hg6); clear hown6 hg6 hat6))
          go_roundw
          case rel => exact ⟨k + 1, nb + m3, q + 1, A5, A6, c5, c6, xs ++ [c], by omega, by go_num, rfl, rfl, h5a, h5b, h6a, h6b, by omega, by omega, by omega, HS6⟩
          case measure => simp [intOf]; omega
        · have hk0 : ((kk : Int) == 0) = false := by rcases hk' with ⟨rfl, _⟩ | ⟨rfl, _⟩ | ⟨rfl, _⟩ <;> rfl
          clear hk'
          go_wp2_with fail
          go_roundw
          case rel => exact ⟨k + 1, nb, q, A1, A2, c1, c2, xs, by omega, by go_num, rfl, rfl, hnc, hcx, hqc, hqx, hq, by omega, hnb, HS4⟩
          case measure => simp [intOf]; omega
      · obtain rfl : k = n := by omega
        go_wp2_with fail
        go_meet
        exact ⟨nb, q, A1, A2, c1, c2, xs, rfl, rfl, hnc, hcx, hqc, hqx, hq, hnb, HS⟩
  case rest =>
    obtain ⟨nb, q, A1, A2, c1, c2, xs, rfl, rfl, hnc, hcx, hqc, hqx, hq, hnb, HS⟩ := hcut
    go_wp2_with fail
    have HK : Hid (Reads wc wc.heap.size 1 A2 q (kdV xs)) := Reads.of_own HS.out.kds
    have HQL := Lib.hid HS.out.qlen
    have HBW := Lib.hid HS.out.below
    have HPUT := Lib.hid HS.out.puts
    have hy0 : Hid (Byt wc wc.heap.size A1 (flatB xs)) := by have := Reads.of_own HS.out.own; unfold Byt; rw [← HS.out.len]; exact this
    have hl0 := Lib.hid HS.out.len
    clear HS
    go_loopw [3, 10, 11, 12, 13, 48] (fun s3 _ _ _ _ i wr => ∃ (j m : Nat) (A : Option Addr) (cc : Nat), j ≤ q ∧ i = .int .i64 j ∧ s3 = .slice A m cc ∧ m ≤ cc ∧ cc ≤ 9223372036854775807 ∧ m ≤ 700000 ∧ Hid (m = (flatB (xs.drop j)).length) ∧ Hid (Byt wr wc.heap.size A (flatB (xs.drop j))) ∧ Hid (Below wc.heap.size wc wr)) (fun _ _ _ _ _ i _ => q - (intOf i).toNat)
    case atStart => exact ⟨0, nb, A1, c1, by omega, rfl, rfl, hnc, hcx, by omega, by rw [List.drop_zero]; exact hl0, by rw [List.drop_zero]; exact hy0, Below.refl _ _⟩
    case round =>
      obtain ⟨j, m, A, cc, hj, rfl, rfl, hmc, hcc, hm7, HM, HY, HB⟩ := hrel
      by_cases hlt : j < q
      · have hj2 : j < xs.length := by rw [← HQL.out]; exact hlt
        obtain ⟨c, hcq⟩ : ∃ c, c = xs[j] := ⟨_, rfl⟩
        have HD : Hid (xs.drop j = c :: xs.drop (j + 1)) := by rw [hcq]; exact List.drop_eq_getElem_cons hj2
        obtain ⟨hok, hp⟩ := HPUT.out c (by rw [hcq]; exact List.getElem_mem _)
        have hk0 := hok.kind
        obtain ⟨adk, u, rfl, _, hu, hcu⟩ := (HK.out.below HB.out).at_ hlt
        have hu2 : u = .int .u8 (c.kind : Int) := by
          have : (kdV xs)[j]? = some (.int .u8 (c.kind : Int)) := by unfold kdV; rw [List.getElem?_map, List.getElem?_eq_getElem hj2, hcq]; rfl
          rw [hu] at this
          injection this
        subst hu2
        have hlen := bytes_len c
        obtain ⟨n5, hn5⟩ : ∃ n5, n5 = (bytesC c).length := ⟨_, rfl⟩
        have h54 : 4 ≤ n5 := by omega
        have HML : Hid (flatB (xs.drop j) = bytesC c ++ flatB (xs.drop (j + 1))) := by rw [HD.out]; exact flatB_cons _ _
        have h5m : n5 ≤ m := by rw [HM.out, HML.out, List.length_append, ← hn5]; omega
        have HN5 := Lib.hid hn5
        have HOK := Lib.hid hok
        have HPU := Lib.hid hp
        clear hcq hu hlen hn5 hok hp
        go_wp2_with fail
        refine (get_k (b := flatB (xs.drop j)) (n := m) (cap := cc) HM.out hmc hcc (HY.out.more HB.out.size)).mono ?_
        rintro e W5 ⟨hb5, hd⟩
        have hgb : getC (flatB (xs.drop j)) = .ok (fillD (flagged c.kind (flagsN c)) c, n5) := by rw [HML.out, HN5.out]; exact getC_bytes HOK.out HPU.out
        rw [hgb] at hd
        rcases hd with ⟨x5, n5', cs5, he, rfl, hown, hok5⟩ | ⟨_, he, _⟩
        rotate_left
        · cases he
        injection he with he
        injection he with he1 he2
        subst he2
        have hkd : x5.kind = c.kind := by rw [← he1]; exact (lacks_fill (flagged_kind' _ _)).1
        have HKD := Lib.hid hkd
        have HAT5 := Lib.hid (hown.at_ hok5)
        have HSZ5 := Lib.hid (hown.at_ hok5).size
        have HB5 := Lib.hid (HB.out.trans (hb5.mono HB.out.size))
        have HY5 : Hid (Byt W5 wc.heap.size A (flatB (xs.drop j))) := HY.out.below (hb5.mono HB.out.size)
        clear hgb hb5 hown hok5 he1 hkd HY HB
        go_upto_region 18 with (refine wpList_store_row rfl 31 _ _ rfl W5.heap.size cs5 rfl rfl 31 _ (Blk.new W5 31 _) (by rw [HSZ5.out]; exact chunk_info) (by rw [HSZ5.out]; rfl) HAT5.out.one ?_)
        obtain ⟨HC6, HB6⟩ := kept_ck W5 zeroA cs5
        obtain ⟨W6, hW6⟩ : ∃ W6, W6 = (W5.alloc (.cells zeroA 31)).setRow W5.heap.size cs5 := ⟨_, rfl⟩
        rw [← hW6] at HC6 HB6
        obtain ⟨g6, hg6⟩ : ∃ g6, g6 = W5.heap.size := ⟨_, rfl⟩
        rw [← hg6] at HC6
        have hW6' : W6 = (W5.alloc (.cells #[.int .u8 0, .bool false, .bool false, .bool false, .bool false, .int .u32 0, .int .u16 0, .int .u32 0, .int .u32 0, .int .u32 0, .int .u32 0, .int .u32 0, .int .u16 0, .int .u16 0, .slice none 0 0, .slice none 0 0, .slice none 0 0, .slice none 0 0, .slice none 0 0] 31)).setRow W5.heap.size cs5 := hW6
        rw [← hW6', ← hg6]
        obtain ⟨_, _, _, _, _, hcells5, _⟩ := HAT5.out.parts
        have f06 : W6.cell? ⟨g6, 0, none⟩ = some (.int .u8 (c.kind : Int)) := by rw [← HKD.out]; exact CkBlk.at HC6 hcells5.c0
        have HBF := Lib.hid (HB5.out.trans (HB6.mono HB5.out.size))
        have HYF : Hid (Byt W6 wc.heap.size A (flatB (xs.drop j))) := HY5.out.below (HB6.mono HB5.out.size)
        clear hW6 hW6' hg6 HB6 HC6 hcells5 HB5 HY5
        have q1 : ¬ (n5 : Int) < 4 := by omega
        have q2 : ¬ (m : Int) < (n5 : Int) := by omega
        have q3 : (n5 : Int) ≤ (m : Int) := by omega
        have HML2 : Hid (m - n5 = (flatB (xs.drop (j + 1))).length) := by
          have := HM.out
          rw [HML.out, List.length_append, ← HN5.out] at this
          show _ = _
          omega
        have HDR : Hid ((flatB (xs.drop j)).drop n5 = flatB (xs.drop (j + 1))) := by rw [HML.out, HN5.out]; exact List.drop_left
        by_cases hck : cc = n5
        · go_wp2_with fail
          go_roundw
          case rel => exact ⟨j + 1, m - n5, A, 0, by omega, by go_num, rfl, by omega, by omega, by omega, HML2, by have := Reads.cut_end (A' := A) HYF.out (k := n5) (by rw [← HM.out]; omega); rw [HDR.out] at this; exact this, HBF⟩
          case measure => simp [intOf]; omega
        · go_wp2_with fail
          go_roundw
          case rel => exact ⟨j + 1, m - n5, _, cc - n5, by omega, by go_num, rfl, by omega, by omega, by omega, HML2, by have := HYF.out.cut_map (k := n5) (by rw [← HM.out]; exact h5m); rw [HDR.out] at this; exact this, HBF⟩
          case measure => simp [intOf]; omega
      · obtain rfl : j = q := by omega
        have hz : m = 0 := by
          have := HM.out
          rw [List.drop_of_length_le (by rw [HQL.out]; exact Nat.le_refl _)] at this
          exact this
        subst hz
        go_wp2_with fail
        go_ret
        exact ⟨ret_bool (by simp), HBW.out.trans (HB.out.mono HBW.out.size)⟩

/-! ### The row's step -/
set_option maxRecDepth 100000 in
theorem lifted (os : Os) (started : os.Started) (H : Type) (enc : TypeId × Value → H) :
    ReturnsInHanded {} Try.checked os 5 .any (Rows.chunkRowsSpec.pre6 enc Try.prog Try.f5 Rows.chunkRowsRow.domain false) (Rows.chunkRowsSpec.post enc Try.prog Try.f5 false true false false) := by
  refine returnsInHanded_of_change (C := Try.checked) own started (by kernel_rfl) Try.func5
    (ChangeSpec.witness6 (enc := enc) (C := Try.checked) false ⟨#[], #[.slice none 0 0], []⟩ 8 (by kernel_rfl) (by kernel_rfl) (by kernel_rfl) (by kernel_rfl)) ?_
  intro W base args ds gs before hval0 hW hcnd _
  have hval : ∀ (j : Nat) t v, Try.f5.params[j]? = some t → args[j]? = some v → Value.okWide Try.prog W .any base t v := hval0
  have hW' := hW
  obtain ⟨p, q, hA0, hV, rfl, hfz, hnd⟩ := hW
  have hA : DataW.TrodAll enc Try.prog W 0 (fun _ => true) true Try.f5.params.toList args.toList ds p := hA0
  rw [Try.params5] at hA hval
  obtain ⟨v0, vs0, d0, ds0, p0, q0, hargs, rfl, rfl, h0, r0⟩ := trodAll_cons hA
  obtain ⟨rfl, rfl, rfl⟩ := trodAll_nil r0
  obtain rfl : args = #[v0] := by cases args; simp_all
  obtain ⟨rfl, rfl⟩ := trodVars_none hV
  have lt0 : ∀ x ∈ p0, x.block < W.heap.size := by obtain ⟨m, hm⟩ := h0; exact DataW.trod_lt m _ _ _ hm
  clear hA0 hval0
  refine (walk v0 d0 p0 W (hval 0 49 v0 rfl rfl) h0).mono fun e W' ⟨he, bel⟩ => ?_
  subst he
  exact ⟨_, rfl, _, _, _, [], _, [], hW', trodAll_mk1 (shut_bool Try.underlying4 _), (trodAll_cons_mk (Below.trod laidOut (by kernel_rfl) (of_decide_eq_true (by kernel_rfl)) h0 bel lt0) trodAll_mk0), rfl, bel.frame _, fun h => by cases h⟩

theorem over : Rows.chunkRowsRow.holds Try.pinned (OpenSpec.ofChange Rows.chunkRowsSpec) :=
  OpenClaim.holds_of_wide 5 Try.f5 rfl rfl rfl rfl rfl rfl rfl ⟨rfl, rfl, rfl, rfl, rfl⟩ rfl rfl rfl rfl rfl (by kernel_rfl) Try.func5 (by kernel_rfl)
    (of_decide_eq_true (by kernel_rfl)) (by unfold Func.isWrapper; first | (rw [if_pos (by decide +kernel)]; kernel_rfl) | (rw [if_neg (by decide +kernel)]; exact ⟨rfl, rfl⟩))
    (fun os started H enc _ => lifted os started H enc)

theorem proved : Rows.ChunkRowsSaid := over
#print axioms proved
end Go.Proofs.Ytapccgnhlgkimaa.chunkRows
