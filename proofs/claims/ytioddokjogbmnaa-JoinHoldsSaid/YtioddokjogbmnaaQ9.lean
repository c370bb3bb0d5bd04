/-
  Of the texts Jp4, Libs, Jp5, Jp6, Jp7, Jp8: what the laws reach.
-/
import Derived.Test.YtioddokjogbmnaaQ8
import Derived.Shelf.SlGeneric
import Derived.Shelf.SlSortCmp.Whole1
import Derived.Shelf.Bytes.SlJoin
import Derived.Test.YtioddokjogbmnaaChecked

set_option linter.unusedVariables false
set_option linter.unusedSimpArgs false
set_option maxRecDepth 20000
namespace Go.Proofs.Ytioddokjogbmnaa.Chk
open Go.ChangeShapes Go.WideShapes Go.ChangeAt Go.RowKit Go.Deep Go.Maps Go.Proofs.Ytioddokjogbmnaa.Words Go.Proofs.Ytioddokjogbmnaa.Oct Go.Proofs.Ytioddokjogbmnaa.Par Go.Proofs.Ytioddokjogbmnaa.Mx
theorem dist_any (a b : Nat) (w : World) (ha : a < 4294967296) (hb : b < 4294967296) :
    Calls Try.prog 58 #[.int .u32 (a : Int), .int .u32 (b : Int)] w fun e w' => e = .returned (.int .u32 (((b + 4294967296 - a) % 4294967296 : Nat) : Int)) ∧ w = w' := by
  obtain ⟨d, hd⟩ : ∃ d : Nat, d = (b + 4294967296 - a) % 4294967296 := ⟨_, rfl⟩
  have h : ((b : Int) - (a : Int)) % 4294967296 = (d : Int) := by omega
  rw [← hd]
  clear hd
  go_enter Try.func58, Try.ntmps58
  go_wp2
  go_ret
  exact ⟨ret_int h, rfl⟩
/-- What bytes.Join answers of parts that are not empty. -/
def JoinC : Prop := ∀ (w : World) (g n c : Nat) (ls : List (List UInt8)), n = ls.length → 1 ≤ n → n ≤ c → (∀ i l, ls[i]? = some l → l ≠ [] ∧ ∃ Ab cb, w.cell? ⟨g, i, none⟩ = some (.slice Ab l.length cb) ∧ Byt w w.heap.size Ab l) → ls.flatten.length ≤ 2000000000 →
  Calls Try.prog 59 #[.slice (some ⟨g, 0, none⟩) n c, .slice none 0 0] w fun e w' => ∃ A n' c', e = .returned (.slice A n' c') ∧ Hid (n' = ls.flatten.length) ∧ n' ≤ c' ∧ c' ≤ 9223372036854775807 ∧ Hid (Byt w' w'.heap.size A ls.flatten) ∧ Hid (∀ ad, A = some ad → w.heap.size ≤ ad.block) ∧ Hid (Below w.heap.size w w')
def catF (xs : List Fg) : List UInt8 := (xs.map (·.m.body)).flatten
def valsF (xs : List Fg) : List Value := xs.map bodyV
def cutL (L : Nat → Option Fg) (f k i : Nat) : Option Fg := if i < 4294967296 ∧ (i + 4294967296 - f) % 4294967296 < k then none else L i
theorem cutL_zero (L : Nat → Option Fg) (f i : Nat) : cutL L f 0 i = L i := by unfold cutL; rw [if_neg (by omega)]
theorem cutL_at {L : Nat → Option Fg} {f k : Nat} (hf : f < 4294967296) (hk : k < 4294967296) : cutL L f k (up f k) = L (up f k) := by unfold cutL up; rw [if_neg (by omega)]
theorem cutL_succ {L : Nat → Option Fg} {f k : Nat} (hf : f < 4294967296) (hk : k < 4294967296) (j : Nat) : (delF (fun i => (cutL L f k i).map fgV) (up f k)) j = (cutL L f (k + 1) j).map fgV := by
  unfold delF
  by_cases e : j = up f k
  · subst e
    rw [if_pos rfl]
    unfold cutL up
    rw [if_pos (by omega)]
    rfl
  · rw [if_neg e]
    unfold cutL
    have : (j < 4294967296 ∧ (j + 4294967296 - f) % 4294967296 < k + 1) ↔ (j < 4294967296 ∧ (j + 4294967296 - f) % 4294967296 < k) := by
      unfold up at e
      omega
    show Option.map fgV (if j < 4294967296 ∧ (j + 4294967296 - f) % 4294967296 < k then none else L j) = _
    by_cases h : j < 4294967296 ∧ (j + 4294967296 - f) % 4294967296 < k
    · rw [if_pos h, if_pos (this.2 h)]
    · rw [if_neg h, if_neg (fun x => h (this.1 x))]
theorem msg_f4 (m : Msg) (v : Value) (w : World) : (Instr.field 43 (.agg (mCells m v)) 4).run Try.prog w = .ok v w := by kernel_rfl
theorem byts_info : (Try.prog.info? 39).map (fun i => (i.zero, i.size, i.bytes)) = some (some (.slice none 0 0), 1, 24) := by kernel_rfl
theorem msg_sz : (Try.prog.info? 43).map (·.size) = some 5 := by kernel_rfl
theorem setRow_any {w : World} {g : Nat} {t : TypeId} {cs cs' : Array Value} (h : Blk w g t cs) : Blk (w.setRow g cs') g t cs' := setRow_heap w g cs cs' t (0, 0) h
theorem setRow_frM (w : World) (g : Nat) (cs' : Array Value) : Fr (fun i => i = g) w (w.setRow g cs') := ⟨rfl, rfl, rfl, by simp, fun k _ hn => setRow_other w g k cs' (fun e => hn e)⟩
/-- What is known of a fragment that is cut out. -/
structure CutX (w : World) (b : Nat) (L : Nat → Option Fg) (f : Nat) (xs : List Fg) : Prop where
  at_ : ∀ (q : Nat) (x : Fg), xs[q]? = some x → L (up f q) = some x
  rd : ∀ (q : Nat) (x : Fg), xs[q]? = some x → Byt w w.heap.size x.A x.m.body ∧ (∀ ad, x.A = some ad → ad.block ≠ b)
  ne : ∀ (q : Nat) (x : Fg), xs[q]? = some x → x.m.body ≠ []
def CutDoneX (w : World) (b : Nat) (L : Nat → Option Fg) (f n : Nat) (xs : List Fg) (x0 : Fg) (e : Ending) (w' : World) : Prop :=
  ∃ A n' c', e = .returned (.agg (mCells x0.m (.slice A n' c'))) ∧ n' = (catF xs).length ∧ n' ≤ c' ∧ c' ≤ 9223372036854775807 ∧ Byt w' w'.heap.size A (catF xs) ∧ (∀ ad, A = some ad → w.heap.size ≤ ad.block) ∧ LineAt w' b (cutL L f (n + 1)) ∧ Fr (fun k => k = b) w w'
set_option maxHeartbeats 4000000 in
theorem cut_any (J : JoinC) {w : World} {b f l n : Nat} {L : Nat → Option Fg} {xs : List Fg} {x0 : Fg} (h : LineAt w b L) (hf : f < 4294967296) (hl : l = up f n) (hn : n ≤ 2000000000) (hlen : xs.length = n + 1) (hx0 : xs[0]? = some x0) (hx : CutX w b L f xs) (hz : (catF xs).length ≤ 2000000000) :
    Calls Try.prog 34 #[.map (some b), .int .u32 (f : Int), .int .u32 (l : Int)] w (CutDoneX w b L f n xs x0) := by
  have hl2 : l < 4294967296 := by rw [hl]; unfold up; omega
  have hd : (l + 4294967296 - f) % 4294967296 = n := by rw [hl]; unfold up; omega
  have hL0 : L f = some x0 := by have := hx.at_ 0 x0 hx0; unfold up at this; rw [Nat.add_zero, Nat.mod_eq_of_lt hf] at this; exact this
  have k0 : ∀ o : Obj, (Instr.lookup 83 (.map (some b)) (.int .u32 (f : Int)) false).run Try.prog (w.alloc o) = .ok (fgV x0) (w.alloc o) := fun o => by
    have := (h.fr ((Fr.refl (fun _ => False) w).alloc o) (fun hx => hx)).look hf
    rw [hL0, Option.getD_some] at this
    exact this
  have hdc := dist_any f l w hf hl2
  rw [hd] at hdc
  have HD := Lib.hid hdc
  have hdc2 := fun W : World => (dist_any f l W hf hl2)
  rw [hd] at hdc2
  have HD2 := Lib.hid hdc2
  have HL := Lib.hid h
  have HX := Lib.hid hx
  have HLEN := Lib.hid hlen
  have HX0 := Lib.hid hx0
  have HZ := Lib.hid hz
  have hbl := h.lt
  obtain ⟨i0, hi0, hz0, hz1, hz2⟩ := info_parts3 byts_info
  clear hd hL0 hdc hdc2 h hx hlen hx0 hz hl
  obtain ⟨xb, xe, ⟨x1, x2, x3, x4, x5⟩, xA, xc⟩ := x0
  have f2 := frag_f2 ⟨xb, xe, ⟨x1, x2, x3, x4, x5⟩, xA, xc⟩
  simp only [mCells, bodyV] at f2
  go_enter Try.func34, Try.ntmps34
  go_wp2_with fail
  refine (HD2.out _).mono ?_
  rintro e w1 ⟨rfl, rfl⟩
  go_wp2_with fail
  obtain ⟨xn, hxn⟩ : ∃ xn, xn = x5.length := ⟨_, rfl⟩
  rw [← hxn]
  have HXN := Lib.hid hxn
  clear hxn
  obtain ⟨W2, hW2⟩ : ∃ W2, W2 = (w.alloc (.cells #[.int .u16 0, .bool false, .int .u32 0, .int .u32 0, .slice none 0 0] 43)).alloc (.cells #[.int .u16 (x1 : Int), .bool x2, .int .u32 (x3 : Int), .int .u32 (x4 : Int), .slice xA xn xc] 43) := ⟨_, rfl⟩
  obtain ⟨g, hg⟩ : ∃ g, g = w.heap.size := ⟨_, rfl⟩
  obtain ⟨g2, hg2⟩ : ∃ g2, g2 = w.heap.size + 1 := ⟨_, rfl⟩
  have HB1 : Hid (Blk W2 g 43 #[.int .u16 0, .bool false, .int .u32 0, .int .u32 0, .slice none 0 0]) := by rw [hW2, hg]; exact (Blk.new _ _ _).alloc _
  have HB2 : Hid (Blk W2 g2 43 #[.int .u16 (x1 : Int), .bool x2, .int .u32 (x3 : Int), .int .u32 (x4 : Int), .slice xA xn xc]) := by
    have := Blk.new (w.alloc (.cells #[.int .u16 0, .bool false, .int .u32 0, .int .u32 0, .slice none 0 0] 43)) 43 #[.int .u16 (x1 : Int), .bool x2, .int .u32 (x3 : Int), .int .u32 (x4 : Int), .slice xA xn xc]
    rw [World.size_alloc] at this
    rw [hW2, hg2]
    exact this
  have HF2 : Hid (Fr (fun _ => False) w W2) := by rw [hW2]; exact ((Fr.refl _ w).alloc _).alloc _
  have hsz2 : W2.heap.size = w.heap.size + 2 := by rw [hW2]; simp
  have HSZ := Lib.hid hsz2
  have HGG : Hid (g = w.heap.size ∧ g2 = w.heap.size + 1) := ⟨hg, hg2⟩
  have HBL := Lib.hid hbl
  rw [← hg2, ← hg, ← hW2]
  have HL2 : Hid (LineAt W2 b L) := HL.out.fr HF2.out (fun hx => hx)
  clear hW2 hg hg2 hsz2 hbl k0 f2
  have h32 : (n : Int) + 1 < 4294967296 := by omega
  go_loopw [8, 9, 10, 19] (fun v8 _ _ v19 wr => ∃ (k c' : Nat) (As : Option Addr), v8 = .slice As k c' ∧ v19 = .int .u32 (k : Int) ∧ k ≤ n + 1 ∧ k ≤ c' ∧ c' ≤ 9223372036854775807 ∧ Hid (wr.ownsRow W2.heap.size 39 1 (.slice As k c') k (valsF (xs.take k))) ∧ Hid (LineAt wr b (cutL L f k)) ∧ Hid (Fr (fun i => i = b) W2 wr)) (fun _ _ _ v19 _ => n + 1 - (intOf v19).toNat)
  case atStart => exact ⟨0, 0, none, rfl, rfl, by omega, by omega, by omega, World.ownsRow_nil _ _ _ _, (by have e : cutL L f 0 = L := funext fun i => cutL_zero L f i; rw [e]; exact HL2), Fr.refl _ _⟩
  case round =>
    obtain ⟨k, c', As, rfl, rfl, hk, hkc, hc', HRW, HLN, HFR⟩ := hrel
    by_cases hlt : k < n + 1
    · have hlt' : (k : Int) < (n : Int) + 1 := by omega
      obtain ⟨X, hX⟩ : ∃ X, xs[k]? = some X := ⟨xs[k]'(by rw [HLEN.out]; exact hlt), List.getElem?_eq_getElem _⟩
      have hLX := HX.out.at_ k X hX
      obtain ⟨i, hi⟩ : ∃ i, i = up f k := ⟨_, rfl⟩
      have hi2 : i < 4294967296 := by rw [hi]; unfold up; omega
      have hwi : ((f : Int) + (k : Int)) % 4294967296 = (i : Int) := by rw [hi]; unfold up; omega
      have kx := HLN.out.look hi2
      have hcx : cutL L f k i = some X := by rw [hi, cutL_at hf (by omega), ← hi]; rw [hi]; exact hLX
      rw [hcx, Option.getD_some] at kx
      have HI := Lib.hid hi
      have HXX := Lib.hid hX
      clear hi hX hLX hcx
      obtain ⟨yb, ye, ⟨y1, y2, y3, y4, y5⟩, yA, yc⟩ := X
      obtain ⟨yn, hyn⟩ : ∃ yn, yn = y5.length := ⟨_, rfl⟩
      have f2 := frag_f2 ⟨yb, ye, ⟨y1, y2, y3, y4, y5⟩, yA, yc⟩
      have f4 := msg_f4 ⟨y1, y2, y3, y4, y5⟩ (.slice yA yn yc)
      simp only [mCells, bodyV] at f2 f4
      rw [← hyn] at f2
      have HYN := Lib.hid hyn
      clear hyn
      have hBs : W2.heap.size ≤ (wr.alloc (.cells #[.slice yA yn yc] 39)).heap.size := Nat.le_trans HFR.out.size (by simp)
      go_upto_region 8 with (at_builtin; refine wpList_append_any _ rfl (.tmp 25) (.tmp 31) _ rfl W2.heap.size 39 i0 _ 1 24 Try.underlying22 hi0 hz0 hz1 hz2 rfl (by omega) (.slice As k c') k _ rfl (HRW.out.alloc _) (wr.heap.size + 1) (some ⟨wr.heap.size, 0, none⟩) 1 1 [.slice yA yn yc] rfl (blk_reads (Blk.new wr 39 #[.slice yA yn yc]) rfl) (by simp [Value.oneCell']) (by simp only [maxLen]; omega) (by omega) hBs ?_; intro v7 w7 hown7 hg7 hat7; obtain ⟨A7, c7, rfl, h7a, h7b⟩ := own_slice hown7)
      have hne : ∀ q, (Value.slice As k c').ownBlock = some q → q ≠ b := fun q hq e => by
        have h1 := (HRW.out.lt q hq).1
        have h2 := HSZ.out
        have h3 := HBL.out
        omega
      have hfr7 : Fr (fun x => some x = (Value.slice As k c').ownBlock) wr w7 := ((Fr.refl _ wr).alloc _).grown hg7 (fun q hq => .inl hq.symm)
      have HFR7 : Hid (Fr (fun x => x = b) W2 w7) := (HFR.out.alloc _).grown hg7 (fun q hq => .inr (HRW.out.lt q hq).1)
      have hln7 : LineAt w7 b (cutL L f k) := HLN.out.fr hfr7 (fun e => hne b e.symm rfl)
      have hlt7 : ∀ q, (Value.slice A7 (k + 1) c7).ownBlock = some q → q ≠ b := fun q hq e => by
        have h1 := (hown7.lt q hq).1
        have h2 := HSZ.out
        have h3 := HBL.out
        omega
      obtain ⟨w8, hdel, hmap8, hturn8⟩ := MapX.del hln7 (t := 83) Try.underlying83 (x := i) hi2 0
      have hdel2 : (Builtin.delete_ #[83, 33] 0 #[.map (some b), .int .u32 (i : Int)]).run Try.prog w7 = .ok (.tuple #[]) w8 := hdel
      have HLN8 : Hid (LineAt w8 b (cutL L f (k + 1))) := by
        have h1 := hmap8
        rw [HI.out] at h1
        exact h1.as_ (fun j => cutL_succ hf (by omega) j)
      have HFR8 : Hid (Fr (fun x => x = b) W2 w8) := HFR7.out.grown hturn8.grown (fun q hq => by injection hq with hq; exact .inl hq.symm)
      have HRW8 : Hid (w8.ownsRow W2.heap.size 39 1 (.slice A7 (k + 1) c7) (k + 1) (valsF (xs.take (k + 1)))) := by
        have h1 := (Fr.of_grown hturn8.grown).own hown7 (fun q hq e => by injection e with e; exact hlt7 q hq e)
        have h2 : valsF (xs.take (k + 1)) = valsF (xs.take k) ++ [.slice yA yn yc] := by
          unfold valsF
          rw [List.take_add_one, HXX.out, List.map_append, HYN.out]
          rfl
        rw [h2]
        exact h1
      clear hown7 hg7 hat7 hfr7 hln7 hlt7 hne hdel hmap8 hturn8 HFR7 HRW HLN HFR kx f2 f4
      go_wp2_with fail
      go_roundw
      case rel => exact ⟨k + 1, c7, A7, rfl, by go_num, by omega, h7a, h7b, HRW8, HLN8, HFR8⟩
      case measure => simp [intOf]; omega
    · obtain rfl : k = n + 1 := by omega
      have hlt' : ¬ ((n + 1 : Nat) : Int) < (n : Int) + 1 := by omega
      obtain ⟨q, cap, hv, hq1, hq2⟩ := HRW.out.form (by omega)
      injection hv with hv _ hcc
      subst hv hcc
      have hlenM : n + 1 = (xs.map fun x : Fg => x.m.body).length := by rw [List.length_map, HLEN.out]
      have hfw : Fr (fun x => x = b) w wr := (HF2.out.mono (T := fun x => x = b) (fun _ _ h => h.elim)).same HFR.out
      have hJ := J wr q (n + 1) c' (xs.map fun x : Fg => x.m.body) hlenM (by omega) hkc (fun i l hl => by
        rw [List.getElem?_map] at hl
        cases hxi : xs[i]? with
        | none => rw [hxi] at hl; cases hl
        | some x =>
          rw [hxi] at hl
          simp only [Option.map_some, Option.some.injEq] at hl
          subst hl
          have hin : i < n + 1 := by have := (List.getElem?_eq_some_iff.1 hxi).1; rwa [HLEN.out] at this
          refine ⟨HX.out.ne i x hxi, x.A, x.cp, ?_, ?_⟩
          · rw [HRW.out.cellAt i (by omega)]
            unfold valsF
            rw [List.getElem?_map, List.getElem?_take, if_pos hin, hxi]
            rfl
          · obtain ⟨h1, h2⟩ := HX.out.rd i x hxi
            exact (hfw.byt h1 (Nat.le_refl _) (fun ad e => h2 ad e)).more hfw.size) HZ.out
      have HJ := Lib.hid hJ
      have HFW := Lib.hid hfw
      clear hJ hfw hlenM
      go_wp2_with fail
      refine HJ.out.mono ?_
      rintro e w9 ⟨A9, n9, c9, rfl, HN9, h9a, h9b, HY9, HA9, HB9⟩
      have hfr9 := HFR.out.grows HB9.out
      have hb2 : Blk w9 g2 43 #[.int .u16 (x1 : Int), .bool x2, .int .u32 (x3 : Int), .int .u32 (x4 : Int), .slice xA xn xc] := hfr9.blk HB2.out (by have := HGG.out; have := HBL.out; omega)
      have hb1 : Blk w9 g 43 #[.int .u16 0, .bool false, .int .u32 0, .int .u32 0, .slice none 0 0] := hfr9.blk HB1.out (by have := HGG.out; have := HBL.out; omega)
      have HFR9 := Lib.hid hfr9
      obtain ⟨W10, hW10⟩ : ∃ W10, W10 = w9.setCell ⟨g2, 4, none⟩ (.slice A9 n9 c9) := ⟨_, rfl⟩
      have frz := hb2.frozen 4
      have cz := hb2.cell 4
      simp only [List.getElem?_toArray, List.getElem?_cons_succ, List.getElem?_cons_zero] at cz
      go_upto_region 11 with (fail)
      rw [← hW10]
      have HB2' : Hid (Blk W10 g2 43 #[.int .u16 (x1 : Int), .bool x2, .int .u32 (x3 : Int), .int .u32 (x4 : Int), .slice A9 n9 c9]) := by rw [hW10]; exact hb2.set_ 4 (.slice A9 n9 c9)
      have HB1' : Hid (Blk W10 g 43 #[.int .u16 0, .bool false, .int .u32 0, .int .u32 0, .slice none 0 0]) := by rw [hW10]; exact hb1.far (by have := HGG.out; show g ≠ g2; omega) _
      have HF10 : Hid (Fr (fun x => x = b ∨ x = g2) W2 W10) := by rw [hW10]; exact (HFR9.out.mono (fun _ _ h => .inl h)).setCell (.inl (.inr rfl)) _
      have HFE : Hid (Fr (fun x => x = g2) w9 W10) := by rw [hW10]; exact (Fr.refl (fun x => x = g2) w9).setCell (p := ⟨g2, 4, none⟩) (.inl rfl) _
      clear hW10 frz cz hb1 hb2 hfr9
      obtain ⟨cs9, hcs9⟩ : ∃ cs9 : Array Value, cs9 = #[.int .u16 (x1 : Int), .bool x2, .int .u32 (x3 : Int), .int .u32 (x4 : Int), .slice A9 n9 c9] := ⟨_, rfl⟩
      rw [← hcs9] at HB2'
      have HONE : Hid (cs9.all (·.oneCell') = true) := by rw [hcs9]; show _ = _; simp [Value.oneCell']
      have HCSZ : Hid (cs9.size = 5) := by rw [hcs9]; show _ = _; rfl
      have HCS := Lib.hid hcs9
      clear hcs9
      go_upto_region 12 with (first
        | (refine wpList_load_row rfl 43 _ rfl g2 rfl 43 cs9 (0, 0) _ HB2'.out Try.underlying43 rfl (by rw [HCSZ.out]; exact msg_sz) ?_)
        | (refine wpList_store_rowTo rfl 43 _ _ rfl rfl g cs9 rfl rfl 43 _ HB1'.out (by rw [HCSZ.out]; exact msg_sz) (by rw [HCSZ.out]; rfl) HONE.out ?_))
      refine bodyPost_ret (results_cell_row rfl _ _ g 43 cs9 (0, 0) _ rfl (setRow_any HB1'.out) Try.underlying43 rfl (by rw [HCSZ.out]; exact msg_sz)) rfl ?_
      have hfa : Fr (fun x => x = b ∨ x = g2) W2 W10 := HF10.out
      have hfr10 : Fr (fun x => x = b) w (W10.setRow g cs9) := by
        have h1 : Fr (fun x => x = b) w W10 := (HF2.out.mono (T := fun x => x = b) (fun _ _ h => h.elim)).trans hfa (fun x hx h => by
          rcases h with h | h
          · exact h
          · have := HGG.out; omega)
        exact h1.trans (setRow_frM W10 g _) (fun x hx h => by have h2 : x = g := h; have := HGG.out; omega)
      refine ⟨A9, n9, c9, by rw [HCS.out], by rw [HN9.out]; rfl, h9a, h9b, ?_, fun ad e => ?_, ?_, hfr10⟩
      · have h1 : Fr (fun x => x = g2 ∨ x = g) w9 (W10.setRow g cs9) := (HFE.out.mono (fun _ _ h => .inl h)).trans (setRow_frM W10 g cs9) (fun _ _ h => .inr h)
        exact (h1.byt HY9.out (Nat.le_refl _) (fun ad e h => by
          have h2 := HA9.out ad e
          have h3 := HGG.out
          have h4 := HFR.out.size
          have h5 := HSZ.out
          rcases h with h | h <;> omega)).more h1.size
      · have h2 := HA9.out ad e
        have h4 := HFW.out.size
        omega
      · have h1 : Fr (fun x => x = g2 ∨ x = g) w9 (W10.setRow g cs9) := (HFE.out.mono (fun _ _ h => .inl h)).trans (setRow_frM W10 g cs9) (fun _ _ h => .inr h)
        have h2 := (Fr.refl (fun x => x = g2 ∨ x = g) wr).grows HB9.out
        exact HLN.out.fr (h2.same h1) (fun h => by have h3 := HGG.out; have h4 := HBL.out; rcases h with h | h <;> omega)
end Go.Proofs.Ytioddokjogbmnaa.Chk

namespace Go.Proofs
open Go.Shelf
def Try.sortL_ren : Go.Shelf.Ren := ⟨fun | 6 => 64 | 15 => 81 | 14 => 80 | 28 => 96 | 29 => 97 | 20 => 88 | 21 => 89 | 22 => 90 | 23 => 91 | 24 => 92 | 25 => 93 | 26 => 94 | 27 => 95 | 46 => 100 | 47 => 101 | 48 => 102 | 49 => 103 | 50 => 104 | 57 => 106 | n => n, fun | 22 => 36 | 24 => 33 | 25 => 127 | 3 => 3 | 39 => 30 | 0 => 0 | 53 => 33 | 55 => 158 | 4 => 4 | 46 => 151 | 45 => 150 | 50 => 155 | 5 => 5 | 9 => 9 | 66 => 161 | 70 => 165 | 76 => 167 | 77 => 168 | n => n, fun | n => n⟩
theorem Try.sortL : Go.Proofs.SlLaysF.n6 Try.prog Try.sortL_ren := {
  mixed := by kernel_rfl
  f6 := ⟨Try.f64.name, by decide, Try.func64.trans (congrArg some (by kernel_rfl))⟩
  f14 := ⟨Try.f80.name, by decide, Try.func80.trans (congrArg some (by kernel_rfl))⟩
  f15 := Try.func81.trans (congrArg some (by kernel_rfl))
  f20 := ⟨Try.f88.name, by decide, Try.func88.trans (congrArg some (by kernel_rfl))⟩
  f21 := ⟨Try.f89.name, by decide, Try.func89.trans (congrArg some (by kernel_rfl))⟩
  f22 := ⟨Try.f90.name, by decide, Try.func90.trans (congrArg some (by kernel_rfl))⟩
  f23 := ⟨Try.f91.name, by decide, Try.func91.trans (congrArg some (by kernel_rfl))⟩
  f24 := ⟨Try.f92.name, by decide, Try.func92.trans (congrArg some (by kernel_rfl))⟩
  f25 := ⟨Try.f93.name, by decide, Try.func93.trans (congrArg some (by kernel_rfl))⟩
  f26 := ⟨Try.f94.name, by decide, Try.func94.trans (congrArg some (by kernel_rfl))⟩
  f27 := ⟨Try.f95.name, by decide, Try.func95.trans (congrArg some (by kernel_rfl))⟩
  f28 := Try.func96.trans (congrArg some (by kernel_rfl))
  f29 := Try.func97.trans (congrArg some (by kernel_rfl))
  f46 := ⟨Try.f100.name, by decide, Try.func100.trans (congrArg some (by kernel_rfl))⟩
  f47 := Try.func101.trans (congrArg some (by kernel_rfl))
  f48 := Try.func102.trans (congrArg some (by kernel_rfl))
  f49 := ⟨Try.f103.name, by decide, Try.func103.trans (congrArg some (by kernel_rfl))⟩
  f50 := ⟨Try.f104.name, by decide, Try.func104.trans (congrArg some (by kernel_rfl))⟩
  f57 := ⟨Try.f106.name, by decide, Try.func106.trans (congrArg some (by kernel_rfl))⟩
  t0 := Try.underlying0
  a0 := Try.isAgg0
  z0 := Try.sizeOf0
  v0 := Try.zeroValue0
  t3 := Try.underlying3
  a3 := Try.isAgg3
  z3 := Try.sizeOf3
  v3 := Try.zeroValue3
  t4 := Try.underlying4
  a4 := Try.isAgg4
  z4 := Try.sizeOf4
  v4 := Try.zeroValue4
  t5 := Try.underlying5
  a5 := Try.isAgg5
  z5 := Try.sizeOf5
  v5 := Try.zeroValue5
  t9 := Try.underlying9
  a9 := Try.isAgg9
  z9 := Try.sizeOf9
  v9 := Try.zeroValue9
  t22 := Try.underlying36
  a22 := Try.isAgg36
  z22 := Try.sizeOf36
  v22 := Try.zeroValue36
  a24 := Try.isAgg33
  z24 := Try.sizeOf33
  t25 := Try.underlying127
  a25 := Try.isAgg127
  z25 := Try.sizeOf127
  v25 := Try.zeroValue127
  t39 := Try.underlying30
  a39 := Try.isAgg30
  z39 := Try.sizeOf30
  v39 := Try.zeroValue30
  t45 := Try.underlying150
  a45 := Try.isAgg150
  z45 := Try.sizeOf150
  v45 := Try.zeroValue150
  t46 := Try.underlying151
  a46 := Try.isAgg151
  z46 := Try.sizeOf151
  v46 := Try.zeroValue151
  t50 := Try.underlying155
  a50 := Try.isAgg155
  z50 := Try.sizeOf155
  v50 := Try.zeroValue155
  t53 := Try.underlying33
  a53 := Try.isAgg33
  z53 := Try.sizeOf33
  v53 := Try.zeroValue33
  t55 := Try.underlying158
  a55 := Try.isAgg158
  z55 := Try.sizeOf158
  v55 := Try.zeroValue158
  t66 := Try.underlying161
  a66 := Try.isAgg161
  z66 := Try.sizeOf161
  v66 := Try.zeroValue161
  t70 := Try.underlying165
  a70 := Try.isAgg165
  z70 := Try.sizeOf165
  v70 := Try.zeroValue165
  t76 := Try.underlying167
  a76 := Try.isAgg167
  z76 := Try.sizeOf167
  v76 := Try.zeroValue167
  t77 := Try.underlying168
  a77 := Try.isAgg168
  z77 := Try.sizeOf168
  v77 := Try.zeroValue168 }
def Try.joinL_ren : Go.Shelf.Ren := ⟨fun | 14 => 59 | 15 => 78 | n => n, fun | 26 => 22 | 22 => 39 | 3 => 3 | 4 => 4 | 0 => 0 | 9 => 9 | 20 => 20 | 5 => 5 | n => n, fun | n => n⟩
theorem Try.joinL : Go.Proofs.SlLaysJ.n14 Try.prog Try.joinL_ren := {
  mixed := by kernel_rfl
  f14 := Try.func59.trans (congrArg some (by kernel_rfl))
  f15 := Try.func78.trans (congrArg some (by kernel_rfl))
  t0 := Try.underlying0
  a0 := Try.isAgg0
  z0 := Try.sizeOf0
  v0 := Try.zeroValue0
  t3 := Try.underlying3
  a3 := Try.isAgg3
  z3 := Try.sizeOf3
  v3 := Try.zeroValue3
  t4 := Try.underlying4
  a4 := Try.isAgg4
  z4 := Try.sizeOf4
  v4 := Try.zeroValue4
  t9 := Try.underlying9
  a9 := Try.isAgg9
  z9 := Try.sizeOf9
  v9 := Try.zeroValue9
  t20 := Try.underlying20
  a20 := Try.isAgg20
  z20 := Try.sizeOf20
  v20 := Try.zeroValue20
  t22 := Try.underlying39
  a22 := Try.isAgg39
  z22 := Try.sizeOf39
  v22 := Try.zeroValue39
  t26 := Try.underlying22
  a26 := Try.isAgg22
  z26 := Try.sizeOf22
  v26 := Try.zeroValue22
  t5 := Try.underlying5
  z5 := Try.sizeOf5
  i5 := by kernel_rfl }
end Go.Proofs

set_option linter.unusedVariables false
set_option linter.unusedSimpArgs false
set_option maxRecDepth 20000
namespace Go.Proofs.Ytioddokjogbmnaa.Chk
open Go.ChangeShapes Go.WideShapes Go.ChangeAt Go.RowKit Go.Deep Go.Maps Go.Proofs.Ytioddokjogbmnaa.Words Go.Proofs.Ytioddokjogbmnaa.Oct Go.Proofs.Ytioddokjogbmnaa.Par Go.Proofs.Ytioddokjogbmnaa.Mx
theorem cell_add0 (w : World) (g i : Nat) : w.cell? ((⟨g, 0, none⟩ : Addr).add i) = w.cell? ⟨g, i, none⟩ := by
  unfold Addr.add
  split
  · rename_i e; rw [e]
  · simp
theorem holds_bytes {w : World} {B : Nat} {A : Option Addr} {l : List UInt8} {c : Nat} (h : Byt w B A l) : Lib.HoldsBytes w (.slice A l.length c) l := by
  refine ⟨A, c, rfl, fun e => ?_, fun a ha i x hx => ?_⟩
  · rcases Nat.eq_zero_or_pos l.length with h0 | h0
    · exact List.eq_nil_of_length_eq_zero h0
    · obtain ⟨ad, e2, _⟩ := h.2 h0
      rw [e] at e2; cases e2
  · have hi : i < l.length := (List.getElem?_eq_some_iff.1 hx).1
    obtain ⟨ad, e2, _, hc⟩ := h.2 (by omega)
    rw [ha] at e2
    injection e2 with e2
    subst e2
    exact hc i (.int .u8 (x.toNat : Int)) (by rw [u8s_get, hx]; rfl)
theorem fresh_byt {B : Nat} {w : World} {v : Value} {l : List UInt8} (h : Lib.FreshBytes B w v l) : ∃ A c, v = .slice A l.length c ∧ l.length ≤ c ∧ c ≤ 9223372036854775807 ∧ Byt w w.heap.size A l ∧ ∀ ad, A = some ad → B ≤ ad.block := by
  obtain ⟨g, cap, zs, rfl, hB, hlc, hcm, hz, hr, hb, hc, _⟩ := h
  refine ⟨_, cap, rfl, hlc, hcm, ⟨by simp [u8s_length], fun hn => ⟨_, rfl, ?_, fun j u hu => ?_⟩⟩, fun ad e => by injection e with e; rw [← e]; exact hB⟩
  · exact World.block_lt_of_cell? w _ (hc 0 (by omega))
  · have hj : j < l.length := by
      have := (List.getElem?_eq_some_iff.1 hu).1
      simpa [u8s_length] using this
    rw [cell_add0, hc j (by omega), ← hu, u8s_get, ← hb]
    unfold Lib.bytesOf
    rw [List.getElem?_map, List.getElem?_take, if_pos hj, List.getElem?_eq_getElem (by omega)]
    simp only [Option.map_some]
    have h1 := hr zs[j] (List.getElem_mem _)
    congr 2
    rw [List.getD_eq_getElem?_getD, List.getElem?_eq_getElem (by omega), Option.getD_some, UInt8.toNat_ofNat', Nat.mod_eq_of_lt (by omega)]
    omega
theorem join_flat (ls : List (List UInt8)) : Lib.join ls [] = ls.flatten := by
  cases ls with
  | nil => rfl
  | cons x r =>
    rw [Lib.join_cons]
    simp [Lib.joinTail]
theorem joinC : JoinC := by
  intro w g n c ls hn h1 hnc hp hz
  obtain ⟨vs, hvs⟩ : ∃ vs : List Value, vs = (List.range n).map fun i => (w.cell? ⟨g, i, none⟩).getD undef := ⟨_, rfl⟩
  have hlens : Lib.lens ls = ls.flatten.length := by unfold Lib.lens; rw [List.length_flatten]
  rcases Nat.lt_or_ge n 2 with h2 | h2
  · have hn1 : n = 1 := by omega
    subst hn1
    match ls, hn with
    | [l], _ =>
      obtain ⟨hne, Ab, cb, hc, hy⟩ := hp 0 l rfl
      have h0 : 0 < l.length := by cases l with | nil => exact absurd rfl hne | cons _ _ => simp
      obtain ⟨ad, rfl, _, hcc⟩ := hy.2 h0
      have hk := Any.bytes_Join_one Try.joinL g 0 c ad cb l (.slice none 0 0) w hc (fun i x hx => by
        exact hcc i (.int .u8 (x.toNat : Int)) (by rw [u8s_get, hx]; rfl)) h0 (by simp at hz; omega)
      refine hk.mono ?_
      rintro e w' ⟨v, rfl, hf, hb⟩
      obtain ⟨A, c', rfl, k1, k2, k3, k4⟩ := fresh_byt hf
      exact ⟨A, l.length, c', rfl, by show _ = _; simp, k1, k2, by show Byt _ _ _ _; simpa using k3, k4, hb⟩
  · have hP : Lib.PartsAt w ⟨g, 0, none⟩ vs ls := by
      refine ⟨by rw [hvs]; simp [hn], fun i v hv => ?_, fun i v l hv hl => ?_⟩
      · rw [hvs, List.getElem?_map] at hv
        have hi : i < n := by
          cases hr : (List.range n)[i]? with
          | none => rw [hr] at hv; cases hv
          | some x => have := (List.getElem?_eq_some_iff.1 hr).1; simpa using this
        rw [List.getElem?_range hi] at hv
        simp only [Option.map_some, Option.some.injEq] at hv
        obtain ⟨_, Ab, cb, hc, _⟩ := hp i (ls[i]'(by omega)) (List.getElem?_eq_getElem _)
        rw [cell_add0]
        rw [hc] at hv ⊢
        rw [← hv]
        rfl
      · have hi : i < ls.length := (List.getElem?_eq_some_iff.1 hl).1
        rw [hvs, List.getElem?_map, List.getElem?_range (by omega)] at hv
        simp only [Option.map_some, Option.some.injEq] at hv
        obtain ⟨_, Ab, cb, hc, hy⟩ := hp i l hl
        rw [hc] at hv
        rw [← hv]
        exact holds_bytes hy
    have hk := Any.bytes_Join_many Try.joinL g 0 n c vs ls (.slice none 0 0) [] w hn.symm h2 hP hnc ⟨none, 0, rfl, fun _ => rfl, fun a ha => by cases ha⟩ (by
      have : ls.length ≤ ls.flatten.length := by
        have := Jo.sum_le_mul (fun _ : List UInt8 => 1) 1 ls (fun _ _ => Nat.le_refl _)
        clear this
        have hall : ∀ l ∈ ls, 1 ≤ l.length := fun l hl => by
          obtain ⟨i, hi, e⟩ := List.mem_iff_getElem.1 hl
          have := (hp i l (by rw [List.getElem?_eq_getElem hi, e])).1
          cases l with | nil => exact absurd rfl this | cons _ _ => simp
        clear hp hn hvs hP hlens hz hnc
        induction ls with
        | nil => simp
        | cons x r ih =>
          have h3 := hall x List.mem_cons_self
          have h4 := ih (fun l hl => hall l (List.mem_cons_of_mem _ hl))
          simp only [List.flatten_cons, List.length_append, List.length_cons]
          omega
      omega) (by rw [hlens, List.length_nil, Nat.zero_mul]; omega)
    refine hk.mono ?_
    rintro e w' ⟨v, rfl, hf, hb⟩
    rw [join_flat] at hf
    obtain ⟨A, c', rfl, k1, k2, k3, k4⟩ := fresh_byt hf
    exact ⟨A, _, c', rfl, rfl, k1, k2, k3, k4, hb⟩
end Go.Proofs.Ytioddokjogbmnaa.Chk

set_option linter.unusedVariables false
set_option linter.unusedSimpArgs false
set_option maxRecDepth 20000
namespace Go.Proofs.Ytioddokjogbmnaa.Chk
open Go.ChangeShapes Go.WideShapes Go.ChangeAt Go.RowKit Go.Deep Go.Maps Go.Proofs.Ytioddokjogbmnaa.Words Go.Proofs.Ytioddokjogbmnaa.Oct Go.Proofs.Ytioddokjogbmnaa.Par Go.Proofs.Ytioddokjogbmnaa.Mx
def midN (inter : Bool) (x : Nat) : Nat := if inter = true then x else x % 65536
theorem number_any {w : World} {p : Nat} {inter : Bool} (h : w.cell? ⟨p, 0, none⟩ = some (.bool inter)) {x : Nat} (hx : x < 4294967296) :
    Calls Try.prog 28 #[jptr p, .int .u32 (x : Int)] w fun e w' => e = .returned (.int .u32 (midN inter x : Int)) ∧ w = w' := by
  cases inter
  · obtain ⟨y, hy⟩ : ∃ y, y = x % 65536 := ⟨_, rfl⟩
    have h1 : (x : Int) % 65536 = (y : Int) := by omega
    have h2 : (y : Int) % 4294967296 = (y : Int) := by omega
    have h3 : IntKind.u16.wrap (x : Int) = (y : Int) := by simp [IntKind.wrap, IntKind.bits, IntKind.signed]; omega
    have HY : Hid (midN false x = y) := by unfold midN Hid; rw [if_neg (by simp)]; exact hy.symm
    rw [HY.out]
    clear hy HY
    go_enter Try.func28, Try.ntmps28
    go_wp2
    go_ret
    exact ⟨rfl, rfl⟩
  · go_enter Try.func28, Try.ntmps28
    go_wp2
    go_ret
    exact ⟨rfl, rfl⟩
def ltB (a b n : Nat) : Bool := decide ((b + n - a) % n ≠ 0) && decide ((b + n - a) % n < n / 2)
theorem ltB_eq {inter : Bool} (a b : Nat) : ltB a b (Jo.modN inter) = true ↔ Jo.lessN inter a b := by
  unfold ltB Jo.lessN
  simp only [Bool.and_eq_true, decide_eq_true_eq]
  constructor
  · rintro ⟨h1, h2⟩
    exact ⟨by omega, h2⟩
  · rintro ⟨h1, h2⟩
    exact ⟨by omega, h2⟩
theorem sless_any (a b : Nat) (w : World) (ha : a < 4294967296) (hb : b < 4294967296) :
    Calls Try.prog 54 #[.int .u32 (a : Int), .int .u32 (b : Int)] w fun e w' => e = .returned (.bool (ltB a b 4294967296)) ∧ w = w' := by
  obtain ⟨d, hd⟩ : ∃ d, d = (b + 4294967296 - a) % 4294967296 := ⟨_, rfl⟩
  have hdc := dist_any a b w ha hb
  rw [← hd] at hdc
  have HL : Hid (ltB a b 4294967296 = (decide (d ≠ 0) && decide (d < 2147483648))) := by unfold ltB Hid; rw [← hd]
  rw [HL.out]
  clear HL hd
  by_cases h0 : d = 0
  · subst h0
    go_enter Try.func54, Try.ntmps54
    go_wp2_with (go_at_call 58; refine hdc.mono ?_; rintro e w' ⟨rfl, rfl⟩)
    go_ret
    exact ⟨rfl, rfl⟩
  · have h1 : ¬ ((d : Int) = 0) := by omega
    by_cases h2 : d < 2147483648
    · have h3 : (d : Int) < 2147483648 := by omega
      go_enter Try.func54, Try.ntmps54
      go_wp2_with (go_at_call 58; refine hdc.mono ?_; rintro e w' ⟨rfl, rfl⟩)
      go_ret
      exact ⟨ret_bool (by simp [h0, h2]), rfl⟩
    · have h3 : ¬ ((d : Int) < 2147483648) := by omega
      go_enter Try.func54, Try.ntmps54
      go_wp2_with (go_at_call 58; refine hdc.mono ?_; rintro e w' ⟨rfl, rfl⟩)
      go_ret
      exact ⟨ret_bool (by simp [h0, h2]; omega), rfl⟩
theorem sshort_any (a b : Nat) (w : World) (ha : a < 65536) (hb : b < 65536) :
    Calls Try.prog 79 #[.int .u16 (a : Int), .int .u16 (b : Int)] w fun e w' => e = .returned (.bool (ltB a b 65536)) ∧ w = w' := by
  obtain ⟨d, hd⟩ : ∃ d, d = (b + 65536 - a) % 65536 := ⟨_, rfl⟩
  have hw : IntKind.u16.wrap ((b : Int) - (a : Int)) = (d : Int) := by simp [IntKind.wrap, IntKind.bits, IntKind.signed]; omega
  have HL : Hid (ltB a b 65536 = (decide (d ≠ 0) && decide (d < 32768))) := by unfold ltB Hid; rw [← hd]
  rw [HL.out]
  clear HL hd
  by_cases h0 : d = 0
  · subst h0
    go_enter Try.func79, Try.ntmps79
    go_wp2
    go_ret
    exact ⟨rfl, rfl⟩
  · have h1 : ¬ ((d : Int) = 0) := by omega
    by_cases h2 : d < 32768
    · have h3 : (d : Int) < 32768 := by omega
      go_enter Try.func79, Try.ntmps79
      go_wp2
      go_ret
      exact ⟨ret_bool (by simp [h0, h2]), rfl⟩
    · have h3 : ¬ ((d : Int) < 32768) := by omega
      go_enter Try.func79, Try.ntmps79
      go_wp2
      go_ret
      exact ⟨ret_bool (by simp [h0, h2]), rfl⟩
def MidOk (inter : Bool) (x : Nat) : Prop := x < Jo.modN inter
theorem small32 {inter : Bool} {x : Nat} (h : MidOk inter x) : x < 4294967296 := by unfold MidOk Jo.modN at h; split at h <;> omega
theorem small16 {x : Nat} (h : MidOk false x) : x < 65536 := h
theorem mid_small (inter : Bool) {x : Nat} (hx : x < 4294967296) : MidOk inter (midN inter x) := by
  unfold MidOk midN Jo.modN
  cases inter <;> simp <;> omega
theorem less_any {w : World} {p : Nat} {inter : Bool} (h : w.cell? ⟨p, 0, none⟩ = some (.bool inter)) {a b : Nat} (ha : MidOk inter a) (hb : MidOk inter b) :
    Calls Try.prog 63 #[jptr p, .int .u32 (a : Int), .int .u32 (b : Int)] w fun e w' => e = .returned (.bool (ltB a b (Jo.modN inter))) ∧ w = w' := by
  cases inter
  · have ha := small16 ha
    have hb := small16 hb
    have ea : IntKind.u16.wrap (a : Int) = (a : Int) := by simp [IntKind.wrap, IntKind.bits, IntKind.signed]; omega
    have eb : IntKind.u16.wrap (b : Int) = (b : Int) := by simp [IntKind.wrap, IntKind.bits, IntKind.signed]; omega
    have hc := sshort_any a b w ha hb
    go_enter Try.func63, Try.ntmps63
    go_wp2_with (go_at_call 79; refine hc.mono ?_; rintro e w' ⟨rfl, rfl⟩)
    go_ret
    exact ⟨rfl, rfl⟩
  · have hc := sless_any a b w ha hb
    go_enter Try.func63, Try.ntmps63
    go_wp2_with (go_at_call 54; refine hc.mono ?_; rintro e w' ⟨rfl, rfl⟩)
    go_ret
    exact ⟨rfl, rfl⟩
def reachB (inter : Bool) (mid other : Nat) : Bool := decide (other = mid) || ltB other mid (Jo.modN inter)
theorem reaches_any {w : World} {p : Nat} {inter : Bool} (h : w.cell? ⟨p, 0, none⟩ = some (.bool inter)) {a b : Nat} (ha : MidOk inter a) (hb : MidOk inter b) :
    Calls Try.prog 39 #[jptr p, .int .u32 (a : Int), .int .u32 (b : Int)] w fun e w' => e = .returned (.bool (reachB inter a b)) ∧ w = w' := by
  have hc := less_any h hb ha
  unfold reachB
  by_cases e : b = a
  · subst e
    go_enter Try.func39, Try.ntmps39
    go_wp2
    go_ret
    exact ⟨ret_bool (by simp), rfl⟩
  · have h1 : ¬ ((b : Int) = (a : Int)) := by omega
    go_enter Try.func39, Try.ntmps39
    go_wp2_with (go_at_call 63; refine hc.mono ?_; rintro e w' ⟨rfl, rfl⟩)
    go_ret
    exact ⟨ret_bool (by simp [e, h1]), rfl⟩
end Go.Proofs.Ytioddokjogbmnaa.Chk

set_option linter.unusedVariables false
set_option linter.unusedSimpArgs false
set_option maxRecDepth 20000
namespace Go.Proofs.Ytioddokjogbmnaa.Chk
open Go.ChangeShapes Go.WideShapes Go.ChangeAt Go.RowKit Go.Deep Go.Maps Go.Proofs.Ytioddokjogbmnaa.Words Go.Proofs.Ytioddokjogbmnaa.Oct Go.Proofs.Ytioddokjogbmnaa.Par Go.Proofs.Ytioddokjogbmnaa.Mx
def extT (w w' : World) (T : Nat → Nat) (k : Nat) (i : Nat) : Nat := if i < w.heap.size then T i else if i < w'.heap.size then k else 0
structure Ext (w w' : World) (T T' : Nat → Nat) : Prop where
  old : ∀ i, i < w.heap.size → T' i = T i
  out : ∀ i, w'.heap.size ≤ i → T' i = 0
theorem extT_ext (w w' : World) (T : Nat → Nat) (k : Nat) (hs : w.heap.size ≤ w'.heap.size) : Ext w w' T (extT w w' T k) :=
  ⟨fun i hi => by unfold extT; rw [if_pos hi], fun i hi => by unfold extT; rw [if_neg (by omega), if_neg (by omega)]⟩
theorem extT_new {w w' : World} {T : Nat → Nat} {k i : Nat} (h1 : w.heap.size ≤ i) (h2 : i < w'.heap.size) : extT w w' T k i = k := by unfold extT; rw [if_neg (by omega), if_pos h2]
theorem Ext.trans {a b c : World} {T T' T'' : Nat → Nat} (h : Ext a b T T') (k : Ext b c T' T'') (hs : a.heap.size ≤ b.heap.size) : Ext a c T T'' := ⟨fun i hi => (k.old i (by omega)).trans (h.old i hi), k.out⟩
theorem Ext.refl {w : World} {T : Nat → Nat} (h : ∀ i, w.heap.size ≤ i → T i = 0) : Ext w w T T := ⟨fun _ _ => rfl, h⟩
/-- Nothing of the joiner's among what is new. -/
theorem Ext.same {w w' : World} {T : Nat → Nat} (h : ∀ i, w.heap.size ≤ i → T i = 0) (hs : w.heap.size ≤ w'.heap.size) : Ext w w' T T := ⟨fun _ _ => rfl, fun i hi => h i (by omega)⟩
/-- A body that is the joiner's own. -/
structure BodT (w : World) (T : Nat → Nat) (A : Option Addr) (cp : Nat) (l : List UInt8) : Prop where
  rd : Byt w w.heap.size A l
  le : l.length ≤ cp
  cap : cp ≤ 9223372036854775807
  own : ∀ ad, A = some ad → T ad.block = 5
theorem BodT.fr {S : Nat → Prop} {w w' : World} {T T' : Nat → Nat} {A : Option Addr} {cp : Nat} {l : List UInt8} (h : BodT w T A cp l) (hf : Fr S w w') (hS : ∀ i, i < w.heap.size → T i = 5 → ¬ S i) (he : ∀ i, i < w.heap.size → T' i = T i) (hne : l ≠ []) : BodT w' T' A cp l := by
  have h0 : 0 < l.length := by cases l with | nil => exact absurd rfl hne | cons _ _ => simp
  obtain ⟨ad, e, hlt, _⟩ := h.rd.2 h0
  refine ⟨(hf.byt h.rd (Nat.le_refl _) (fun a ha => ?_)).more hf.size, h.le, h.cap, fun a ha => ?_⟩
  · rw [e] at ha; injection ha with ha; subst ha
    exact hS _ hlt (h.own _ e)
  · rw [e] at ha; injection ha with ha; subst ha
    rw [he _ hlt]; exact h.own _ e
/-- A message in memory. -/
structure Mg where
  m : Msg
  A : Option Addr
  cp : Nat
def mgV (x : Mg) : Value := .agg (mCells x.m (.slice x.A x.m.body.length x.cp))
structure MgOk (w : World) (T : Nat → Nat) (x : Mg) : Prop where
  bod : BodT w T x.A x.cp x.m.body
  ne : x.m.body ≠ []
theorem MgOk.fr {S : Nat → Prop} {w w' : World} {T T' : Nat → Nat} {x : Mg} (h : MgOk w T x) (hf : Fr S w w') (hS : ∀ i, i < w.heap.size → T i = 5 → ¬ S i) (he : ∀ i, i < w.heap.size → T' i = T i) : MgOk w' T' x := ⟨h.bod.fr hf hS he h.ne, h.ne⟩
def JB (w : World) (p : Nat) (inter : Bool) (bl bo : Nat) (rv : Value) (h : Nat) : Prop := Blk w p 76 #[.bool inter, .map (some bl), .map (some bo), rv, .int .i64 (h : Int)]
section
variable {w w' : World} {p bl bo h h' : Nat} {inter : Bool} {rv rv' : Value} {S : Nat → Prop} {T T' : Nat → Nat}
theorem JB.c0 (k : JB w p inter bl bo rv h) : w.cell? ⟨p, 0, none⟩ = some (.bool inter) := Blk.cell k 0
theorem JB.c1 (k : JB w p inter bl bo rv h) : w.cell? ⟨p, 1, none⟩ = some (.map (some bl)) := Blk.cell k 1
theorem JB.c2 (k : JB w p inter bl bo rv h) : w.cell? ⟨p, 2, none⟩ = some (.map (some bo)) := Blk.cell k 2
theorem JB.c3 (k : JB w p inter bl bo rv h) : w.cell? ⟨p, 3, none⟩ = some rv := Blk.cell k 3
theorem JB.c4 (k : JB w p inter bl bo rv h) : w.cell? ⟨p, 4, none⟩ = some (.int .i64 (h : Int)) := Blk.cell k 4
theorem JB.fr (k : JB w p inter bl bo rv h) (hf : Fr S w w') (hp : ¬ S p) : JB w' p inter bl bo rv h := hf.blk k hp
theorem JB.ready (k : JB w p inter bl bo rv h) (v : Value) : JB (w.setCell ⟨p, 3, none⟩ v) p inter bl bo v h := Blk.set_ k 3 v
theorem JB.held (k : JB w p inter bl bo rv h) (n : Nat) : JB (w.setCell ⟨p, 4, none⟩ (.int .i64 (n : Int))) p inter bl bo rv n := Blk.set_ k 4 _
abbrev optr (b : Nat) : Value := .pointer (some ⟨b, 0, none⟩)
structure OrdAt (w : World) (T : Nat → Nat) (bo b wb st nx : Nat) (wait : List Jo.Ms) : Prop where
  tb : T b = 3
  twb : T wb = 3
  ne : wb ≠ bo
  blk : Blk w b 107 #[.int .u32 (nx : Int), .map (some wb)]
  ws : ∃ W : Nat → Option Mg, MapX u32X w wb (fun i => (W i).map mgV) ∧ (∀ i x, W i = some x → x.m.mid = i ∧ x.m.st = st ∧ msOf x.m ∈ wait ∧ MgOk w T x) ∧ ∀ m ∈ wait, m.st = st → ∃ x, W m.mid = some x ∧ msOf x.m = m
/-- The orders: Om: where a stream's lies, Wb: its map of what waits. -/
structure OrdR (w : World) (T : Nat → Nat) (bo : Nat) (inter : Bool) (Om : Nat → Option Nat) (Wb next : Nat → Nat) (wait : List Jo.Ms) : Prop where
  tbo : T bo = 3
  map : MapX u16X w bo (fun s => (Om s).map optr)
  ord : ∀ st b, Om st = some b → OrdAt w T bo b (Wb st) st (next st) wait
  none_ : ∀ st, Om st = none → next st = 0 ∧ ∀ m ∈ wait, m.st ≠ st
  inj : ∀ s s' b, Om s = some b → Om s' = some b → s = s'
  sep : ∀ s s' b b', Om s = some b → Om s' = some b' → Wb s = Wb s' → s = s'
  wok : ∀ m ∈ wait, m.lo = false ∧ MidOk inter m.mid ∧ m.st < 65536
  nx : ∀ st, MidOk inter (next st)
  wnd : wait.Pairwise (fun a b => ¬ (a.st = b.st ∧ a.mid = b.mid))
variable {Om : Nat → Option Nat} {Wb next : Nat → Nat} {wait : List Jo.Ms} {b wb st nx : Nat}
theorem OrdAt.fr (k : OrdAt w T bo b wb st nx wait) (hf : Fr S w w') (h3 : ¬ S b ∧ ¬ S wb) (h5 : ∀ i, i < w.heap.size → T i = 5 → ¬ S i) (he : ∀ i, i < w.heap.size → T' i = T i) : OrdAt w' T' bo b wb st nx wait := by
  obtain ⟨W, h1, h2, h4⟩ := k.ws
  exact ⟨by rw [he b k.blk.lt]; exact k.tb, by rw [he wb h1.lt]; exact k.twb, k.ne, hf.blk k.blk h3.1, W, h1.fr hf h3.2, fun i x hx => ⟨(h2 i x hx).1, (h2 i x hx).2.1, (h2 i x hx).2.2.1, (h2 i x hx).2.2.2.fr hf h5 he⟩, h4⟩
theorem OrdR.lt (k : OrdR w T bo inter Om Wb next wait) {st b : Nat} (h : Om st = some b) : b < w.heap.size := (k.ord st b h).blk.lt
theorem OrdR.wlt (k : OrdR w T bo inter Om Wb next wait) {st b : Nat} (h : Om st = some b) : Wb st < w.heap.size := by obtain ⟨W, h1, _⟩ := (k.ord st b h).ws; exact h1.lt
theorem OrdR.fr (k : OrdR w T bo inter Om Wb next wait) (hf : Fr S w w') (h3 : ∀ i, i < w.heap.size → T i = 3 → ¬ S i) (h5 : ∀ i, i < w.heap.size → T i = 5 → ¬ S i) (he : ∀ i, i < w.heap.size → T' i = T i) : OrdR w' T' bo inter Om Wb next wait :=
  ⟨by rw [he bo k.map.lt]; exact k.tbo, k.map.fr hf (h3 bo k.map.lt k.tbo), fun st b h => (k.ord st b h).fr hf ⟨h3 b (k.lt h) (k.ord st b h).tb, h3 _ (k.wlt h) (k.ord st b h).twb⟩ h5 he, k.none_, k.inj, k.sep, k.wok, k.nx, k.wnd⟩
theorem OrdR.dom (k : OrdR w T bo inter Om Wb next wait) {st b : Nat} (h : Om st = some b) : st < 65536 := by
  have := k.map.some_dom (x := st) (v := optr b) (by show (Om st).map optr = _; rw [h]; rfl)
  exact this
theorem order_ptr_zero (w : World) : (zeroValue 98).run Try.prog w = .ok (.pointer none) w := by kernel_rfl
theorem OrdR.look (k : OrdR w T bo inter Om Wb next wait) {st : Nat} (hst : st < 65536) :
    (Instr.lookup 73 (.map (some bo)) (.int .u16 (st : Int)) false).run Try.prog w = .ok (.pointer ((Om st).map fun b => ⟨b, 0, none⟩)) w := by
  have h1 := MapX.look k.map (t := 73) Try.underlying73 (order_ptr_zero w) (x := st) hst
  have e : (((Om st).map optr).getD (.pointer none)) = .pointer ((Om st).map fun b => ⟨b, 0, none⟩) := by cases Om st <;> rfl
  rw [e] at h1
  exact h1
/-- Blocks of orders are apart from maps of what waits. -/
theorem OrdR.ne (k : OrdR w T bo inter Om Wb next wait) {s s' b b' : Nat} (h : Om s = some b) (h' : Om s' = some b') : b ≠ Wb s' := fun e => by
  have h1 := (k.ord s b h).blk
  obtain ⟨W, ⟨⟨D, ⟨es, clock, hb, _⟩, _⟩, _⟩, _⟩ := (k.ord s' b' h').ws
  rw [← e] at hb
  unfold Blk at h1
  rw [h1] at hb
  cases hb
theorem OrdR.ne_bo (k : OrdR w T bo inter Om Wb next wait) {s b : Nat} (h : Om s = some b) : b ≠ bo := fun e => by
  have h1 := (k.ord s b h).blk
  obtain ⟨D, ⟨es, clock, hb, _⟩, _⟩ := k.map.ex
  rw [← e] at hb
  unfold Blk at h1
  rw [h1] at hb
  cases hb
end
end Go.Proofs.Ytioddokjogbmnaa.Chk

set_option linter.unusedVariables false
set_option linter.unusedSimpArgs false
set_option maxRecDepth 20000
namespace Go.Proofs.Ytioddokjogbmnaa.Chk
open Go.ChangeShapes Go.WideShapes Go.ChangeAt Go.RowKit Go.Deep Go.Maps Go.Proofs.Ytioddokjogbmnaa.Words Go.Proofs.Ytioddokjogbmnaa.Oct Go.Proofs.Ytioddokjogbmnaa.Par Go.Proofs.Ytioddokjogbmnaa.Mx
theorem run_append_room_at {P : Program} {w : World} (t ty e : TypeId) (i : TypeInfo) (ht : P.underlying t = some (.slice e)) (hi : P.info? e = some i)
    (g o sLen sCap : Nat) (cur : Array Value) (hg : w.heap[g]? = some (.cells cur e (0, 0)))
    (a : Addr) (m c : Nat) (news : List Value) (hl : news.length = m * i.size) (hnews : ∀ j u, news[j]? = some u → w.cell? (a.add j) = some u) (h1 : ∀ u ∈ news, u.oneCell' = true)
    (hroom : sLen + m ≤ sCap) (hfit : o + sLen * i.size + news.length ≤ cur.size) :
    (Builtin.append_ #[t, t] ty #[.slice (some ⟨g, o, none⟩) sLen sCap, .slice (some a) m c]).run P w =
      .ok (.slice (some ⟨g, o, none⟩) (sLen + m) sCap) (w.setRow g (cur.toList.take (o + sLen * i.size) ++ news ++ cur.toList.drop (o + sLen * i.size + news.length)).toArray) := by
  have hf := run_firstCells_some (P := P) w i.size m a m c news hl hnews
  have hst := run_storeCells_at P g (o + sLen * i.size) e news 0 cur w hg (by simpa using hfit) h1
  simp only [Nat.add_zero] at hst
  simp [Builtin.append_, run_underlying ht, sizeOf, typeInfo, hi, Builtin.lenOf, hroom, hf, Addr.add_lit, hst]
def mgCells (x : Mg) : List Value := [.int .u16 (x.m.st : Int), .bool x.m.lo, .int .u32 (x.m.mid : Int), .int .u32 (x.m.pp : Int), .slice x.A x.m.body.length x.cp]
theorem mgCells_len (x : Mg) : (mgCells x).length = 5 := rfl
theorem mgCells_one (x : Mg) : ∀ u ∈ mgCells x, u.oneCell' = true := fun u hu => by
  simp only [mgCells, List.mem_cons, List.not_mem_nil, or_false] at hu
  rcases hu with rfl | rfl | rfl | rfl | rfl <;> rfl
/-- Messages one behind the other in a row, from place o on. -/
def RowOf (cs : Array Value) (o : Nat) (xs : List Mg) : Prop := ∀ i x, xs[i]? = some x → ∀ j u, (mgCells x)[j]? = some u → cs[o + 5 * i + j]? = some u
def ReadyR (w : World) (T : Nat → Nat) (rv : Value) (xs : List Mg) : Prop :=
  (xs = [] ∧ rv = .slice none 0 0) ∨ ∃ g o c cs, rv = .slice (some ⟨g, o, none⟩) xs.length c ∧ xs ≠ [] ∧ Blk w g 43 cs ∧ T g = 4 ∧ o + 5 * c ≤ cs.size ∧ xs.length ≤ c ∧ c ≤ 9223372036854775807 ∧ RowOf cs o xs
section
variable {w w' : World} {T T' : Nat → Nat} {rv : Value} {xs : List Mg} {S : Nat → Prop}
theorem ReadyR.fr (h : ReadyR w T rv xs) (hf : Fr S w w') (h4 : ∀ i, i < w.heap.size → T i = 4 → ¬ S i) (he : ∀ i, i < w.heap.size → T' i = T i) : ReadyR w' T' rv xs := by
  rcases h with h | ⟨g, o, c, cs, h1, h2, h3, h4', h5, h6, h7, h8⟩
  · exact .inl h
  · exact .inr ⟨g, o, c, cs, h1, h2, hf.blk h3 (h4 g h3.lt h4'), by rw [he g h3.lt]; exact h4', h5, h6, h7, h8⟩
theorem ReadyR.form (h : ReadyR w T rv xs) : ∃ A c, rv = .slice A xs.length c ∧ xs.length ≤ c ∧ c ≤ 9223372036854775807 := by
  rcases h with ⟨rfl, rfl⟩ | ⟨g, o, c, cs, h1, h2, h3, h4', h5, h6, h7, h8⟩
  · exact ⟨none, 0, rfl, Nat.le_refl _, by omega⟩
  · exact ⟨_, c, h1, h6, h7⟩
theorem msg_info3 : (Try.prog.info? 43).map (fun i => (i.size, i.bytes)) = some (5, 40) := by kernel_rfl
theorem msg_zero5 : ((Try.prog.info? 43).bind fun i => i.zero.map fun z => z.cells.size) = some 5 := by kernel_rfl
theorem row_snoc {cs cs' : Array Value} {o : Nat} {x : Mg} (h : RowOf cs o xs) (h1 : ∀ k u, k < o + 5 * xs.length → cs[k]? = some u → cs'[k]? = some u) (h2 : ∀ j u, (mgCells x)[j]? = some u → cs'[o + 5 * xs.length + j]? = some u) : RowOf cs' o (xs ++ [x]) := fun i y hy j u hu => by
  have hj : j < 5 := by have := (List.getElem?_eq_some_iff.1 hu).1; rwa [mgCells_len] at this
  rcases Nat.lt_or_ge i xs.length with hi | hi
  · rw [List.getElem?_append_left hi] at hy
    exact h1 _ u (by omega) (h i y hy j u hu)
  · have hi2 : i = xs.length := by
      have := (List.getElem?_eq_some_iff.1 hy).1
      simp at this
      omega
    subst hi2
    rw [List.getElem?_append_right (Nat.le_refl _), Nat.sub_self] at hy
    simp only [List.getElem?_cons_zero, Option.some.injEq] at hy
    subst hy
    exact h2 j u hu
theorem ReadyR.append (h : ReadyR w T rv xs) (hl : xs.length ≤ 2000000001) {g1 : Nat} {x : Mg} (hx : Blk w g1 43 (mgCells x).toArray) (ty : TypeId) :
    ∃ v' w', (Builtin.append_ #[74, 74] ty #[rv, .slice (some ⟨g1, 0, none⟩) 1 1]).run Try.prog w = .ok v' w' ∧ ReadyR w' (extT w w' T 4) v' (xs ++ [x]) ∧ Fr (fun i => i < w.heap.size ∧ T i = 4) w w' := by
  obtain ⟨i0, hi0, hii⟩ := Option.map_eq_some_iff.1 msg_info3
  simp only [Prod.mk.injEq] at hii
  obtain ⟨his, hib⟩ := hii
  obtain ⟨z, hz, hzs⟩ : ∃ z, i0.zero = some z ∧ z.cells.size = 5 := by
    have := msg_zero5
    rw [hi0, Option.bind_some] at this
    cases hzz : i0.zero with
    | none => rw [hzz] at this; cases this
    | some z => rw [hzz] at this; simp at this; exact ⟨z, rfl, this⟩
  have hnews : ∀ j u, (mgCells x)[j]? = some u → w.cell? ((⟨g1, 0, none⟩ : Addr).add j) = some u := fun j u hu => by rw [hx.cellAdd]; simpa using hu
  have hne : xs ++ [x] ≠ [] := by simp
  rcases h with ⟨rfl, rfl⟩ | ⟨g, o, c, cs, rfl, h2, h3, h4', h5, h6, h7, h8⟩
  · have hr := run_append_nil (P := Try.prog) (w := w) 74 ty 43 i0 z Try.underlying74 hi0 hz ⟨g1, 0, none⟩ 1 1 (mgCells x) (by rw [mgCells_len, his]) hnews (by omega) (by omega) (by rw [hib]; omega)
    have hge := grownCap_ge w 1 0 43
    have hcm : grownCap w 1 0 43 ≤ maxLen := grownCap_le_maxLen w 1 0 _ (by unfold maxLen; omega)
    generalize grownCap w 1 0 43 = cap at hr hge hcm
    unfold maxLen at hcm
    refine ⟨_, _, hr, .inr ⟨w.heap.size, 0, cap, _, rfl, hne, (Blk.new w.drew _ _), ?_, ?_, hge, by omega, ?_⟩, ?_⟩
    · exact extT_new (Nat.le_refl _) (by simp)
    · rw [Array.size_append, size_zeroCells, hzs]
      simp only [List.size_toArray, mgCells_len]
      omega
    · refine row_snoc (xs := []) (cs := #[]) (fun i y hy => by simp at hy) (fun k u hk => by simp at hk) (fun j u hu => ?_)
      have hj : j < 5 := by have := (List.getElem?_eq_some_iff.1 hu).1; rwa [mgCells_len] at this
      simp only [List.length_nil, Nat.mul_zero, Nat.add_zero, Nat.zero_add]
      rw [Array.getElem?_append_left (by simp [mgCells_len]; omega)]
      simpa using hu
    · exact ((Fr.refl _ w).drew).alloc _
  · rcases Nat.lt_or_ge xs.length c with hc | hc
    · have hr := run_append_room_at (P := Try.prog) (w := w) 74 ty 43 i0 Try.underlying74 hi0 g o xs.length c cs h3 ⟨g1, 0, none⟩ 1 1 (mgCells x) (by rw [mgCells_len, his]) hnews (mgCells_one x) (by omega) (by rw [his, mgCells_len]; omega)
      rw [his, mgCells_len] at hr
      have hsz : ((cs.toList.take (o + xs.length * 5) ++ mgCells x ++ cs.toList.drop (o + xs.length * 5 + 5)).toArray).size = cs.size := by
        simp only [List.size_toArray, List.length_append, List.length_take, List.length_drop, Array.length_toList, mgCells_len]
        omega
      refine ⟨_, _, hr, .inr ⟨g, o, c, _, by rw [List.length_append]; rfl, hne, setRow_any h3, ?_, by rw [hsz]; exact h5, by rw [List.length_append]; show xs.length + 1 ≤ c; omega, h7, ?_⟩, (setRow_frM w g _).mono (fun i hi e => ⟨hi, by rw [e]; exact h4'⟩)⟩
      · unfold extT
        rw [if_pos h3.lt]
        exact h4'
      · refine row_snoc h8 (fun k u hk hu => ?_) (fun j u hu => ?_)
        · have htl : (cs.toList.take (o + xs.length * 5)).length = o + xs.length * 5 := by have := Array.length_toList (xs := cs); rw [List.length_take]; omega
          rw [List.getElem?_toArray, List.append_assoc, List.getElem?_append_left (by rw [htl]; omega), List.getElem?_take, if_pos (by omega)]
          simpa using hu
        · have hj : j < 5 := by have := (List.getElem?_eq_some_iff.1 hu).1; rwa [mgCells_len] at this
          have htl : (cs.toList.take (o + xs.length * 5)).length = o + xs.length * 5 := by have := Array.length_toList (xs := cs); rw [List.length_take]; omega
          rw [List.getElem?_toArray, List.append_assoc, List.getElem?_append_right (by rw [htl]; omega), htl, List.getElem?_append_left (by rw [mgCells_len]; omega)]
          rw [← hu]
          congr 1
          omega
    · have hc2 : c = xs.length := by omega
      subst hc2
      have holds : ∀ j v, ((cs.toList.drop o).take (xs.length * 5))[j]? = some v → w.cell? ((⟨g, o, none⟩ : Addr).add j) = some v := fun j v hv => by
        rw [List.getElem?_take] at hv
        split at hv
        · rw [List.getElem?_drop] at hv
          rw [Addr.add_lit]
          have := h3.cell (o + j)
          rw [this]
          simpa using hv
        · cases hv
      have hlo : ((cs.toList.drop o).take (xs.length * 5)).length = xs.length * i0.size := by
        have := Array.length_toList (xs := cs)
        rw [his, List.length_take, List.length_drop]
        omega
      have hr := run_append_grow (P := Try.prog) (w := w) 74 ty 43 i0 z Try.underlying74 hi0 hz ⟨g, o, none⟩ xs.length xs.length _ hlo holds ⟨g1, 0, none⟩ 1 1 (mgCells x) (by rw [mgCells_len, his]) hnews (by omega) (by omega) (growslice_fits (by omega) (by rw [hib]; omega))
      have hge := grownCap_ge w (xs.length + 1) xs.length 43
      have hcm : grownCap w (xs.length + 1) xs.length 43 ≤ maxLen := grownCap_le_maxLen w _ _ _ (by unfold maxLen; omega)
      generalize grownCap w (xs.length + 1) xs.length 43 = cap at hr hge hcm
      unfold maxLen at hcm
      rw [his] at hlo
      refine ⟨_, _, hr, .inr ⟨w.heap.size, 0, cap, _, by rw [List.length_append]; rfl, hne, (Blk.new w.drew _ _), ?_, ?_, by rw [List.length_append]; exact hge, by omega, ?_⟩, ?_⟩
      · exact extT_new (Nat.le_refl _) (by simp)
      · rw [Array.size_append, Array.size_append, size_zeroCells, hzs, List.size_toArray, List.size_toArray, hlo, mgCells_len]
        omega
      · refine row_snoc (cs := ((cs.toList.drop o).take (xs.length * 5)).toArray) (fun i y hy j u hu => ?_) (fun k u hk hu => ?_) (fun j u hu => ?_)
        · have hi : i < xs.length := (List.getElem?_eq_some_iff.1 hy).1
          have hj : j < 5 := by have := (List.getElem?_eq_some_iff.1 hu).1; rwa [mgCells_len] at this
          rw [List.getElem?_toArray, List.getElem?_take, if_pos (by omega), List.getElem?_drop]
          have := h8 i y hy j u hu
          rw [show o + (0 + 5 * i + j) = o + 5 * i + j by omega]
          simpa using this
        · have hk2 := (Array.getElem?_eq_some_iff.1 hu).1
          rw [Array.append_assoc, Array.getElem?_append_left hk2]
          exact hu
        · have hj : j < 5 := by have := (List.getElem?_eq_some_iff.1 hu).1; rwa [mgCells_len] at this
          rw [Array.append_assoc, Array.getElem?_append_right (by simp only [List.size_toArray, hlo]; omega), Array.getElem?_append_left (by simp only [List.size_toArray, mgCells_len, hlo]; omega)]
          rw [← hu, List.getElem?_toArray]
          congr 1
          simp only [List.size_toArray, hlo]
          omega
      · exact ((Fr.refl _ w).drew).alloc _
end
end Go.Proofs.Ytioddokjogbmnaa.Chk
