/-
  Package cookie: parted.
-/
import Derived.Test.YtmbgjijajakgeaaDoorCk3
import Derived.Test.YtmbgjijajakgeaaDoorStageT
import Derived.Test.YtmbgjijajakgeaaDoorMac14
set_option linter.unusedVariables false
set_option linter.unusedSimpArgs false
namespace Go.Proofs.YtmbgjijajakgeaaDoor.Cok
open Go.ChangeShapes Go.WideShapes Go.ChangeAt Go.RowKit Go.Proofs.YtmbgjijajakgeaaDoor.Words Go.Proofs.YtmbgjijajakgeaaDoor.Oct

/-- What Take hands out, what it leaves, whether the reader is bad then. -/
def tT (n : Nat) (l : List UInt8) : List UInt8 := if n ≤ l.length then l.take n else []
def tL (n : Nat) (l : List UInt8) : List UInt8 := if n ≤ l.length then l.drop n else []
def tB (n : Nat) (l : List UInt8) (b : Bool) : Bool := if n ≤ l.length then b else true
theorem rd_tk {w : World} {p G : Nat} {l : List UInt8} {bad : Bool} (n : Nat) (h : Rd w p G l bad) (hl : l.length ≤ 1000000) :
    Calls Tryd.prog 32 #[rptr p, .int .i64 (n : Int)] w fun e w' => ∃ v, e = .returned v ∧ Words.Own w' w.heap.size v (tT n l) ∧ Rd w' p G (tL n l) (tB n l bad) ∧ Fr (At p) w w' := by
  by_cases h2 : n ≤ l.length
  · refine (rd_take h h2 hl).mono ?_
    rintro e w' ⟨v, rfl, ho, hr, hf⟩
    refine ⟨v, rfl, ?_, ?_, hf⟩
    · rw [tT, if_pos h2]; exact ho
    · rw [tL, tB, if_pos h2, if_pos h2]; exact hr
  · refine (rd_take_no h (n := (n : Int)) (.inr (by omega))).mono ?_
    rintro e w' ⟨v, rfl, ho, hr, hf⟩
    refine ⟨v, rfl, ?_, ?_, hf⟩
    · rw [tT, if_neg h2]; exact ho
    · rw [tL, tB, if_neg h2, if_neg h2]; exact hr
theorem tT_le (n : Nat) (l : List UInt8) : (tT n l).length ≤ n ∧ (tT n l).length ≤ l.length := by
  unfold tT
  split
  · rw [List.length_take]; omega
  · simp
theorem tL_le (n : Nat) (l : List UInt8) : (tL n l).length ≤ l.length := by
  unfold tL
  split
  · rw [List.length_drop]; omega
  · simp
theorem copy_b32 {w : World} {g : Nat} {l : List UInt8} {a : Option Addr} {B n c : Nat} (hb : Blk w g 41 (Sha.V (Sha.Zb 32))) (hn : n = l.length) (h32 : n ≤ 32) (hr : Byt w B a l) :
    ∃ w', (∀ ty, (Builtin.copy_ #[22, 22] ty #[.slice (some ⟨g, 0, none⟩) 32 32, .slice a n c]).run Tryd.prog w = .ok (goInt (n : Int)) w') ∧ Blk w' g 41 (Sha.V (l ++ List.replicate (32 - l.length) 0)) ∧ Fr (fun k => k = g) w w' := by
  rcases Nat.eq_zero_or_pos n with h0 | h0
  · have hl : l = [] := List.eq_nil_of_length_eq_zero (by omega)
    subst hl h0
    exact ⟨w, fun ty => run_copy_none (P := Tryd.prog) w _ _ ty 5 _ a 32 32 0 c Tryd.underlying22 (by kernel_rfl) (by rfl), hb, Fr.refl _ _⟩
  · subst hn
    obtain ⟨ad, rfl, _, hc⟩ := hr.2 (by omega)
    have hl : (u8s l).length = Nat.min l.length 32 := by rw [u8s_length]; exact (Nat.min_eq_left h32).symm
    have h := fun ty => run_copy_row (P := Tryd.prog) w 22 22 ty 5 g 0 32 32 ad l.length c (Sha.V (Sha.Zb 32)) 41 (u8s l) Tryd.underlying22 (by kernel_rfl) hb hl hc (by rw [Sha.V_size, Sha.zb_length, u8s_length]; omega) (u8s_one _)
    have e : ((Sha.V (Sha.Zb 32)).toList.take 0 ++ u8s l ++ (Sha.V (Sha.Zb 32)).toList.drop (0 + (u8s l).length)).toArray = Sha.V (l ++ List.replicate (32 - l.length) 0) := by
      have e2 : List.replicate (32 - l.length) (0 : UInt8) = (Sha.Zb 32).drop l.length := by unfold Sha.Zb; rw [List.drop_replicate]
      rw [e2]
      simp only [Sha.V, List.take_zero, List.nil_append, Nat.zero_add, u8s_length]
      rw [u8s_append, u8s_drop]
    rw [e, u8s_length] at h
    refine ⟨_, h, setRow_heap _ _ _ _ _ _ hb, ⟨rfl, rfl, rfl, by simp [World.setRow], fun k hk hne => setRow_other w g k _ hne⟩⟩
theorem res_part {fn : Func} {t p u : Tmp} (h : fn.results = #[.tmp t, .cell p 41, .tmp u]) (tmps : Array Value) (w : World) (g : Nat) (l : List UInt8) (hp : tmps.getD p undef = .pointer (some ⟨g, 0, none⟩)) (hl : l.length = 32) (hb : Blk w g 41 (Sha.V l)) :
    (results fn tmps).run Tryd.prog w = .ok (.tuple #[tmps.getD t undef, .agg (Sha.V l), tmps.getD u undef]) w := by
  have h2 := run_loadVar_row (P := Tryd.prog) w g 41 41 (Sha.V l) (0, 0) _ hb Tryd.underlying41 rfl (by rw [Sha.V_size, hl]; exact Sha.size_b32)
  have hp2 : tmps[p]?.getD undef = .pointer (some ⟨g, 0, none⟩) := by simpa using hp
  simp only [results, h]
  simp [Sem.run_bind, Result.andThen, hp2, asAddr, h2]
/-- Where parted stands. -/
structure PSt (w V : World) (p G N : Nat) (l : List UInt8) (bad : Bool) (v7 : Value) (t0 : List UInt8) (cur r : List UInt8) : Prop where
  rd : Rd V p G l bad
  sl : Blk V (N + 1) 41 (Sha.V cur)
  res : Blk V N 41 (Sha.V r)
  own : Words.Own V (N + 2) v7 t0
  below : Below N w V
  nw : N ≤ w.heap.size
  ge : N + 2 ≤ G
theorem rd_ne {V : World} {p G B : Nat} {l t : List UInt8} {bad : Bool} {v : Value} (h : Rd V p G l bad) (ho : Words.Own V B v t) : v.ownBlock ≠ some p := by
  obtain ⟨A, c, hb, _⟩ := h.ex
  exact own_blk_ne ho hb (by decide)
theorem PSt.step {w V V' : World} {p G N : Nat} {l l' : List UInt8} {bad bad' : Bool} {v7 : Value} {t0 cur r : List UInt8} (h : PSt w V p G N l bad v7 t0 cur r) (hr : Rd V' p G l' bad') (hf : Fr (At p) V V') : PSt w V' p G N l' bad' v7 t0 cur r := by
  have h1 := h.rd.le
  have h2 := h.ge
  refine ⟨hr, hf.blk h.sl (fun e => ?_), hf.blk h.res (fun e => ?_), hf.own h.own (fun g hg e => rd_ne h.rd h.own (by rw [hg]; exact congrArg some e)), below_fr h.below hf h.nw (fun x hx => ?_), h.nw, h.ge⟩
  · have : N + 1 = p := e
    omega
  · have : N = p := e
    omega
  · have : x = p := hx
    omega
theorem PSt.drew {w V : World} {p G N : Nat} {l : List UInt8} {bad : Bool} {v7 : Value} {t0 cur r : List UInt8} (h : PSt w V p G N l bad v7 t0 cur r) : PSt w V.drew p G N l bad v7 t0 cur r :=
  h.step (h.rd.drewN 1) (Fr.drew (Fr.refl _ _))
theorem PSt.sealed {w V V' : World} {p G N : Nat} {l : List UInt8} {bad : Bool} {v7 : Value} {t0 cur cur' r : List UInt8} (h : PSt w V p G N l bad v7 t0 cur r) (hb : Blk V' (N + 1) 41 (Sha.V cur')) (hf : Fr (fun k => k = N + 1) V V') : PSt w V' p G N l bad v7 t0 cur' r := by
  have h1 := h.rd.le
  have h2 := h.ge
  refine ⟨h.rd.fr hf (fun e => ?_) (fun e => ?_), hb, hf.blk h.res (fun e => ?_), hf.own h.own (fun g hg e => ?_), below_fr h.below hf h.nw (fun x hx => ?_), h.nw, h.ge⟩
  · have : p = N + 1 := e
    omega
  · have : G = N + 1 := e
    omega
  · have : N = N + 1 := e
    omega
  · have h3 := (h.own.lt g hg).1
    have : g = N + 1 := e
    omega
  · have : x = N + 1 := hx
    omega
theorem PSt.stored {w V : World} {p G N : Nat} {l : List UInt8} {bad : Bool} {v7 : Value} {t0 cur r r' : List UInt8} (h : PSt w V p G N l bad v7 t0 cur r) : PSt w (V.setRow N (Sha.V r')) p G N l bad v7 t0 cur r' := by
  have h1 := h.rd.le
  have h2 := h.ge
  have hf : Fr (fun k => k = N) V (V.setRow N (Sha.V r')) := ⟨rfl, rfl, rfl, by simp [World.setRow], fun k hk hne => setRow_other V N k _ hne⟩
  refine ⟨h.rd.fr hf (fun e => ?_) (fun e => ?_), hf.blk h.sl (fun e => ?_), setRow_heap _ _ _ _ _ _ h.res, hf.own h.own (fun g hg e => ?_), below_fr h.below hf h.nw (fun x hx => ?_), h.nw, h.ge⟩
  · have : p = N := e
    omega
  · have : G = N := e
    omega
  · have : N + 1 = N := e
    omega
  · have h3 := (h.own.lt g hg).1
    have : g = N := e
    omega
  · have : x = N := hx
    omega
/-- A row that was taken. -/
def Tk (B p : Nat) (t : List UInt8) (v : Value) (V : World) : Prop := Words.Own V B v t ∧ v.ownBlock ≠ some p
theorem Tk.lasts {B p : Nat} {t : List UInt8} {v : Value} {V V' : World} (h : Tk B p t v V) (k : Fr (At p) V V') : Tk B p t v V' :=
  ⟨k.own h.1 (fun g hg e => h.2 (by rw [hg]; exact congrArg some e)), h.2⟩
/-- What parted answers. -/
def PartDone (w : World) (l : List UInt8) (e : Ending) (w' : World) : Prop :=
  ∃ (v : Value) (s : List UInt8) (err : Int), e = .returned (.tuple #[v, .agg (Sha.V s), .int .i64 err]) ∧ s.length = 32 ∧ Below w.heap.size w w' ∧
    (l.length = 70 → err = 0 ∧ Words.Own w' w.heap.size v (l.take 38) ∧ s = l.drop 38) ∧ (l.length < 70 → err = 40) ∧ (70 < l.length → err = 41)
theorem ends (l : List UInt8) : (l.length = 70 → endOf (tL 32 (tL 38 l)) (tB 32 (tL 38 l) (tB 38 l false)) = 0 ∧ tT 38 l = l.take 38 ∧ tT 32 (tL 38 l) = l.drop 38) ∧ (l.length < 70 → endOf (tL 32 (tL 38 l)) (tB 32 (tL 38 l) (tB 38 l false)) = 40) ∧ (70 < l.length → endOf (tL 32 (tL 38 l)) (tB 32 (tL 38 l) (tB 38 l false)) = 41) := by
  have eF : ∀ x : List UInt8, endOf x false = if x.length = 0 then 0 else 41 := fun x => rfl
  have eT : ∀ x : List UInt8, endOf x true = 40 := fun x => rfl
  by_cases h38 : 38 ≤ l.length
  · have e1 : tT 38 l = l.take 38 ∧ tL 38 l = l.drop 38 ∧ tB 38 l false = false := by simp only [tT, tL, tB, if_pos h38, and_self]
    rw [e1.1, e1.2.1, e1.2.2]
    by_cases h70 : 70 ≤ l.length
    · have h32 : 32 ≤ (l.drop 38).length := by rw [List.length_drop]; omega
      have e2 : tT 32 (l.drop 38) = (l.drop 38).take 32 ∧ tL 32 (l.drop 38) = (l.drop 38).drop 32 ∧ tB 32 (l.drop 38) false = false := by simp only [tT, tL, tB, if_pos h32, and_self]
      rw [e2.1, e2.2.1, e2.2.2, eF, List.length_drop, List.length_drop]
      exact ⟨fun h => ⟨if_pos (by omega), rfl, List.take_of_length_le (by rw [List.length_drop]; omega)⟩, fun h => by omega, fun h => if_neg (by omega)⟩
    · have h32 : ¬ 32 ≤ (l.drop 38).length := by rw [List.length_drop]; omega
      have e2 : tB 32 (l.drop 38) false = true := by simp only [tB, if_neg h32]
      rw [e2, eT]
      exact ⟨fun h => by omega, fun _ => rfl, fun h => by omega⟩
  · have e1 : tL 38 l = [] ∧ tB 38 l false = true := by simp only [tL, tB, if_neg h38, and_self]
    rw [e1.1, e1.2]
    have e2 : tB 32 ([] : List UInt8) true = true := rfl
    rw [e2, eT]
    exact ⟨fun h => by omega, fun _ => rfl, fun h => by omega⟩
set_option maxRecDepth 20000 in
set_option maxHeartbeats 4000000 in
theorem parted_any {A : Option Addr} {n c : Nat} {l : List UInt8} {w : World} (hn : n = l.length) (hl : n ≤ 1000) (h : Byt w w.heap.size A l) :
    Calls Tryd.prog 15 #[.slice A n c] w (PartDone w l) := by
  obtain ⟨N, hN⟩ : ∃ N, N = w.heap.size := ⟨_, rfl⟩
  obtain ⟨W1, hW1⟩ : ∃ W, W = (w.alloc (.cells (Sha.V (Sha.Zb 32)) 41)).alloc (.cells (Sha.V (Sha.Zb 32)) 41) := ⟨_, rfl⟩
  have hb1 : Below w.heap.size w W1 := by rw [hW1]; exact ((Below.refl _ _).alloc (Nat.le_refl _) _).alloc (by simp) _
  have hs1 : W1.heap.size = N + 2 := by rw [hW1, hN]; simp
  have HB0 : Hid (Blk W1 N 41 (Sha.V (Sha.Zb 32))) := by show Blk _ _ _ _; rw [hW1, hN]; exact (Blk.new w _ _).alloc _
  have HB1 : Hid (Blk W1 (N + 1) 41 (Sha.V (Sha.Zb 32))) := by
    show Blk _ _ _ _
    rw [hW1, hN]
    simpa using Blk.new (w.alloc (.cells (Sha.V (Sha.Zb 32)) 41)) 41 (Sha.V (Sha.Zb 32))
  have HNR := Lib.hid (newReader_any A l n c W1 hn (by omega) ((h.below hb1).more (by rw [hs1, hN]; omega)))
  have HBE : Hid (Below N w W1) := by rw [hN]; exact hb1
  have HNW : Hid (N ≤ w.heap.size) := by show _ ≤ _; omega
  have HN := Lib.hid hN
  have HW1 := Lib.hid hW1
  have HS1 := Lib.hid hs1
  have HL : Hid (l.length ≤ 1000) := by rw [← hn]; exact hl
  have HE := Lib.hid (ends l)
  clear h hb1 hs1 hN hW1 hn hl
  go_enter Tryd.func15, Tryd.ntmps15
  go_upto_region 2 with (with_reducible refine Sha.wpList_alloc_run _ rfl 41 rfl (Sha.alloc_b32 _) ?_)
  have hz : (w.alloc (.cells (Sha.V (Sha.Zb 32)) 41)).heap.size = N + 1 := by rw [HN.out]; simp
  rw [hz, ← HW1.out, ← HN.out]
  clear hz
  clear HW1
  go_wp2_with fail
  refine HNR.out.mono ?_
  rintro e W2 ⟨p, G, rfl, hrd, hG, hb2⟩
  have HR2 := Lib.hid hrd
  have HB2 : Hid (Blk W2 N 41 (Sha.V (Sha.Zb 32)) ∧ Blk W2 (N + 1) 41 (Sha.V (Sha.Zb 32)) ∧ Below N w W2 ∧ N + 2 ≤ G) :=
    ⟨HB0.out.below hb2 (by have := HS1.out; omega), HB1.out.below hb2 (by have := HS1.out; omega), HBE.out.trans (hb2.mono (by have := HS1.out; omega)), by have := HS1.out; omega⟩
  have HC := Lib.hid (rd_tk 38 hrd (by have := HL.out; omega))
  clear hrd hG hb2 HNR HB0 HB1 HBE
  go_wp2_with fail
  refine HC.out.mono ?_
  rintro e W3 ⟨v7, rfl, ho, hr, hf⟩
  obtain ⟨t0, ht0⟩ : ∃ t, t = tT 38 l := ⟨_, rfl⟩
  obtain ⟨l1, hl1⟩ : ∃ t, t = tL 38 l := ⟨_, rfl⟩
  obtain ⟨b1, hb1⟩ : ∃ t, t = tB 38 l false := ⟨_, rfl⟩
  rw [← ht0] at ho
  rw [← hl1, ← hb1] at hr
  have HS3 : Hid (PSt w W3 p G N l1 b1 v7 t0 (Sha.Zb 32) (Sha.Zb 32)) := by
    have h1 := HR2.out.le
    have h2 := HB2.out.2.2.2
    refine ⟨hr, hf.blk HB2.out.2.1 (fun e => ?_), hf.blk HB2.out.1 (fun e => ?_), own_mono ho (by have := HR2.out.lt; omega), below_fr HB2.out.2.2.1 hf HNW.out (fun x hx => ?_), HNW.out, h2⟩
    · have : N + 1 = p := e
      omega
    · have : N = p := e
      omega
    · have : x = p := hx
      omega
  have hl1b : l1.length ≤ 1000 := by rw [hl1]; exact Nat.le_trans (tL_le _ _) HL.out
  obtain ⟨t1, ht1⟩ : ∃ t, t = tT 32 l1 := ⟨_, rfl⟩
  obtain ⟨l2, hl2⟩ : ∃ t, t = tL 32 l1 := ⟨_, rfl⟩
  obtain ⟨b2, hb2⟩ : ∃ t, t = tB 32 l1 b1 := ⟨_, rfl⟩
  have ht1b : t1.length ≤ 32 := by rw [ht1]; exact (tT_le _ _).1
  have HT1 : Hid (t1.length ≤ 32) := ht1b
  have HCT : Hid (∀ V, Hid (PSt w V p G N l1 b1 v7 t0 (Sha.Zb 32) (Sha.Zb 32)) → Calls Tryd.prog 32 #[rptr p, .int .i64 ((32 : Nat) : Int)] V fun e w' => ∃ v, e = .returned v ∧ Tk (N + 2) p t1 v w' ∧ Hid (PSt w w' p G N l2 b2 v7 t0 (Sha.Zb 32) (Sha.Zb 32)) ∧ Fr (At p) V w') := by
    intro V hV
    refine (rd_tk 32 hV.out.rd (by omega)).mono ?_
    rintro e w' ⟨v, rfl, ho, hr, hf⟩
    rw [← ht1] at ho
    rw [← hl2, ← hb2] at hr
    have h1 := hV.out.rd.lt
    have h2 := hV.out.rd.le
    have h3 := hV.out.ge
    exact ⟨v, rfl, ⟨own_mono ho (by omega), fun e => by have := (ho.lt p e).1; omega⟩, hV.out.step hr hf, hf⟩
  have HD : Hid (endOf l2 b2 = endOf (tL 32 (tL 38 l)) (tB 32 (tL 38 l) (tB 38 l false)) ∧ t0 = tT 38 l ∧ t1 = tT 32 (tL 38 l)) := by
    show _ ∧ _
    rw [hl2, hb2, ht0, ht1, hl1, hb1]
    exact ⟨rfl, rfl, rfl⟩
  clear ho hr hf HR2 HB2 HC ht0 hl1 hb1 hl1b ht1 hl2 hb2 ht1b
  go_wp2_with fail
  have HST : Hid (PSt w W3.drew p G N l1 b1 v7 t0 (Sha.Zb 32) (Sha.Zb 32)) := HS3.out.drew
  clear HS3
  refine wp_region_stage_tail 3 (fun _ => Fr (At p)) (fun m V => Hid (PSt w V p G N (if m = 0 then l1 else l2) (if m = 0 then b1 else b2) v7 t0 (Sha.Zb 32) (Sha.Zb 32))) [(false, .exact (.slice (some ⟨N + 1, 0, none⟩) 32 32)),
      (false, .exact (rptr p)),
      (true, .grows (Tk (N + 2) p t1))] (by kernel_rfl) (by kernel_rfl) (by kernel_rfl) rfl (of_decide_eq_true (by kernel_rfl)) (by kernel_rfl) (by kernel_rfl) ?lasts ?start ?walk
  case lasts => exact ⟨fun m v V V' _ h k => h.lasts k, trivial⟩
  case start => exact HST
  case walk =>
    simp only [List.take_succ_cons, List.take_zero, List.drop_succ_cons, List.drop_zero]
    refine stageT_pure rfl (fun _ V => Fr.refl _ _) (fun V m hS hl => by exact Sha.exec_slice rfl rfl (Sha.slice_all32 (N + 1) V)) ?_
    simp only [Act.put, List.setIfInBounds_toArray, List.set_cons_zero, List.set_cons_succ, List.cons_append, List.nil_append]
    refine stageT_pure rfl (fun _ V => Fr.refl _ _) (fun V m hS hl => by go_simp) ?_
    simp only [Act.put, List.setIfInBounds_toArray, List.set_cons_zero, List.set_cons_succ, List.cons_append, List.nil_append]
    refine stageT_move_grows rfl (fun V hS hl => by
        go_simp
        refine (HCT.out V hS).mono ?_
        rintro e V' ⟨v, rfl, h1, h2, h3⟩
        exact ⟨_, rfl, h3, h1, h2⟩) (fun v14 => ?_)
    simp only [Act.put, List.setIfInBounds_toArray, List.set_cons_zero, List.set_cons_succ, List.cons_append, List.nil_append]
    refine stageT_nil (fun V2 hS hF => ?_)
    have hF2 : Tk (N + 2) p t1 v14 V2 ∧ True := hF
    have HS4 : Hid (PSt w V2 p G N l2 b2 v7 t0 (Sha.Zb 32) (Sha.Zb 32)) := hS
    obtain ⟨A5, c5, rfl, _, _⟩ := own_slice hF2.1.1
    obtain ⟨n5, hn5⟩ : ∃ n5, n5 = t1.length := ⟨_, rfl⟩
    obtain ⟨W5, hcp, hbk, hfr⟩ := copy_b32 (c := c5) HS4.out.sl hn5 (by rw [hn5]; exact HT1.out) (Words.Own.byt hF2.1.1)
    obtain ⟨cur, hcur⟩ : ∃ cur, cur = t1 ++ List.replicate (32 - t1.length) 0 := ⟨_, rfl⟩
    rw [← hcur] at hbk
    have HS5 : Hid (PSt w W5 p G N l2 b2 v7 t0 cur (Sha.Zb 32)) := HS4.out.sealed hbk hfr
    have HCL : Hid (cur.length = 32) := by show _ = _; rw [hcur, List.length_append, List.length_replicate]; have := HT1.out; omega
    have HCU := Lib.hid hcur
    rw [← hn5]
    clear hS hF hF2 hn5 hbk hfr hcur HST HCT HS4
    show wpList _ _ _ _ _ _
    go_wp2_with fail
    clear hcp
    have HST : Hid (PSt w W5.drew p G N l2 b2 v7 t0 cur (Sha.Zb 32)) := HS5.out.drew
    clear HS5
    obtain ⟨err, herr⟩ : ∃ e, e = endOf l2 b2 := ⟨_, rfl⟩
    have HER := Lib.hid herr
    clear herr
    refine wp_region_stage (fun V V' => V.heap.size ≤ V'.heap.size) (fun m V => Hid (PSt w V p G N l2 b2 v7 t0 cur (if m = 0 then Sha.Zb 32 else cur))) [(false, .exact (v7)),
        (false, .exact (.agg (Sha.V cur))),
        (false, .exact (rptr p)),
        (false, .exact (.int .i64 err)),
        (false, .exact (v7)),
        (true, .exact (undef)),
        (false, .exact (.int .i64 err))] (by kernel_rfl) (by kernel_rfl) (by kernel_rfl) rfl ?lasts ?start ?walk
    case lasts => exact trivial
    case start => exact HST
    case walk =>
      refine stage_pure rfl (fun V => Nat.le_refl _) (fun V m hS hl => by go_simp) ?_
      simp only [Act.put, List.setIfInBounds_toArray, List.set_cons_zero, List.set_cons_succ, List.cons_append, List.nil_append]
      refine stage_pure rfl (fun V => Nat.le_refl _) (fun V m hS hl => by exact Sha.exec_load rfl rfl (Sha.load_b32 hS.out.sl HCL.out)) ?_
      simp only [Act.put, List.setIfInBounds_toArray, List.set_cons_zero, List.set_cons_succ, List.cons_append, List.nil_append]
      refine stage_pure rfl (fun V => Nat.le_refl _) (fun V m hS hl => by go_simp) ?_
      simp only [Act.put, List.setIfInBounds_toArray, List.set_cons_zero, List.set_cons_succ, List.cons_append, List.nil_append]
      refine stage_exact rfl (fun V m hS hl => by
          go_simp
          refine (rd_end hS.out.rd).mono ?_
          rintro e V' ⟨rfl, rfl⟩
          exact ⟨_, rfl, Nat.le_refl _, by rw [HER.out], hS⟩) ?_
      simp only [Act.put, List.setIfInBounds_toArray, List.set_cons_zero, List.set_cons_succ, List.cons_append, List.nil_append]
      refine stage_pure rfl (fun V => Nat.le_refl _) (fun V m hS hl => by go_simp) ?_
      simp only [Act.put, List.setIfInBounds_toArray, List.set_cons_zero, List.set_cons_succ, List.cons_append, List.nil_append]
      refine stage_move rfl (fun V hS hl => by
          rw [Sha.exec_store32 rfl rfl rfl hS.out.res HCL.out (Sha.zb_length 32)]
          exact ⟨by simp [World.setRow], rfl, hS.out.stored⟩) ?_
      simp only [Act.put, List.setIfInBounds_toArray, List.set_cons_zero, List.set_cons_succ, List.cons_append, List.nil_append]
      refine stage_pure rfl (fun V => Nat.le_refl _) (fun V m hS hl => by go_simp) ?_
      simp only [Act.put, List.setIfInBounds_toArray, List.set_cons_zero, List.set_cons_succ, List.cons_append, List.nil_append]
      refine stage_nil (fun V3 hS hF => ?_)
      have HS6 : Hid (PSt w V3 p G N l2 b2 v7 t0 cur cur) := hS
      clear hS hF HST
      go_wp2_with fail
      (try simp only [Exit.inBlock, Exit.then])
      refine bodyPost_ret (res_part rfl _ _ N cur rfl HCL.out HS6.out.res) rfl ?_
      refine ⟨v7, cur, err, rfl, HCL.out, ?_, fun h70 => ?_, fun h70 => ?_, fun h70 => ?_⟩
      · rw [← HN.out]; exact HS6.out.below
      · obtain ⟨e1, e2, e3⟩ := HE.out.1 h70
        obtain ⟨d1, d2, d3⟩ := HD.out
        refine ⟨by rw [HER.out, d1, e1], ?_, ?_⟩
        · rw [← e2, ← d2, ← HN.out]
          exact own_mono HS6.out.own (by omega)
        · rw [HCU.out, d3, e3, List.length_drop, h70]
          simp
      · rw [HER.out, HD.out.1]; exact HE.out.2.1 h70
      · rw [HER.out, HD.out.1]; exact HE.out.2.2 h70
end Go.Proofs.YtmbgjijajakgeaaDoor.Cok
