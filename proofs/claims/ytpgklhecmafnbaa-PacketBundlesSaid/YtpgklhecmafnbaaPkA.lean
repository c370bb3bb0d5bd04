/-
  PkPlain, Pk1, Pk2, Pk3, Pk5, Pk6, PkGot, Pk8, Pk9, PkPass, in one text.
-/
import Derived.Test.YtpgklhecmafnbaaChGt
import Derived.Test.YtpgklhecmafnbaaCrcPlain
import Derived.Test.YtpgklhecmafnbaaChLaw
import Derived.Test.YtpgklhecmafnbaaCks
import Derived.BigQuiet
import Derived.Test.YtpgklhecmafnbaaChRf1
import Derived.Test.YtpgklhecmafnbaaChRf2
import Derived.Test.YtpgklhecmafnbaaStage
import Derived.Test.YtpgklhecmafnbaaCrcSeal
import Derived.Great.BuildSlice
import Derived.Test.YtpgklhecmafnbaaChRf5
import Derived.Test.YtpgklhecmafnbaaChBr
set_option linter.unusedVariables false
set_option linter.unusedSimpArgs false

namespace Go.Proofs.Ytpgklhecmafnbaa.Chk
open Go.RowKit Go.Proofs.Ytpgklhecmafnbaa.Words Go.Proofs.Ytpgklhecmafnbaa.Oct Go.Proofs.Ytpgklhecmafnbaa.Par
open Go.Proofs.Ytpgklhecmafnbaa.Crc (sealL)

/-! ### which chunks -/
def aloneK (k : Nat) : Bool := k == 1 || k == 2 || k == 14
def anyAlone (ls : List Ck) : Bool := ls.any fun c => aloneK c.kind
def fitsL (ls : List Ck) : Bool := decide (1 ≤ ls.length) && decide (ls.length ≤ 64) && (decide (ls.length = 1) || !anyAlone ls)
theorem fitsL_iff {ls : List Ck} : fitsL ls = true ↔ 1 ≤ ls.length ∧ ls.length ≤ 64 ∧ (ls.length = 1 ∨ anyAlone ls = false) := by
  unfold fitsL
  simp only [Bool.and_eq_true, Bool.or_eq_true, decide_eq_true_eq, Bool.not_eq_true']
  exact ⟨fun ⟨⟨a, b⟩, c⟩ => ⟨a, b, c⟩, fun ⟨a, b, c⟩ => ⟨⟨a, b⟩, c⟩⟩
def sumC (ls : List Ck) : Nat := (ls.map fun c => 4 + sizeC c).sum
theorem sumC_snoc (ls : List Ck) (c : Ck) : sumC (ls ++ [c]) = sumC ls + (4 + sizeC c) := by simp [sumC]
theorem sumC_nil : sumC [] = 0 := rfl
theorem sumC_cons (c : Ck) (ls : List Ck) : sumC (c :: ls) = 4 + sizeC c + sumC ls := by simp [sumC]
theorem sumC_mem {ls : List Ck} {c : Ck} (h : c ∈ ls) : 4 + sizeC c ≤ sumC ls := by
  induction ls with
  | nil => simp at h
  | cons d r ih =>
    rw [sumC_cons]
    rcases List.mem_cons.1 h with rfl | h
    · omega
    · have := ih h; omega
theorem sumC_len (ls : List Ck) : 4 * ls.length ≤ sumC ls := by
  induction ls with
  | nil => simp
  | cons d r ih => rw [sumC_cons, List.length_cons]; omega
theorem small_size {c : Ck} (h : sizeC c ≤ 400000) : Small c := by
  unfold sizeC at h
  exact ⟨by omega, by omega, by omega⟩

/-! ### the bytes -/
def bodyB (ls : List Ck) : List UInt8 := (ls.map bytesC).flatten
theorem bodyB_nil : bodyB [] = [] := rfl
theorem bodyB_cons (c : Ck) (ls : List Ck) : bodyB (c :: ls) = bytesC c ++ bodyB ls := by simp [bodyB]
theorem bodyB_snoc (ls : List Ck) (c : Ck) : bodyB (ls ++ [c]) = bodyB ls ++ bytesC c := by simp [bodyB]
def AllPuts (ls : List Ck) : Prop := ∀ c ∈ ls, Puts c
/-- The first chunk that has no bytes, and its error. -/
def BadL (ls : List Ck) (k : Nat) : Prop := ∃ a c b, ls = a ++ c :: b ∧ AllPuts a ∧ PutErr c k
theorem err_one' {c : Ck} {k k' : Nat} (h : PutErr c k) (h' : PutErr c k') : k = k' := by
  rcases h with ⟨rfl, a⟩ | ⟨rfl, a, b⟩ | ⟨rfl, a, b, d⟩ <;> rcases h' with ⟨rfl, a'⟩ | ⟨rfl, a', b'⟩ | ⟨rfl, a', b', d'⟩ <;> first | rfl | (simp_all)
theorem err_puts' {c : Ck} {k : Nat} (h : PutErr c k) (p : Puts c) : False := by
  rcases h with ⟨rfl, a⟩ | ⟨rfl, a, b⟩ | ⟨rfl, a, b, d⟩
  · rw [p.known] at a; cases a
  · rw [p.full] at b; cases b
  · exact p.short d
theorem err_pos' {c : Ck} {k : Nat} (h : PutErr c k) : k ≠ 0 ∧ k ≤ 100 := by rcases h with ⟨rfl, _⟩ | ⟨rfl, _⟩ | ⟨rfl, _⟩ <;> decide
theorem bad_all {ls : List Ck} {k : Nat} (h : BadL ls k) (p : AllPuts ls) : False := by
  obtain ⟨a, c, b, rfl, _, he⟩ := h
  exact err_puts' he (p c (by simp))
theorem bad_one : ∀ {ls : List Ck} {k k' : Nat}, BadL ls k → BadL ls k' → k = k'
  | [], _, _, ⟨a, c, b, h, _, _⟩, _ => by simp at h
  | d :: r, k, k', ⟨a, c, b, h, ha, he⟩, ⟨a', c', b', h', ha', he'⟩ => by
    cases a with
    | nil =>
      cases a' with
      | nil =>
        simp only [List.nil_append, List.cons.injEq] at h h'
        rw [← h.1] at he
        rw [← h'.1] at he'
        exact err_one' he he'
      | cons x a' =>
        simp only [List.nil_append, List.cons_append, List.cons.injEq] at h h'
        rw [← h.1] at he
        exact (err_puts' he (by rw [h'.1]; exact ha' x (by simp))).elim
    | cons x a =>
      cases a' with
      | nil =>
        simp only [List.nil_append, List.cons_append, List.cons.injEq] at h h'
        rw [← h'.1] at he'
        exact (err_puts' he' (by rw [h.1]; exact ha x (by simp))).elim
      | cons x' a' =>
        simp only [List.cons_append, List.cons.injEq] at h h'
        exact bad_one ⟨a, c, b, h.2, fun y hy => ha y (by simp [hy]), he⟩ ⟨a', c', b', h'.2, fun y hy => ha' y (by simp [hy]), he'⟩
/-- What Put answers: the error, the bytes. -/
def PutP (hd : List UInt8) (ls : List Ck) (kk : Nat) (l : List UInt8) : Prop :=
  (fitsL ls = false ∧ kk = 42 ∧ l = []) ∨ (fitsL ls = true ∧ BadL ls kk ∧ l = []) ∨ (fitsL ls = true ∧ AllPuts ls ∧ 1188 < (bodyB ls).length ∧ kk = 43 ∧ l = []) ∨
  (fitsL ls = true ∧ AllPuts ls ∧ (bodyB ls).length ≤ 1188 ∧ kk = 0 ∧ l = sealL (hd ++ bodyB ls) 8)
theorem putP_one {hd : List UInt8} {ls : List Ck} {kk kk' : Nat} {l l' : List UInt8} (h : PutP hd ls kk l) (h' : PutP hd ls kk' l') : kk = kk' ∧ l = l' := by
  rcases h with ⟨a, rfl, rfl⟩ | ⟨a, b, rfl⟩ | ⟨a, b, c, rfl, rfl⟩ | ⟨a, b, c, rfl, rfl⟩ <;> rcases h' with ⟨a', rfl, rfl⟩ | ⟨a', b', rfl⟩ | ⟨a', b', c', rfl, rfl⟩ | ⟨a', b', c', rfl, rfl⟩ <;>
    first
      | exact ⟨rfl, rfl⟩
      | exact absurd (a.symm.trans a') (by decide)
      | exact ⟨bad_one b b', rfl⟩
      | exact (bad_all b b').elim
      | exact (bad_all b' b).elim
      | (exfalso; omega)
def headB (f t g : Nat) : List UInt8 := be f 2 ++ (be t 2 ++ (be g 4 ++ be 0 4))
theorem headB_len (f t g : Nat) : (headB f t g).length = 12 := by simp [headB, be_length]
theorem putP_ok {hd : List UInt8} {ls : List Ck} {l : List UInt8} (h : PutP hd ls 0 l) : fitsL ls = true ∧ AllPuts ls ∧ (bodyB ls).length ≤ 1188 ∧ l = sealL (hd ++ bodyB ls) 8 := by
  rcases h with ⟨_, h, _⟩ | ⟨_, ⟨_, _, _, _, _, h⟩, _⟩ | ⟨_, _, _, h, _⟩ | ⟨a, b, c, _, e⟩
  · omega
  · exact absurd rfl (err_pos' h).1
  · omega
  · exact ⟨a, b, c, e⟩
theorem putP_bad {hd : List UInt8} {ls : List Ck} {kk : Nat} {l : List UInt8} (h : PutP hd ls kk l) (hk : kk ≠ 0) : l = [] := by
  rcases h with ⟨_, h, e⟩ | ⟨_, _, e⟩ | ⟨_, _, _, h, e⟩ | ⟨_, _, _, h, _⟩
  · exact e
  · exact e
  · exact e
  · exact absurd h hk

/-! ### what is got -/
def stepP (b : List UInt8) : Except Nat (List Ck × Nat) :=
  match getC b with
  | .ok (c, n) => .ok ([c], n)
  | .error k => if k = 60 ∧ 128 ≤ num (b.take 1) then .ok ([], (num ((b.drop 2).take 2) + 3) / 4 * 4) else .error k
def consP (l : List Ck) : Except Nat (List Ck) → Except Nat (List Ck)
  | .ok r => .ok (l ++ r)
  | .error k => .error k
def chunksF : Nat → List UInt8 → Except Nat (List Ck)
  | 0, _ => .ok []
  | f + 1, b => if b = [] then .ok [] else match stepP b with
    | .error k => .error k
    | .ok (l, n) => consP l (chunksF f (b.drop n))
def chunksP (b : List UInt8) : Except Nat (List Ck) := chunksF b.length b
/-- Bytes that begin with a chunk of a kind that nobody knows. -/
theorem getC_60 {b : List UInt8} (h : getC b = .error 60) : 4 ≤ b.length ∧ 4 ≤ num ((b.drop 2).take 2) ∧ (num ((b.drop 2).take 2) + 3) / 4 * 4 ≤ b.length ∧ known (num (b.take 1)) = false := by
  unfold getC at h
  by_cases q1 : b.length < 4
  · rw [if_pos q1] at h; injection h with h; omega
  rw [if_neg q1] at h
  by_cases q2 : num ((b.drop 2).take 2) < 4
  · rw [if_pos q2] at h; injection h with h; omega
  rw [if_neg q2] at h
  by_cases q3 : b.length < (num ((b.drop 2).take 2) + 3) / 4 * 4
  · rw [if_pos q3] at h; injection h with h; omega
  rw [if_neg q3] at h
  by_cases q4 : ((b.drop (num ((b.drop 2).take 2))).take ((num ((b.drop 2).take 2) + 3) / 4 * 4 - num ((b.drop 2).take 2))).any (· != 0) = true
  · rw [if_pos q4] at h; injection h with h; omega
  rw [if_neg q4] at h
  by_cases q5 : known (num (b.take 1)) = false
  · exact ⟨by omega, by omega, by omega, q5⟩
  rw [if_neg q5] at h
  cases hd : decC (num (b.take 1)) (num ((b.drop 1).take 1)) ((b.drop 4).take (num ((b.drop 2).take 2) - 4)) with
  | none => rw [hd] at h; injection h with h; omega
  | some c => rw [hd] at h; cases h
theorem getC_err {b : List UInt8} {k : Nat} (h : getC b = .error k) : k ≠ 0 ∧ k ≤ 100 := by
  unfold getC at h
  repeat (first | (split at h) | (injection h with h; omega) | cases h)
theorem stepP_pos {b : List UInt8} {l : List Ck} {n : Nat} (h : stepP b = .ok (l, n)) : 4 ≤ n ∧ n ≤ b.length := by
  unfold stepP at h
  cases hg : getC b with
  | ok q =>
    obtain ⟨c, m⟩ := q
    rw [hg] at h
    injection h with h
    injection h with h1 h2
    subst h2
    obtain ⟨_, _, _, _, h1, _, h2⟩ := getC_puts hg
    exact ⟨h2, h1⟩
  | error k =>
    rw [hg] at h
    simp only at h
    by_cases hk : k = 60 ∧ 128 ≤ num (b.take 1)
    · rw [if_pos hk] at h
      injection h with h
      injection h with h1 h2
      obtain ⟨h3, h4, h5, _⟩ := getC_60 (hk.1 ▸ hg)
      omega
    · rw [if_neg hk] at h; cases h
theorem chunksF_more : ∀ (f : Nat) (b : List UInt8), b.length ≤ f → chunksF f b = chunksF b.length b
  | 0, b, h => by have : b.length = 0 := by omega
                  rw [this]
  | f + 1, b, h => by
    by_cases hb : b = []
    · subst hb; rfl
    have hlen : 0 < b.length := by cases b with
      | nil => exact absurd rfl hb
      | cons x r => simp
    obtain ⟨m, hm⟩ : ∃ m, b.length = m + 1 := ⟨b.length - 1, by omega⟩
    rw [hm]
    unfold chunksF
    rw [if_neg hb, if_neg hb]
    cases hs : stepP b with
    | error k => rfl
    | ok q =>
      obtain ⟨l, n⟩ := q
      have := stepP_pos hs
      simp only
      rw [chunksF_more f (b.drop n) (by rw [List.length_drop]; omega), chunksF_more m (b.drop n) (by rw [List.length_drop]; omega)]
theorem chunksP_nil : chunksP [] = .ok [] := rfl
theorem chunksF_succ (f : Nat) (b : List UInt8) : chunksF (f + 1) b = if b = [] then .ok [] else match stepP b with
    | .error k => .error k
    | .ok (l, n) => consP l (chunksF f (b.drop n)) := rfl
theorem chunksP_step {b : List UInt8} (hb : b ≠ []) : chunksP b = match stepP b with
    | .error k => .error k
    | .ok (l, n) => consP l (chunksP (b.drop n)) := by
  have hlen : 0 < b.length := by cases b with
    | nil => exact absurd rfl hb
    | cons x r => simp
  obtain ⟨m, hm⟩ : ∃ m, b.length = m + 1 := ⟨b.length - 1, by omega⟩
  have e : chunksP b = chunksF (m + 1) b := by unfold chunksP; rw [hm]
  rw [e, chunksF_succ, if_neg hb]
  cases hs : stepP b with
  | error k => rfl
  | ok q =>
    obtain ⟨l, n⟩ := q
    have := stepP_pos hs
    show consP l (chunksF m (b.drop n)) = consP l (chunksP (b.drop n))
    rw [chunksF_more m (b.drop n) (by rw [List.length_drop]; omega)]
    rfl
theorem consP_nil (r : Except Nat (List Ck)) : consP [] r = r := by cases r <;> rfl
theorem consP_two (a b : List Ck) (r : Except Nat (List Ck)) : consP a (consP b r) = consP (a ++ b) r := by cases r <;> simp [consP]
theorem chunksP_err : ∀ (n : Nat) {b : List UInt8} {k : Nat}, b.length ≤ n → chunksP b = .error k → k ≠ 0 ∧ k ≤ 100
  | n, b, k, hn, h => by
    by_cases hb : b = []
    · subst hb; cases h
    rw [chunksP_step hb] at h
    cases hs : stepP b with
    | error k' =>
      rw [hs] at h
      injection h with h
      subst h
      unfold stepP at hs
      cases hg : getC b with
      | ok q => obtain ⟨c, m⟩ := q; rw [hg] at hs; cases hs
      | error k2 =>
        rw [hg] at hs
        simp only at hs
        by_cases hk : k2 = 60 ∧ 128 ≤ num (b.take 1)
        · rw [if_pos hk] at hs; cases hs
        · rw [if_neg hk] at hs
          injection hs with hs
          subst hs
          exact getC_err hg
    | ok q =>
      obtain ⟨l, m⟩ := q
      have hp := stepP_pos hs
      rw [hs] at h
      simp only at h
      cases hc : chunksP (b.drop m) with
      | ok r => rw [hc] at h; cases h
      | error k3 =>
        rw [hc] at h
        injection h with h
        subst h
        cases n with
        | zero => omega
        | succ n => exact chunksP_err n (by rw [List.length_drop]; omega) hc
/-- What Get answers. -/
def getP (b : List UInt8) : Except Nat (Nat × Nat × Nat × List Ck) :=
  if b.length < 12 then .error 40 else if 1200 < b.length then .error 43 else if sealL b 8 ≠ b then .error 70 else
  match chunksP (b.drop 12) with
  | .error k => .error k
  | .ok ls => if fitsL ls = true then .ok (num (b.take 2), num ((b.drop 2).take 2), num ((b.drop 4).take 4), ls) else .error 42
end Go.Proofs.Ytpgklhecmafnbaa.Chk

namespace Go.Proofs.Ytpgklhecmafnbaa.Chk
open Go.ChangeShapes Go.WideShapes Go.ChangeAt Go.RowKit Go.Deep Go.Proofs.Ytpgklhecmafnbaa.Words Go.Proofs.Ytpgklhecmafnbaa.Oct Go.Proofs.Ytpgklhecmafnbaa.Par

theorem alone_any (kd : Nat) (hk : kd < 256) (w : World) : Calls Try.prog 25 #[.int .u8 (kd : Int)] w fun e w' => e = .returned (.bool (aloneK kd)) ∧ w = w' := by
  have hc : kd = 1 ∨ kd = 2 ∨ kd = 14 ∨ (kd ≠ 1 ∧ kd ≠ 2 ∧ kd ≠ 14) := by omega
  rcases hc with rfl | rfl | rfl | hc
  · go_enter Try.func25, Try.ntmps25
    go_wp2_with fail
    go_ret
    exact ⟨rfl, rfl⟩
  · go_enter Try.func25, Try.ntmps25
    go_wp2_with fail
    go_ret
    exact ⟨rfl, rfl⟩
  · go_enter Try.func25, Try.ntmps25
    go_wp2_with fail
    go_ret
    exact ⟨rfl, rfl⟩
  · have hb : Hid (aloneK kd = false) := by show _ = _; unfold aloneK; simp; omega
    have h1 : ((kd : Int) == 1) = false := by simp; omega
    have h2 : ((kd : Int) == 2) = false := by simp; omega
    have h3 : ((kd : Int) == 14) = false := by simp; omega
    clear hc
    go_enter Try.func25, Try.ntmps25
    go_wp2_with fail
    go_ret
    exact ⟨ret_bool (by rw [hb.out]), rfl⟩

theorem ralone_any (kd : Nat) (w : World) : Calls Try.prog 83 #[.int .i64 (kd : Int)] w fun e w' => e = .returned (.bool (aloneK kd)) ∧ w = w' := by
  have hc : kd = 1 ∨ kd = 2 ∨ kd = 14 ∨ (kd ≠ 1 ∧ kd ≠ 2 ∧ kd ≠ 14) := by omega
  rcases hc with rfl | rfl | rfl | hc
  · go_enter Try.func83, Try.ntmps83
    go_wp2_with fail
    go_ret
    exact ⟨rfl, rfl⟩
  · go_enter Try.func83, Try.ntmps83
    go_wp2_with fail
    go_ret
    exact ⟨rfl, rfl⟩
  · go_enter Try.func83, Try.ntmps83
    go_wp2_with fail
    go_ret
    exact ⟨rfl, rfl⟩
  · have hb : Hid (aloneK kd = false) := by show _ = _; unfold aloneK; simp; omega
    have h1 : ((kd : Int) == 1) = false := by simp; omega
    have h2 : ((kd : Int) == 2) = false := by simp; omega
    have h3 : ((kd : Int) == 14) = false := by simp; omega
    clear hc
    go_enter Try.func83, Try.ntmps83
    go_wp2_with fail
    go_ret
    exact ⟨ret_bool (by rw [hb.out]), rfl⟩

/-! ### formed -/
/-- A variable that holds a slice. -/
abbrev SlV (w : World) (g : Nat) (v : Value) : Prop := Blk w g 42 #[v]
set_option maxHeartbeats 2000000 in
set_option maxRecDepth 100000 in
theorem pred_k {w : World} {B g n c : Nat} {A : Option Addr} {cs : Array Value} {ck : Ck} (h : CkAt w B cs ck) (hg : SlV w g (.slice A n c)) (hn : n ≤ 1000000) :
    Calls Try.prog 80 #[.agg cs, .pointer (some ⟨g, 0, none⟩)] w fun e w' => e = .returned (.bool (decide (1 < n) && aloneK ck.kind)) ∧ Below w.heap.size w w' := by
  obtain ⟨_, _, _, _, _, hc, _⟩ := h.parts
  have e0 := hc.c0
  have hk := h.ok.kind
  obtain ⟨kd, hkd⟩ : ∃ kd, kd = ck.kind := ⟨_, rfl⟩
  rw [← hkd] at e0 hk ⊢
  have HBL := Lib.hid (Blk.new w 32 cs)
  have HB := Lib.hid ((Below.refl w.heap.size w).alloc (Nat.le_refl _) (.cells cs 32))
  have HG := Lib.hid hg
  clear h hc hkd hg
  go_enter Try.func80, Try.ntmps80
  go_upto_region 1 with (fail)
  obtain ⟨W1, hW1⟩ : ∃ W1, W1 = w.alloc (.cells cs 32) := ⟨_, rfl⟩
  rw [← hW1] at HBL HB ⊢
  obtain ⟨g0, hg0⟩ : ∃ g0, g0 = w.heap.size := ⟨_, rfl⟩
  have HG0 : Hid (CkBlk W1 g0 cs) := by rw [hg0]; exact HBL
  rw [← hg0]
  have f0 := HG0.out.at e0
  have c0 : W1.cell? ⟨g, 0, none⟩ = some (.slice A n c) := (HG.out.below HB.out HG.out.lt).cell 0
  clear hW1 HBL hg0 e0
  by_cases h1 : (1 : Int) < (n : Int)
  · have d1 : decide (1 < n) = true := by simp; omega
    go_wp2_with fail
    refine (alone_any kd hk W1).mono ?_
    rintro e w2 ⟨rfl, rfl⟩
    go_wp2_with fail
    go_ret
    exact ⟨ret_bool (by first | rfl | (rw [d1]; rfl)), HB.out⟩
  · have d1 : decide (1 < n) = false := by simp; omega
    go_wp2_with fail
    go_ret
    exact ⟨ret_bool (by first | rfl | (rw [d1]; rfl)), HB.out⟩
def findI (p : Ck → Bool) (ls : List Ck) (r : Int) : Prop := (0 ≤ r ∧ ls.any p = true) ∨ (r = -1 ∧ ls.any p = false)
theorem anyC_take {p : Ck → Bool} {l : List Ck} {k : Nat} (hk : k < l.length) (h : (l.take k).any p = false) (h0 : p l[k] = false) : (l.take (k + 1)).any p = false := by
  rw [List.take_succ_eq_append_getElem hk, List.any_append, h]
  simp [h0]
theorem anyC_at {p : Ck → Bool} {l : List Ck} {k : Nat} (hk : k < l.length) (h : p l[k] = true) : l.any p = true := List.any_eq_true.2 ⟨_, List.getElem_mem hk, h⟩
set_option maxHeartbeats 4000000 in
set_option maxRecDepth 100000 in
theorem idx_k {w : World} {B g n c : Nat} {A : Option Addr} {ls : List Ck} (h : Cks w B A ls) (hB : B ≤ w.heap.size) (hn : n = ls.length) (hn6 : n ≤ 1000000) (hg : SlV w g (.slice A n c)) :
    Calls Try.prog 102 #[.slice A n c, .func (.func 80) #[] #[.pointer (some ⟨g, 0, none⟩)]] w fun e w' =>
      (∃ r : Int, e = .returned (.int .i64 r) ∧ r < 9223372036854775808 ∧ findI (fun ck => decide (1 < n) && aloneK ck.kind) ls r) ∧ Below w.heap.size w w' := by
  have HN := Lib.hid hn
  have HC := Lib.hid h
  have HG := Lib.hid hg
  obtain ⟨p, hp⟩ : ∃ p : Ck → Bool, p = fun ck => decide (1 < n) && aloneK ck.kind := ⟨_, rfl⟩
  have HP := Lib.hid hp
  rw [← hp]
  have HBs := Lib.hid hB
  clear h hn hg hp hB
  go_enter Try.func102, Try.ntmps102
  go_wp2_with fail
  go_loopw [4, 5, 8] (fun _ _ i wr => ∃ k : Nat, k ≤ n ∧ i = .int .i64 k ∧ Hid ((ls.take k).any p = false) ∧ Hid (Below w.heap.size w wr)) (fun _ _ i _ => n - (intOf i).toNat)
  case atStart => exact ⟨0, by omega, rfl, rfl, Below.refl _ _⟩
  case round =>
    obtain ⟨k, hk, rfl, HA, HW⟩ := hrel
    by_cases hlt : k < n
    · have hk2 : k < ls.length := by rw [← HN.out]; exact hlt
      obtain ⟨ad, cs, rfl, hblk, hsz, hat, hcell⟩ := (HC.out.keep (w' := wr) (fun q hq => HW.out.cell (Nat.lt_of_lt_of_le hq HBs.out))).nth hk2
      obtain ⟨ck, hck⟩ : ∃ ck, ck = ls[k] := ⟨_, rfl⟩
      rw [← hck] at hat
      have HSZ := Lib.hid hsz
      have HCELL := Lib.hid hcell
      have hcall := pred_k hat (HG.out.below HW.out HG.out.lt) hn6
      have HPK : Hid ((decide (1 < n) && aloneK ck.kind) = p ck) := by rw [HP.out]; rfl
      rw [HPK.out] at hcall
      obtain ⟨r, hr⟩ : ∃ r, r = p ck := ⟨_, rfl⟩
      rw [← hr] at hcall
      have HR : Hid (r = p ls[k]) := by rw [← hck]; exact hr
      clear hsz hat hcell hck hblk HPK hr
      cases r
      · have HA2 : Hid ((ls.take (k + 1)).any p = false) := anyC_take hk2 HA.out HR.out.symm
        go_wp2_with (first
          | (refine wpList_load_any rfl 32 _ rfl (ad.add (k * 19)) rfl cs _ HCELL.out Try.underlying32 rfl (by rw [HSZ.out]; exact chunk_info) ?_)
          | (go_at_call 80; refine hcall.mono ?_; rintro e w' ⟨rfl, hbw⟩; have HW2 := Lib.hid (HW.out.trans (hbw.mono HW.out.size))))
        go_roundw
        case rel => exact ⟨k + 1, by omega, by go_num, HA2, HW2⟩
        case measure => simp [intOf]; omega
      · have HA2 : Hid (ls.any p = true) := anyC_at hk2 HR.out.symm
        go_wp2_with (first
          | (refine wpList_load_any rfl 32 _ rfl (ad.add (k * 19)) rfl cs _ HCELL.out Try.underlying32 rfl (by rw [HSZ.out]; exact chunk_info) ?_)
          | (go_at_call 80; refine hcall.mono ?_; rintro e w' ⟨rfl, hbw⟩; have HW2 := Lib.hid (HW.out.trans (hbw.mono HW.out.size))))
        go_ret
        exact ⟨⟨k, rfl, by omega, .inl ⟨by omega, HA2.out⟩⟩, HW2.out⟩
    · obtain rfl : k = n := by omega
      go_wp2_with fail
      go_ret
      refine ⟨⟨-1, rfl, by omega, .inr ⟨rfl, ?_⟩⟩, HW.out⟩
      have := HA.out
      rwa [List.take_of_length_le (by rw [HN.out]; exact Nat.le_refl _)] at this
theorem contains_k {w : World} {B g n c : Nat} {A : Option Addr} {ls : List Ck} (h : Cks w B A ls) (hB : B ≤ w.heap.size) (hn : n = ls.length) (hn6 : n ≤ 1000000) (hg : SlV w g (.slice A n c)) :
    Calls Try.prog 79 #[.slice A n c, .func (.func 80) #[] #[.pointer (some ⟨g, 0, none⟩)]] w fun e w' =>
      e = .returned (.bool (decide (1 < n) && anyAlone ls)) ∧ Below w.heap.size w w' := by
  have C := Lib.hid (idx_k h hB hn hn6 hg)
  obtain ⟨b, hb⟩ : ∃ b, b = (decide (1 < n) && anyAlone ls) := ⟨_, rfl⟩
  have HB : Hid (b = ls.any fun ck => decide (1 < n) && aloneK ck.kind) := by
    rw [hb]
    show _ = _
    unfold anyAlone
    cases decide (1 < n)
    · simp
    · simp
  rw [← hb]
  clear h hn hg hB hb
  go_enter Try.func79, Try.ntmps79
  go_wp2_with fail
  refine C.out.mono ?_
  rintro e w1 ⟨⟨r, rfl, hr, HA⟩, HW⟩
  have HD : Hid (b = decide (0 ≤ r)) := by
    rw [HB.out]
    show _ = _
    rcases HA with ⟨h1, h2⟩ | ⟨h1, h2⟩
    · rw [h2, decide_eq_true h1]
    · rw [h2, h1]; rfl
  clear HA
  go_wp2_with fail
  go_ret
  exact ⟨ret_bool (by rw [HD.out]), HW⟩
set_option maxHeartbeats 4000000 in
set_option maxRecDepth 100000 in
theorem formed_k {w : World} {B n c : Nat} {A : Option Addr} {ls : List Ck} (h : Cks w B A ls) (hB : B ≤ w.heap.size) (hn : n = ls.length) (hn6 : n ≤ 1000000) :
    Calls Try.prog 51 #[.slice A n c] w fun e w' => e = .returned (.bool (fitsL ls)) ∧ Below w.heap.size w w' := by
  have HC := Lib.hid h
  have HN := Lib.hid hn
  have HBs := Lib.hid hB
  obtain ⟨f, hf⟩ : ∃ f, f = fitsL ls := ⟨_, rfl⟩
  have HF := Lib.hid hf
  rw [← hf]
  have hmf : ∀ (fn : Fn) (first cap : Array Value) (w : World), (Instr.makeFunc fn first cap).run Try.prog w = .ok (.func fn first cap) w := fun _ _ _ _ => rfl
  have HBL := Lib.hid (Blk.new w 42 #[.slice A n c])
  have HB := Lib.hid ((Below.refl w.heap.size w).alloc (Nat.le_refl _) (.cells #[.slice A n c] 42))
  clear h hn hf hB
  go_enter Try.func51, Try.ntmps51
  go_upto_region 1 with (fail)
  obtain ⟨W1, hW1⟩ : ∃ W1, W1 = w.alloc (.cells #[.slice A n c] 42) := ⟨_, rfl⟩
  rw [← hW1] at HBL HB ⊢
  obtain ⟨g0, hg0⟩ : ∃ g0, g0 = w.heap.size := ⟨_, rfl⟩
  have HG0 : Hid (SlV W1 g0 (.slice A n c)) := by rw [hg0]; exact HBL
  rw [← hg0]
  have c0 : W1.cell? ⟨g0, 0, none⟩ = some (.slice A n c) := HG0.out.cell 0
  clear hW1 HBL hg0
  by_cases h0 : n = 0
  · subst h0
    have HF0 : Hid (f = false) := by rw [HF.out]; show _ = _; unfold fitsL; rw [← HN.out]; rfl
    go_wp2_with fail
    go_ret
    exact ⟨ret_bool HF0.out.symm, HB.out⟩
  by_cases h64 : (64 : Int) < (n : Int)
  · have HF0 : Hid (f = false) := by
      rw [HF.out]; show _ = _; unfold fitsL; rw [← HN.out, show decide (n ≤ 64) = false by simp; omega]; simp
    have d0 : ((n : Int) == 0) = false := by simp; omega
    go_wp2_with fail
    go_ret
    exact ⟨ret_bool HF0.out.symm, HB.out⟩
  have d0 : ((n : Int) == 0) = false := by simp; omega
  have d1 : ¬ (64 : Int) < (n : Int) := h64
  have HF1 : Hid (f = !(decide (1 < n) && anyAlone ls)) := by
    rw [HF.out]
    show _ = _
    unfold fitsL
    rw [← HN.out, show decide (1 ≤ n) = true by simp; omega, show decide (n ≤ 64) = true by simp; omega]
    by_cases h1 : n = 1
    · subst h1; simp
    · rw [show decide (n = 1) = false by simp [h1], show decide (1 < n) = true by simp; omega]
      simp
  clear h0 h64
  go_wp2_with fail
  refine (contains_k (HC.out.keep (w' := W1) (fun q hq => HB.out.cell (Nat.lt_of_lt_of_le hq HBs.out))) (Nat.le_trans HBs.out HB.out.size) HN.out hn6 HG0.out).mono ?_
  rintro e w2 ⟨rfl, hb2⟩
  have HB2 := Lib.hid (HB.out.trans (hb2.mono HB.out.size))
  obtain ⟨r, hr⟩ : ∃ r, r = (decide (1 < n) && anyAlone ls) := ⟨_, rfl⟩
  have HR : Hid (f = !r) := by rw [hr]; exact HF1
  rw [← hr]
  clear hr hb2
  go_wp2_with fail
  go_ret
  exact ⟨ret_bool HR.out.symm, HB2.out⟩
end Go.Proofs.Ytpgklhecmafnbaa.Chk

namespace Go.Proofs.Ytpgklhecmafnbaa.Chk
open Go.ChangeShapes Go.WideShapes Go.ChangeAt Go.RowKit Go.Deep Go.Proofs.Ytpgklhecmafnbaa.Words Go.Proofs.Ytpgklhecmafnbaa.Oct Go.Proofs.Ytpgklhecmafnbaa.Par

theorem load_run_any {w : World} {a : Act} {o : Oper} {x : Operand} {ad : Addr} {cs : Array Value} (ho : o.op = .load 32 x) (hx : a.eval x = .pointer (some ad)) (hc : ∀ j v, cs[j]? = some v → w.cell? (ad.add j) = some v) (hs : cs.size = 19) :
    (execOp a.eval o).run Try.prog w = .ok (.value (.agg cs)) w := by
  unfold execOp
  simp only [ho, hx, Instr.loadAt, Instr.sureAddr, Sem.run_bind, Sem.run_pure, Result.andThen_ok, run_loadVar_any w ad 32 cs _ hc Try.underlying32 rfl (by rw [hs]; exact chunk_info)]
/-- The row of chunk k, in the world of a loop's round. -/
theorem Cks.nthw {w wr : World} {B : Nat} {A : Option Addr} {ls : List Ck} (h : Cks w B A ls) (hB : B ≤ w.heap.size) (hw : Below w.heap.size w wr) {k : Nat} (hk : k < ls.length) : ∃ (ad : Addr) (cs : Array Value), A = some ad ∧ ad.block < B ∧ cs.size = 19 ∧ CkAt wr B cs ls[k] ∧ ∀ j v, cs[j]? = some v → wr.cell? ((ad.add (k * 19)).add j) = some v :=
  (h.keep (w' := wr) (fun q hq => hw.cell (Nat.lt_of_lt_of_le hq hB))).nth hk
/-- A chunk copied to a variable of a loop. -/
theorem kept_var (W : World) (cs : Array Value) : ∃ W', W' = (W.alloc (.cells #[.int .u8 0, .bool false, .bool false, .bool false, .bool false, .int .u32 0, .int .u16 0, .int .u32 0, .int .u32 0, .int .u32 0, .int .u32 0, .int .u32 0, .int .u16 0, .int .u16 0, .slice none 0 0, .slice none 0 0, .slice none 0 0, .slice none 0 0, .slice none 0 0] 32)).setRow W.heap.size cs ∧ CkBlk W' W.heap.size cs ∧ Below W.heap.size W W' :=
  ⟨_, rfl, kept_ck W zeroA cs⟩
set_option maxHeartbeats 4000000 in
set_option maxRecDepth 100000 in
theorem rfits_k {w : World} {B n c : Nat} {A : Option Addr} {ls : List Ck} (h : Cks w B A ls) (hB : B ≤ w.heap.size) (hn : n = ls.length) (hn6 : n ≤ 1000000) :
    Calls Try.prog 55 #[.slice A n c] w fun e w' => e = .returned (.bool (fitsL ls)) ∧ Below w.heap.size w w' := by
  have HC := Lib.hid h
  have HN := Lib.hid hn
  have HBs := Lib.hid hB
  obtain ⟨f, hf⟩ : ∃ f, f = fitsL ls := ⟨_, rfl⟩
  have HF := Lib.hid hf
  rw [← hf]
  clear h hn hf hB
  go_enter Try.func55, Try.ntmps55
  go_wp2_with fail
  go_loopw [2, 4, 7] (fun _ _ i wr => ∃ k : Nat, k ≤ n ∧ i = .int .i64 k ∧ Hid (n ≠ 1 → anyAlone (ls.take k) = false) ∧ Hid (Below w.heap.size w wr)) (fun _ _ i _ => n - (intOf i).toNat)
  case atStart => exact ⟨0, by omega, rfl, fun _ => rfl, Below.refl _ _⟩
  case round =>
    obtain ⟨k, hk, rfl, HA, HW⟩ := hrel
    by_cases hlt : k < n
    · have hk2 : k < ls.length := by rw [← HN.out]; exact hlt
      obtain ⟨ad, cs, rfl, hblk, hsz, hat, hcell⟩ := HC.out.nthw HBs.out HW.out hk2
      obtain ⟨ck, hck⟩ : ∃ ck, ck = ls[k] := ⟨_, rfl⟩
      rw [← hck] at hat
      have HSZ := Lib.hid hsz
      have HCELL := Lib.hid hcell
      have HONE := Lib.hid hat.one
      have hk0 := hat.ok.kind
      obtain ⟨_, _, _, _, _, hcells, _⟩ := hat.parts
      have e0 := hcells.c0
      obtain ⟨kd, hkd⟩ : ∃ kd, kd = ck.kind := ⟨_, rfl⟩
      rw [← hkd] at e0 hk0
      have HKD : Hid (kd = (ls[k]).kind) := by rw [hkd, hck]; rfl
      clear hsz hat hcell hck hblk hcells hkd
      go_upto_region 4 with (first
        | (refine wpList_load_any rfl 32 _ rfl (ad.add (k * 19)) rfl cs _ HCELL.out Try.underlying32 rfl (by rw [HSZ.out]; exact chunk_info) ?_)
        | (refine wpList_store_row rfl 32 _ _ rfl wr.heap.size cs rfl rfl 32 _ (Blk.new wr 32 _) (by rw [HSZ.out]; exact chunk_info) (by rw [HSZ.out]; rfl) HONE.out ?_))
      obtain ⟨W2, hW2, HC2, HB2⟩ := kept_var wr cs
      obtain ⟨g0, hg0⟩ : ∃ g0, g0 = wr.heap.size := ⟨_, rfl⟩
      rw [← hg0] at HC2
      rw [← hW2, ← hg0]
      have f0 := CkBlk.at HC2 e0
      have HW2 := Lib.hid (HW.out.trans (HB2.mono HW.out.size))
      have hw8 : IntKind.i64.wrap (kd : Int) = (kd : Int) := IntWalk.i64_in _ (by omega)
      obtain ⟨a, ha⟩ : ∃ a, a = aloneK kd := ⟨_, rfl⟩
      have HAK : Hid (a = aloneK (ls[k]).kind) := by rw [ha, HKD.out]; rfl
      have hcall := ralone_any kd W2
      rw [← ha] at hcall
      clear hW2 hg0 HC2 HB2 HCELL HSZ HONE e0 ha HKD
      by_cases hn1 : n = 1
      · have HA2 : Hid (n ≠ 1 → anyAlone (ls.take (k + 1)) = false) := fun h => absurd hn1 h
        have hni : ((n : Int) != 1) = false := by rw [hn1]; rfl
        have hk1 : k + 1 ≤ n := hlt
        clear hn1
        cases a
        · go_wp2_with (go_at_call 83; refine hcall.mono ?_; rintro e w' ⟨rfl, rfl⟩)
          go_roundw
          case rel => exact ⟨k + 1, hk1, by go_num, HA2, HW2⟩
          case measure => simp [intOf]; omega
        · go_wp2_with (go_at_call 83; refine hcall.mono ?_; rintro e w' ⟨rfl, rfl⟩)
          go_roundw
          case rel => exact ⟨k + 1, hk1, by go_num, HA2, HW2⟩
          case measure => simp [intOf]; omega
      · have hni : ((n : Int) != 1) = true := by simp; omega
        cases a
        · have HA2 : Hid (n ≠ 1 → anyAlone (ls.take (k + 1)) = false) := fun h => anyC_take hk2 (HA.out h) HAK.out.symm
          clear hn1
          go_wp2_with (go_at_call 83; refine hcall.mono ?_; rintro e w' ⟨rfl, rfl⟩)
          go_roundw
          case rel => exact ⟨k + 1, by omega, by go_num, HA2, HW2⟩
          case measure => simp [intOf]; omega
        · have HF0 : Hid (f = false) := by
            rw [HF.out]
            show _ = _
            have h1 : anyAlone ls = true := anyC_at hk2 HAK.out.symm
            unfold fitsL
            rw [h1, ← HN.out, show decide (n = 1) = false by simp [hn1]]
            simp
          clear hn1
          go_wp2_with (go_at_call 83; refine hcall.mono ?_; rintro e w' ⟨rfl, rfl⟩)
          go_ret
          exact ⟨ret_bool HF0.out.symm, HW2.out⟩
    · obtain rfl : k = n := by omega
      have HA2 : Hid (k ≠ 1 → anyAlone ls = false) := fun h => by have := HA.out h; rwa [List.take_of_length_le (by rw [HN.out]; exact Nat.le_refl _)] at this
      have HF1 : Hid (f = (decide (1 ≤ k) && decide (k ≤ 64))) := by
        rw [HF.out]
        show _ = _
        unfold fitsL
        rw [← HN.out]
        by_cases h1 : k = 1
        · subst h1; rfl
        · rw [HA2.out h1]; simp
      clear HF HA HA2
      by_cases h1 : 1 ≤ k
      · have d1 : decide ((k : Int) ≥ 1) = true := by simp; omega
        by_cases h64 : k ≤ 64
        · have d2 : decide ((k : Int) ≤ 64) = true := by simp; omega
          have HF2 : Hid (f = true) := by rw [HF1.out]; show _ = _; simp [h1, h64]
          go_wp2_with fail
          go_ret
          exact ⟨ret_bool HF2.out.symm, HW.out⟩
        · have d2 : decide ((k : Int) ≤ 64) = false := by simp; omega
          have HF2 : Hid (f = false) := by rw [HF1.out]; show _ = _; simp [h64]
          go_wp2_with fail
          go_ret
          exact ⟨ret_bool HF2.out.symm, HW.out⟩
      · have d1 : decide ((k : Int) ≥ 1) = false := by simp; omega
        have HF2 : Hid (f = false) := by rw [HF1.out]; show _ = _; simp [h1]
        go_wp2_with fail
        go_ret
        exact ⟨ret_bool HF2.out.symm, HW.out⟩
set_option maxHeartbeats 4000000 in
set_option maxRecDepth 100000 in
theorem rsizeL_k {w : World} {B n c : Nat} {A : Option Addr} {ls : List Ck} (h : Cks w B A ls) (hB : B ≤ w.heap.size) (hn : n = ls.length) (hnm : n ≤ 9223372036854775807) :
    Calls Try.prog 16 #[.slice A n c] w fun e w' => (∃ s : Nat, e = .returned (.int .i64 (s : Int)) ∧ s ≤ 40000000 ∧ (s ≤ 1000000 → sumC ls = s)) ∧ Below w.heap.size w w' := by
  have HC := Lib.hid h
  have HN := Lib.hid hn
  have HBs := Lib.hid hB
  clear h hn hB
  go_enter Try.func16, Try.ntmps16
  go_wp2_with fail
  go_loopw [2, 3, 5, 8] (fun _ s _ i wr => ∃ k acc : Nat, k ≤ n ∧ i = .int .i64 k ∧ s = .int .i64 (acc : Int) ∧ acc ≤ 1000000 ∧ Hid (sumC (ls.take k) = acc) ∧ Hid (Below w.heap.size w wr)) (fun _ _ _ i _ => n - (intOf i).toNat)
  case atStart => exact ⟨0, 0, by omega, rfl, rfl, by omega, rfl, Below.refl _ _⟩
  case round =>
    obtain ⟨k, acc, hk, rfl, rfl, hacc, HA, HW⟩ := hrel
    by_cases hlt : k < n
    · have hk2 : k < ls.length := by rw [← HN.out]; exact hlt
      obtain ⟨ad, cs, rfl, hblk, hsz, hat, hcell⟩ := HC.out.nthw HBs.out HW.out hk2
      have HSZ := Lib.hid hsz
      have HCELL := Lib.hid hcell
      have HONE := Lib.hid hat.one
      have HAT := Lib.hid hat
      clear hsz hat hcell hblk
      go_upto_region 5 with (first
        | (refine wpList_load_any rfl 32 _ rfl (ad.add (k * 19)) rfl cs _ HCELL.out Try.underlying32 rfl (by rw [HSZ.out]; exact chunk_info) ?_)
        | (refine wpList_store_row rfl 32 _ _ rfl wr.heap.size cs rfl rfl 32 _ (Blk.new wr 32 _) (by rw [HSZ.out]; exact chunk_info) (by rw [HSZ.out]; rfl) HONE.out ?_))
      obtain ⟨W2, hW2, HC2, HB2⟩ := kept_var wr cs
      obtain ⟨g0, hg0⟩ : ∃ g0, g0 = wr.heap.size := ⟨_, rfl⟩
      rw [← hg0] at HC2
      rw [← hW2, ← hg0]
      have HW2 := Lib.hid (HW.out.trans (HB2.mono HW.out.size))
      have HG2 := Lib.hid HC2
      have HAT2 : Hid (CkAt W2 B cs ls[k]) := HAT.out.keep (fun q hq => HB2.cell (Nat.lt_of_lt_of_le hq (Nat.le_trans HBs.out HW.out.size)))
      clear hW2 hg0 HC2 HB2 HCELL HONE HAT
      go_wp2_with (refine wpList_load_row rfl 32 _ rfl g0 rfl 32 cs (0, 0) _ HG2.out Try.underlying32 rfl (by rw [HSZ.out]; exact chunk_info) ?_)
      refine (size_b (Nat.le_trans HBs.out HW2.out.size) HAT2.out).mono ?_
      rintro e W3 ⟨⟨s, rfl, hs3, hs⟩, hb3⟩
      have HS := Lib.hid hs
      have HW3 := Lib.hid (HW2.out.trans (hb3.mono HW2.out.size))
      have w1 : IntKind.i64.wrap (4 + (s : Int)) = 4 + (s : Int) := IntWalk.i64_in _ (by omega)
      have w2 : IntKind.i64.wrap ((acc : Int) + (4 + (s : Int))) = (acc : Int) + (4 + (s : Int)) := IntWalk.i64_in _ (by omega)
      clear hb3 hs HG2 HAT2 HW2
      by_cases hbig : 1000000 < acc + (4 + s)
      · have d1 : decide ((1000000 : Int) < (acc : Int) + (4 + (s : Int))) = true := by simp; omega
        go_wp2_with fail
        go_ret
        refine ⟨⟨acc + (4 + s), ?_, by omega, fun h => by omega⟩, HW3.out⟩
        go_num
      · have d1 : decide ((1000000 : Int) < (acc : Int) + (4 + (s : Int))) = false := by simp; omega
        have HA2 : Hid (sumC (ls.take (k + 1)) = acc + (4 + s)) := by
          show _ = _
          rw [List.take_succ_eq_append_getElem hk2, sumC_snoc, HA.out, HS.out (by omega)]
        go_wp2_with fail
        go_roundw
        case rel => exact ⟨k + 1, acc + (4 + s), by omega, by go_num, by go_num, by omega, HA2, HW3⟩
        case measure => simp [intOf]; omega
    · obtain rfl : k = n := by omega
      go_wp2_with fail
      go_ret
      refine ⟨⟨acc, rfl, by omega, fun _ => ?_⟩, HW.out⟩
      have := HA.out
      rwa [List.take_of_length_le (by rw [HN.out]; exact Nat.le_refl _)] at this
/-- Two lists that are the same but for fields that their kinds have not. -/
structure Alikes (l1 l2 : List Ck) : Prop where
  len : l1.length = l2.length
  strips : ∀ k (h1 : k < l1.length) (h2 : k < l2.length), strip l1[k] = strip l2[k]
  known1 : ∀ c ∈ l1, known c.kind = true ∧ c.skips.length ≤ 500000
  known2 : ∀ c ∈ l2, known c.kind = true ∧ c.skips.length ≤ 500000
set_option maxHeartbeats 4000000 in
set_option maxRecDepth 100000 in
theorem rsameL_k {w : World} {B1 B2 n m c1 c2 : Nat} {A1 A2 : Option Addr} {l1 l2 : List Ck} (h1 : Cks w B1 A1 l1) (h2 : Cks w B2 A2 l2) (hB1 : B1 ≤ w.heap.size) (hB2 : B2 ≤ w.heap.size) (hn : n = l1.length) (hm : m = l2.length) (hs : Alikes l1 l2) (hmm : m ≤ 9223372036854775807) :
    Calls Try.prog 20 #[.slice A1 n c1, .slice A2 m c2] w fun e w' => e = .returned (.bool true) ∧ Below w.heap.size w w' := by
  have hnm : m = n := by rw [hm, hn, hs.len]
  subst hnm
  have HC1 := Lib.hid h1
  have HC2 := Lib.hid h2
  have HN1 := Lib.hid hn
  have HN2 := Lib.hid hm
  have HBs1 := Lib.hid hB1
  have HBs2 := Lib.hid hB2
  have HS := Lib.hid hs
  clear h1 h2 hn hm hB1 hB2 hs
  go_enter Try.func20, Try.ntmps20
  go_wp2_with fail
  go_loopw [4, 5, 13] (fun _ _ i wr => ∃ k : Nat, k ≤ m ∧ i = .int .i64 k ∧ Hid (Below w.heap.size w wr)) (fun _ _ i _ => m - (intOf i).toNat)
  case atStart => exact ⟨0, by omega, rfl, Below.refl _ _⟩
  case round =>
    obtain ⟨k, hk, rfl, HW⟩ := hrel
    by_cases hlt : k < m
    · have hk1 : k < l1.length := by rw [← HN1.out]; exact hlt
      have hk2 : k < l2.length := by rw [← HN2.out]; exact hlt
      obtain ⟨ad1, cs1, rfl, hblk1, hsz1, hat1, hcell1⟩ := HC1.out.nthw HBs1.out HW.out hk1
      obtain ⟨ad2, cs2, rfl, hblk2, hsz2, hat2, hcell2⟩ := HC2.out.nthw HBs2.out HW.out hk2
      have HK1 := Lib.hid (HS.out.known1 _ (List.getElem_mem hk1))
      have HK2 := Lib.hid (HS.out.known2 _ (List.getElem_mem hk2))
      have HST := Lib.hid (HS.out.strips k hk1 hk2)
      obtain ⟨a1, ha1⟩ : ∃ a, a = l1[k] := ⟨_, rfl⟩
      obtain ⟨a2, ha2⟩ : ∃ a, a = l2[k] := ⟨_, rfl⟩
      rw [← ha1] at hat1 HK1 HST
      rw [← ha2] at hat2 HK2 HST
      have HAT1 := Lib.hid hat1
      have HAT2 := Lib.hid hat2
      have HCELL1 := Lib.hid hcell1
      have HCELL2 := Lib.hid hcell2
      have HSZ1 := Lib.hid hsz1
      have HSZ2 := Lib.hid hsz2
      have HL1 : Hid (B1 ≤ wr.heap.size) := Nat.le_trans HBs1.out HW.out.size
      have HL2 : Hid (B2 ≤ wr.heap.size) := Nat.le_trans HBs2.out HW.out.size
      have HD1 : Hid (ad1.block < wr.heap.size) := Nat.lt_of_lt_of_le hblk1 HL1.out
      have HD2 : Hid (ad2.block < wr.heap.size) := Nat.lt_of_lt_of_le hblk2 HL2.out
      have hlti : (k : Int) < (m : Int) := by omega
      have HSTT : Hid (Below wr.heap.size wr wr.drew) := Below.drew (Below.refl _ _)
      clear hat1 hat2 hcell1 hcell2 hsz1 hsz2 ha1 ha2 hblk1 hblk2
      go_upto_region 6 with (fail)
      refine wp_region_stage (fun V V' => Below V.heap.size V V') (fun m V => Hid (Below wr.heap.size wr V)) [(false, .exact (.slice (some ad1) m c1)),
          (false, .exact (.int .i64 (k : Int))),
          (false, .exact (.pointer (some (ad1.add (k * 19))))),
          (false, .exact (.agg cs1)),
          (false, .grows ((fun v V => ∃ cs', v = .agg cs' ∧ CkAt V V.heap.size cs' (strip a1)))),
          (false, .exact (.slice (some ad2) m c2)),
          (false, .exact (.int .i64 (k : Int))),
          (false, .exact (.pointer (some (ad2.add (k * 19))))),
          (false, .exact (.agg cs2)),
          (false, .grows ((fun v V => ∃ cs', v = .agg cs' ∧ CkAt V V.heap.size cs' (strip a1)))),
          (false, .exact (.bool true)),
          (false, .exact (.bool false))] (by kernel_rfl) (by kernel_rfl) (by kernel_rfl) rfl ?lasts ?start ?walk
      case lasts => exact ⟨fun v V V' h k => by obtain ⟨cs', rfl, h⟩ := h; exact ⟨cs', rfl, (h.below k).more k.size⟩, fun v V V' h k => by obtain ⟨cs', rfl, h⟩ := h; exact ⟨cs', rfl, (h.below k).more k.size⟩, trivial⟩
      case start => exact HSTT
      case walk =>
        refine stage_pure rfl (fun V => Below.refl _ V) (fun V m hS hl => by go_simp) ?_
        simp only [Act.put, List.setIfInBounds_toArray, List.set_cons_zero, List.set_cons_succ, List.cons_append, List.nil_append]
        refine stage_pure rfl (fun V => Below.refl _ V) (fun V m hS hl => by go_simp) ?_
        simp only [Act.put, List.setIfInBounds_toArray, List.set_cons_zero, List.set_cons_succ, List.cons_append, List.nil_append]
        refine stage_pure rfl (fun V => Below.refl _ V) (fun V m hS hl => by go_simp) ?_
        simp only [Act.put, List.setIfInBounds_toArray, List.set_cons_zero, List.set_cons_succ, List.cons_append, List.nil_append]
        refine stage_pure rfl (fun V => Below.refl _ V) (fun V m hS hl => by exact load_run_any rfl rfl (fun j v hv => (hS.out.cell (by rw [block_of_add, block_of_add]; exact HD1.out)).trans (HCELL1.out j v hv)) HSZ1.out) ?_
        simp only [Act.put, List.setIfInBounds_toArray, List.set_cons_zero, List.set_cons_succ, List.cons_append, List.nil_append]
        refine stage_grows rfl (fun V m hS hl => by
            go_simp
            refine (rstrip_k (Nat.le_trans HL1.out hS.out.size) (HAT1.out.keep (fun q hq => hS.out.cell (Nat.lt_of_lt_of_le hq HL1.out))) HK1.out.1 HK1.out.2).mono ?_
            rintro e V' ⟨⟨cs', rfl, h⟩, hb⟩
            exact ⟨_, rfl, hb, ⟨cs', rfl, h⟩, hS.out.trans (hb.mono hS.out.size)⟩) (fun v20 => ?_)
        simp only [Act.put, List.setIfInBounds_toArray, List.set_cons_zero, List.set_cons_succ, List.cons_append, List.nil_append]
        refine stage_pure rfl (fun V => Below.refl _ V) (fun V m hS hl => by go_simp) ?_
        simp only [Act.put, List.setIfInBounds_toArray, List.set_cons_zero, List.set_cons_succ, List.cons_append, List.nil_append]
        refine stage_pure rfl (fun V => Below.refl _ V) (fun V m hS hl => by go_simp) ?_
        simp only [Act.put, List.setIfInBounds_toArray, List.set_cons_zero, List.set_cons_succ, List.cons_append, List.nil_append]
        refine stage_pure rfl (fun V => Below.refl _ V) (fun V m hS hl => by go_simp) ?_
        simp only [Act.put, List.setIfInBounds_toArray, List.set_cons_zero, List.set_cons_succ, List.cons_append, List.nil_append]
        refine stage_pure rfl (fun V => Below.refl _ V) (fun V m hS hl => by exact load_run_any rfl rfl (fun j v hv => (hS.out.cell (by rw [block_of_add, block_of_add]; exact HD2.out)).trans (HCELL2.out j v hv)) HSZ2.out) ?_
        simp only [Act.put, List.setIfInBounds_toArray, List.set_cons_zero, List.set_cons_succ, List.cons_append, List.nil_append]
        refine stage_grows rfl (fun V m hS hl => by
            go_simp
            refine (rstrip_k (Nat.le_trans HL2.out hS.out.size) (HAT2.out.keep (fun q hq => hS.out.cell (Nat.lt_of_lt_of_le hq HL2.out))) HK2.out.1 HK2.out.2).mono ?_
            rintro e V' ⟨⟨cs', rfl, h⟩, hb⟩
            rw [← HST.out] at h
            exact ⟨_, rfl, hb, ⟨cs', rfl, h⟩, hS.out.trans (hb.mono hS.out.size)⟩) (fun v25 => ?_)
        simp only [Act.put, List.setIfInBounds_toArray, List.set_cons_zero, List.set_cons_succ, List.cons_append, List.nil_append]
        refine stage_exact rfl (fun V m hS hl => by
            obtain ⟨cs', rfl, h⟩ := (hl.1 (by kernel_rfl))
            obtain ⟨cs'', rfl, h'⟩ := (hl.2.1 (by kernel_rfl))
            go_simp
            refine (rsame_k h h' (Nat.le_refl _) (Nat.le_refl _)).mono ?_
            rintro e V' ⟨rfl, hb⟩
            exact ⟨_, rfl, hb, rfl, hS.out.trans (hb.mono hS.out.size)⟩) ?_
        simp only [Act.put, List.setIfInBounds_toArray, List.set_cons_zero, List.set_cons_succ, List.cons_append, List.nil_append]
        refine stage_pure rfl (fun V => Below.refl _ V) (fun V m hS hl => by go_simp) ?_
        simp only [Act.put, List.setIfInBounds_toArray, List.set_cons_zero, List.set_cons_succ, List.cons_append, List.nil_append]
        refine stage_nil (fun V2 hS hF => ?_)
        have HW2 := Lib.hid (HW.out.trans (hS.out.mono HW.out.size))
        clear hS hF HSTT
        go_wp2_with fail
        go_roundw
        case rel => exact ⟨k + 1, by omega, by go_num, HW2⟩
        case measure => simp [intOf]; omega
    · obtain rfl : k = m := by omega
      go_wp2_with fail
      go_ret
      exact ⟨rfl, HW.out⟩
end Go.Proofs.Ytpgklhecmafnbaa.Chk

namespace Go.Proofs.Ytpgklhecmafnbaa.Chk
open Go.ChangeShapes Go.WideShapes Go.ChangeAt Go.RowKit Go.Deep Go.Proofs.Ytpgklhecmafnbaa.Words Go.Proofs.Ytpgklhecmafnbaa.Oct Go.Proofs.Ytpgklhecmafnbaa.Par
open Go.Proofs.Ytpgklhecmafnbaa.Crc (sealL)

/-! ### how long -/
theorem fragE_le (c : Ck) : (fragE c).length ≤ 16 := by
  unfold fragE
  repeat' split
  all_goals (simp only [List.length_append, be_length]; omega)
theorem cont_le (c : Ck) : (cont c).length ≤ 2 * sizeC c + 20 := by
  have h0 := fragE_le c
  have hp := encL_le c.ps
  unfold cont sizeC
  repeat' split
  all_goals (try unfold greetE)
  all_goals (try unfold sackE)
  all_goals (try simp only [List.length_append, be_length, gapsE_length, dupsE_length, sksE_length, sksW_length, List.length_nil])
  all_goals omega
theorem bytesC_le (c : Ck) : (bytesC c).length ≤ 2 * sizeC c + 40 := by
  unfold bytesC
  rw [frame_len]
  have := cont_le c
  have h3 : padC (cont c).length ≤ 3 := by unfold padC; omega
  omega
theorem bodyB_le (ls : List Ck) : (bodyB ls).length ≤ 2 * sumC ls + 40 * ls.length := by
  induction ls with
  | nil => simp [bodyB]
  | cons c r ih =>
    rw [bodyB_cons, List.length_append, sumC_cons, List.length_cons]
    have := bytesC_le c
    omega
theorem sumC_take (ls : List Ck) (k : Nat) : sumC (ls.take k) ≤ sumC ls := by
  have h : sumC ls = sumC (ls.take k) + sumC (ls.drop k) := by
    unfold sumC
    rw [← List.sum_append, ← List.map_append, List.take_append_drop]
  omega
theorem bodyB_take (ls : List Ck) (k : Nat) : (bodyB (ls.take k)).length ≤ 2 * sumC ls + 40 * ls.length := by
  have h1 := bodyB_le (ls.take k)
  have h2 := sumC_take ls k
  have h3 : (ls.take k).length ≤ ls.length := by rw [List.length_take]; omega
  omega
/-- The packet's variable. -/
def pkV (f t g : Nat) (v : Value) : Array Value := #[.int .u16 (f : Int), .int .u16 (t : Int), .int .u32 (g : Int), v]
/-- Where Put stands: the packet's variable, the writer. -/
structure PPt (w V : World) (bp p : Nat) (pv v : Value) (f t g : Nat) (l : List UInt8) : Prop where
  wr : Wr V p w.heap.size v l
  pk : Blk V bp 44 (pkV f t g pv)
  below : Below w.heap.size w V
  bpp : bp < p
  lo : w.heap.size ≤ bp
section
variable {w V V' : World} {bp p : Nat} {pv v : Value} {f t g : Nat} {l l' : List UInt8} {e : Ending}
theorem PPt.step (h : PPt w V bp p pv v f t g l) (k : Wrote V p w.heap.size v l' e V') : ∃ v', e = .returned (.tuple #[]) ∧ Hid (PPt w V' bp p pv v' f t g l') := by
  obtain ⟨v', rfl, hw, hf, _⟩ := k
  refine ⟨v', rfl, hw, hf.blk h.pk ?_, below_fr h.below hf (Nat.le_refl _) ?_, h.bpp, h.lo⟩
  · rintro (e | e)
    · exact absurd e (by have := h.bpp; omega)
    · exact own_blk_ne h.wr.own h.pk (by decide) e.symm
  · rintro x (rfl | e)
    · have := h.bpp; have := h.lo; omega
    · exact (h.wr.own.lt x e.symm).1
theorem PPt.grows (h : PPt w V bp p pv v f t g l) (k : Below V.heap.size V V') : PPt w V' bp p pv v f t g l :=
  ⟨h.wr.grows k, h.pk.below k h.pk.lt, h.below.trans (k.mono h.below.size), h.bpp, h.lo⟩
theorem PPt.drew (h : PPt w V bp p pv v f t g l) : PPt w V.drew bp p pv v f t g l := h.grows (Below.drew (Below.refl _ _))
end
/-- What Put leaves. -/
def PutPk (w : World) (hd : List UInt8) (ls : List Ck) (e : Ending) (w' : World) : Prop :=
  (∃ (kk : Nat) (v : Value) (l : List UInt8), e = .returned (.tuple #[v, .int .i64 (kk : Int)]) ∧ kk ≤ 100 ∧ Own w' w.heap.size v l ∧ PutP hd ls kk l) ∧ Below w.heap.size w w'
theorem own_nil_ (w : World) (B : Nat) : Own w B (.slice none 0 0) [] := World.ownsRow_nil _ _ _ _
theorem allPuts_snoc {ls : List Ck} {k : Nat} (hk : k < ls.length) (h : AllPuts (ls.take k)) (hp : Puts ls[k]) : AllPuts (ls.take (k + 1)) := by
  rw [List.take_succ_eq_append_getElem hk]
  intro c hc
  rcases List.mem_append.1 hc with hc | hc
  · exact h c hc
  · simp only [List.mem_singleton] at hc
    rw [hc]; exact hp
theorem bad_at {ls : List Ck} {k e : Nat} (hk : k < ls.length) (h : AllPuts (ls.take k)) (he : PutErr ls[k] e) : BadL ls e :=
  ⟨ls.take k, ls[k], ls.drop (k + 1), by rw [← List.drop_eq_getElem_cons hk, List.take_append_drop], h, he⟩
set_option maxHeartbeats 8000000 in
set_option maxRecDepth 100000 in
theorem put_p {w : World} {n c f t g : Nat} {A : Option Addr} {ls : List Ck} (h : Cks w w.heap.size A ls) (hn : n = ls.length) (hs : sumC ls ≤ 300000) (hf : f < 65536) (ht : t < 65536) (hg : g < 4294967296) :
    Calls Try.prog 17 #[.agg (pkV f t g (.slice A n c))] w (PutPk w (headB f t g) ls) := by
  have HC := Lib.hid h
  have HN := Lib.hid hn
  have HSC := Lib.hid hs
  have hn6 : n ≤ 75000 := by have := sumC_len ls; omega
  obtain ⟨F, hF⟩ : ∃ F, F = fitsL ls := ⟨_, rfl⟩
  have HF := Lib.hid hF
  have HBL := Lib.hid (Blk.new w 44 (pkV f t g (.slice A n c)))
  have HB := Lib.hid ((Below.refl w.heap.size w).alloc (Nat.le_refl _) (.cells (pkV f t g (.slice A n c)) 44))
  clear h hn hs
  unfold pkV
  go_enter Try.func17, Try.ntmps17
  go_upto_region 1 with (fail)
  obtain ⟨W1, hW1⟩ : ∃ W1, W1 = w.alloc (.cells #[.int .u16 (f : Int), .int .u16 (t : Int), .int .u32 (g : Int), .slice A n c] 44) := ⟨_, rfl⟩
  have hW1' : W1 = w.alloc (.cells (pkV f t g (.slice A n c)) 44) := hW1
  rw [← hW1'] at HBL HB
  rw [← hW1]
  obtain ⟨bp, hbp⟩ : ∃ b, b = w.heap.size := ⟨_, rfl⟩
  have HG1 : Hid (Blk W1 bp 44 (pkV f t g (.slice A n c))) := by rw [hbp]; exact HBL
  have hlo : w.heap.size ≤ bp := by omega
  rw [← hbp]
  have c3 : W1.cell? ⟨bp, 3, none⟩ = some (.slice A n c) := HG1.out.cell 3
  clear hW1 hW1' HBL hbp
  go_wp2_with fail
  refine (formed_k (HC.out.below HB.out) HB.out.size HN.out (by omega)).mono ?_
  rintro e W2 ⟨rfl, hb2⟩
  have HB2 := Lib.hid (HB.out.trans (hb2.mono HB.out.size))
  have HG2 : Hid (Blk W2 bp 44 (pkV f t g (.slice A n c))) := HG1.out.below hb2 HG1.out.lt
  rw [← hF]
  clear c3 hb2 HG1 HB hF
  cases F
  · go_wp2_with fail
    go_ret2
    exact ⟨⟨42, _, [], rfl, by omega, own_nil_ _ _, .inl ⟨HF.out.symm, rfl, rfl⟩⟩, HB2.out⟩
  have HFI : Hid (1 ≤ n ∧ n ≤ 64) := by have := fitsL_iff.1 HF.out.symm; rw [← HN.out] at this; exact ⟨this.1, this.2.1⟩
  have HLE : Hid (∀ k, (bodyB (ls.take k)).length ≤ 602560) := fun k => by have h1 := bodyB_take ls k; have h2 := HSC.out; have h3 := HFI.out; rw [← HN.out] at h1; omega
  go_upto_region 4 with fail
  obtain ⟨W3, hW3⟩ : ∃ W3, W3 = W2.alloc (.cells #[.slice none 0 0] 94) := ⟨_, rfl⟩
  obtain ⟨p, hp⟩ : ∃ p, p = W2.heap.size := ⟨_, rfl⟩
  have HS3 : Hid (PPt w W3 bp p (.slice A n c) (.slice none 0 0) f t g []) := by
    have hb := (Below.refl W2.heap.size W2).alloc (Nat.le_refl _) (.cells #[.slice none 0 0] 94)
    have h0 := HG2.out.lt
    rw [hW3, hp]
    exact ⟨⟨Blk.new _ _ _, World.ownsRow_nil _ _ _ _⟩, HG2.out.below hb HG2.out.lt, HB2.out.trans (hb.mono HB2.out.size), h0, hlo⟩
  rw [← hW3, ← hp]
  clear hW3 hp HG2 HB2
  have q0 : W3.cell? ⟨bp, 0, none⟩ = some (.int .u16 (f : Int)) := HS3.out.pk.cell 0
  go_wp2_with fail
  refine (wr_u16 f hf HS3.out.wr HS3.out.below.size (by simp)).mono ?_
  intro e V4 hd
  obtain ⟨v4, rfl, HS4⟩ := HS3.out.step hd
  clear hd q0 HS3
  have q1 : V4.cell? ⟨bp, 1, none⟩ = some (.int .u16 (t : Int)) := HS4.out.pk.cell 1
  go_wp2_with fail
  refine (wr_u16 t ht HS4.out.wr HS4.out.below.size (by rw [List.length_append, be_length]; simp)).mono ?_
  intro e V5 hd
  obtain ⟨v5, rfl, HS5⟩ := HS4.out.step hd
  clear hd q1 HS4
  have q2 : V5.cell? ⟨bp, 2, none⟩ = some (.int .u32 (g : Int)) := HS5.out.pk.cell 2
  go_wp2_with fail
  refine (wr_u32 g hg HS5.out.wr HS5.out.below.size (by rw [List.length_append, List.length_append, be_length, be_length]; simp)).mono ?_
  intro e V6 hd
  obtain ⟨v6, rfl, HS6⟩ := HS5.out.step hd
  clear hd q2 HS5
  go_wp2_with fail
  refine (wr_u32 0 (by omega) HS6.out.wr HS6.out.below.size (by rw [List.length_append, List.length_append, List.length_append, be_length, be_length, be_length]; simp)).mono ?_
  intro e V7 hd
  obtain ⟨v7, rfl, HS7⟩ := HS6.out.step hd
  clear hd HS6
  obtain ⟨hd, hhd⟩ : ∃ hd, hd = headB f t g := ⟨_, rfl⟩
  have HHL : Hid (hd.length = 12) := by rw [hhd]; exact headB_len f t g
  have HS7 : Hid (PPt w V7 bp p (.slice A n c) v7 f t g hd) := by
    have e : hd = [] ++ be f 2 ++ be t 2 ++ be g 4 ++ be 0 4 := by rw [hhd]; unfold headB; simp only [List.nil_append, List.append_assoc]
    rw [e]; exact HS7.out
  rw [← hhd]
  have HHD := Lib.hid hhd
  have q3 : V7.cell? ⟨bp, 3, none⟩ = some (.slice A n c) := HS7.out.pk.cell 3
  clear hhd hf ht hg
  go_wp2_with fail
  go_loopw [2, 3, 6, 7, 8, 34] (fun _ _ _ _ _ i wr => ∃ (k : Nat) (v : Value), k ≤ n ∧ i = .int .i64 k ∧ Hid (PPt w wr bp p (.slice A n c) v f t g (hd ++ bodyB (ls.take k))) ∧ Hid (AllPuts (ls.take k))) (fun _ _ _ _ _ i _ => n - (intOf i).toNat)
  case atStart => exact ⟨0, v7, by omega, rfl, by rw [List.take_zero, bodyB_nil, List.append_nil]; exact HS7, fun c hc => by simp at hc⟩
  case round =>
    obtain ⟨k, v, hk, rfl, HS, HA⟩ := hrel
    by_cases hlt : k < n
    · have hk2 : k < ls.length := by rw [← HN.out]; exact hlt
      obtain ⟨ad, cs, rfl, hblk, hsz, hat, hcell⟩ := HC.out.nthw (Nat.le_refl _) HS.out.below hk2
      obtain ⟨ck, hck⟩ : ∃ ck, ck = ls[k] := ⟨_, rfl⟩
      rw [← hck] at hat
      have HSZ := Lib.hid hsz
      have HCELL := Lib.hid hcell
      have HONE := Lib.hid hat.one
      have HAT := Lib.hid hat
      have HCK := Lib.hid hck
      have HSM : Hid (Small ck) := small_size (by have h1 := sumC_mem (c := ck) (ls := ls) (by rw [hck]; exact List.getElem_mem _); have h2 := HSC.out; omega)
      clear hsz hat hcell hblk hck
      go_upto_region 11 with (first
        | (refine wpList_load_any rfl 32 _ rfl (ad.add (k * 19)) rfl cs _ HCELL.out Try.underlying32 rfl (by rw [HSZ.out]; exact chunk_info) ?_)
        | (refine wpList_store_row rfl 32 _ _ rfl wr.heap.size cs rfl rfl 32 _ (Blk.new wr 32 _) (by rw [HSZ.out]; exact chunk_info) (by rw [HSZ.out]; rfl) HONE.out ?_))
      obtain ⟨W2, hW2, HC2, HB2⟩ := kept_var wr cs
      obtain ⟨g0, hg0⟩ : ∃ g0, g0 = wr.heap.size := ⟨_, rfl⟩
      rw [← hg0] at HC2
      rw [← hW2, ← hg0]
      have HSW := Lib.hid (HS.out.grows HB2)
      have HG2 := Lib.hid HC2
      have HAT2 : Hid (CkAt W2 W2.heap.size cs ck) := (HAT.out.keep (fun q hq => HB2.cell (Nat.lt_of_lt_of_le hq HS.out.below.size))).more HSW.out.below.size
      clear hW2 hg0 HC2 HB2 HCELL HONE HAT HS
      go_wp2_with (refine wpList_load_row rfl 32 _ rfl g0 rfl 32 cs (0, 0) _ HG2.out Try.underlying32 rfl (by rw [HSZ.out]; exact chunk_info) ?_)
      refine (put_k HSM.out HAT2.out).mono ?_
      rintro e W3 ⟨hd2, hb3⟩
      have HSX := Lib.hid (HSW.out.grows hb3)
      rcases hd2 with ⟨v3, hp3, rfl, ho3⟩ | ⟨k3, hk3, rfl⟩
      · obtain ⟨y, hy⟩ : ∃ y, y = bytesC ck := ⟨_, rfl⟩
        rw [← hy] at ho3
        obtain ⟨ny, hny⟩ : ∃ ny, ny = y.length := ⟨_, rfl⟩
        obtain ⟨A3, c3, rfl, h3a, h3b, HY3⟩ := own_as ho3 hny
        have HT : Hid (bodyB (ls.take (k + 1)) = bodyB (ls.take k) ++ y) := by show _ = _; rw [List.take_succ_eq_append_getElem hk2, bodyB_snoc, hy, HCK.out]
        have HL2 : Hid ((hd ++ bodyB (ls.take k)).length ≤ 1000000 ∧ ny ≤ 1000000) := by
          have h1 := HLE.out k
          have h2 := HLE.out (k + 1)
          have h3 := HHL.out
          rw [HT.out, List.length_append, ← hny] at h2
          rw [List.length_append]
          exact ⟨by omega, by omega⟩
        have HA2 : Hid (AllPuts (ls.take (k + 1))) := allPuts_snoc hk2 HA.out (by rw [← HCK.out]; exact hp3)
        have HNY := Lib.hid hny
        clear hy hny ho3 hb3 hp3 HAT2 HG2 HSW
        go_wp2_with fail
        refine (wr_put HSX.out.wr HSX.out.below.size HL2.out.1 HNY.out HL2.out.2 HY3.out).mono ?_
        intro e V9 hd9
        obtain ⟨v9, rfl, HS9⟩ := HSX.out.step hd9
        have HS9 : Hid (PPt w V9 bp p (.slice (some ad) n c) v9 f t g (hd ++ bodyB (ls.take (k + 1)))) := by rw [HT.out, ← List.append_assoc]; exact HS9
        clear hd9 HSX
        go_wp2_with fail
        go_roundw
        case rel => exact ⟨k + 1, v9, by omega, by go_num, HS9, HA2⟩
        case measure => simp [intOf]; omega
      · have hkp := err_pos' hk3
        have HBAD : Hid (BadL ls k3) := bad_at hk2 HA.out (by rw [← HCK.out]; exact hk3)
        have hne : ((k3 : Int) != 0) = true := by simp; omega
        clear hk3
        go_wp2_with fail
        go_ret2
        exact ⟨⟨k3, _, [], rfl, hkp.2, own_nil_ _ _, .inr (.inl ⟨HF.out.symm, HBAD.out, rfl⟩)⟩, HSX.out.below⟩
    · obtain rfl : k = n := by omega
      have HFull : Hid (ls.take k = ls) := List.take_of_length_le (by rw [HN.out]; exact Nat.le_refl _)
      have HS1 : Hid (PPt w wr bp p (.slice A k c) v f t g (hd ++ bodyB ls)) := by have := HS.out; rw [HFull.out] at this; exact this
      have HA1 : Hid (AllPuts ls) := by have := HA.out; rw [HFull.out] at this; exact this
      have HLL : Hid ((bodyB ls).length ≤ 602560) := by have := HLE.out k; rw [HFull.out] at this; exact this
      obtain ⟨l, hl⟩ : ∃ l, l = hd ++ bodyB ls := ⟨_, rfl⟩
      rw [← hl] at HS1
      obtain ⟨m, hm⟩ : ∃ m, m = l.length := ⟨_, rfl⟩
      have HM : Hid (m = 12 + (bodyB ls).length) := by rw [hm, hl, List.length_append, HHL.out]; rfl
      have hm6 : m ≤ 700000 := by have := HM.out; have := HLL.out; omega
      have hm12 : 12 ≤ m := by have := HM.out; omega
      have HML := Lib.hid hm
      have HL := Lib.hid hl
      clear HS HA hl hm
      go_wp2_with fail
      refine (wr_len HS1.out.wr).mono ?_
      rintro e w' ⟨rfl, rfl⟩
      rw [← HML.out]
      by_cases hbig : (1200 : Int) < (m : Int)
      · go_wp2_with fail
        go_ret2
        exact ⟨⟨43, _, [], rfl, by omega, own_nil_ _ _, .inr (.inr (.inl ⟨HF.out.symm, HA1.out, by have := HM.out; omega, rfl, rfl⟩))⟩, HS1.out.below⟩
      · go_wp2_with fail
        refine (wr_out HS1.out.wr (by rw [← HML.out]; omega)).mono ?_
        rintro e W8 ⟨⟨u, rfl, ho8⟩, hb8⟩
        obtain ⟨A8, c8, rfl, h8a, h8b⟩ := own_slice ho8
        have HB8 := Lib.hid (HS1.out.below.trans (hb8.mono HS1.out.below.size))
        have HY8 : Hid (Byt W8 W8.heap.size A8 l) := Own.byt ho8
        have HCA : Hid (l.length ≤ c8) := h8a
        clear ho8 hb8 h8a
        go_wp2_with fail
        refine (Crc.seal_any A8 l c8 8 W8 HCA.out h8b (by rw [← HML.out]; omega) HY8.out (by rw [← HML.out]; omega)).mono ?_
        rintro e W9 ⟨v9, rfl, ho9, hb9⟩
        have HO9 := Lib.hid ho9
        have HB9 := Lib.hid (HB8.out.trans (hb9.mono HB8.out.size))
        clear ho9 hb9
        go_wp2_with fail
        go_ret2
        refine ⟨⟨0, v9, sealL l 8, rfl, by omega, own_mono HO9.out HB8.out.size, .inr (.inr (.inr ⟨HF.out.symm, HA1.out, by have := HM.out; omega, rfl, ?_⟩))⟩, HB9.out⟩
        rw [HL.out, HHD.out]
end Go.Proofs.Ytpgklhecmafnbaa.Chk

namespace Go.Proofs.Ytpgklhecmafnbaa.Chk
open Go.ChangeShapes Go.WideShapes Go.ChangeAt Go.RowKit Go.Deep Go.Proofs.Ytpgklhecmafnbaa.Words Go.Proofs.Ytpgklhecmafnbaa.Oct Go.Proofs.Ytpgklhecmafnbaa.Par
open Go.Proofs.Ytpgklhecmafnbaa.Crc (sealL)

/-! ### a row of chunks of the call's own -/
theorem chunk_info3 : (Try.prog.info? 32).map (fun i => (i.zero, i.size, i.bytes)) = some (some (.agg zeroA), 19, 160) := by kernel_rfl
def OwnCks (w : World) (B : Nat) (v : Value) (ls : List Ck) : Prop :=
  ∃ xs, w.ownsRow B 32 19 v ls.length xs ∧ ∀ k c, ls[k]? = some c → c.ok ∧ ∃ cs : Array Value, (∀ j u, cs[j]? = some u → xs[k * 19 + j]? = some u) ∧ CkOwn w B cs c
theorem CkOwn.size {w : World} {B : Nat} {cs : Array Value} {c : Ck} (h : CkOwn w B cs c) : cs.size = 19 := by obtain ⟨_, _, _, _, _, rfl, _⟩ := h; rfl
section
variable {w w' : World} {B B' : Nat} {v v' : Value} {ls : List Ck} {c : Ck} {cs : Array Value}
theorem ownPs_beside {e : TypeId} {size n : Nat} {vp : Value} {ps : List Prm} {xs : List Value} (h : OwnPs w B vp ps) (hx : w.ownsRow B' e size v n xs) (h1 : 131 ≠ e) (h2 : 5 ≠ e) (k : w.grownBy w' v.ownBlock) : OwnPs w' B vp ps := by
  obtain ⟨ys, h3, h4⟩ := h
  refine ⟨ys, own_beside h3 hx h1 k, fun i p hp => ?_⟩
  obtain ⟨q1, a, c, q2, q3, q4, q5, q6⟩ := h4 i p hp
  exact ⟨q1, a, c, q2, q3, q4, q5, own_beside q6 hx h2 k⟩
theorem CkOwn.beside {n : Nat} {xs : List Value} (h : CkOwn w B cs c) (hx : w.ownsRow B' 32 19 v n xs) (k : w.grownBy w' v.ownBlock) : CkOwn w' B cs c := by
  obtain ⟨gv, dv, sv, pv, bv, e, h1, h2, h3, h4, h5⟩ := h
  exact ⟨gv, dv, sv, pv, bv, e, own_beside h1 hx (by decide) k, own_beside h2 hx (by decide) k, own_beside h3 hx (by decide) k, ownPs_beside h4 hx (by decide) (by decide) k, own_beside h5 hx (by decide) k⟩
theorem OwnCks.nil (w : World) (B : Nat) : OwnCks w B (.slice none 0 0) [] := ⟨[], World.ownsRow_nil _ _ _ _, fun k p h => by simp at h⟩
theorem OwnCks.fr {S : Nat → Prop} (h : OwnCks w B v ls) (k : Fr S w w') (hS : ∀ i, S i → i < w.heap.size → i < B) : OwnCks w' B v ls := by
  obtain ⟨xs, h1, h2⟩ := h
  refine ⟨xs, k.own h1 (fun g hg hi => by have := h1.lt g hg; have := hS g hi this.2; omega), fun i p hp => ?_⟩
  obtain ⟨h3, cs, h4, h5⟩ := h2 i p hp
  exact ⟨h3, cs, h4, h5.fr k hS⟩
theorem OwnCks.grows (h : OwnCks w B v ls) (k : Below w.heap.size w w') : OwnCks w' B v ls := h.fr (Fr.of_below k) (fun i hi hlt => by omega)
theorem OwnCks.mono (h : OwnCks w B v ls) (hB : B' ≤ B) : OwnCks w B' v ls := by
  obtain ⟨xs, h1, h2⟩ := h
  refine ⟨xs, own_mono h1 hB, fun i p hp => ?_⟩
  obtain ⟨h3, cs, h4, h5⟩ := h2 i p hp
  exact ⟨h3, cs, h4, h5.mono hB⟩
theorem OwnCks.slice (h : OwnCks w B v ls) : ∃ A c, v = .slice A ls.length c ∧ ls.length ≤ c ∧ c ≤ 9223372036854775807 := by
  obtain ⟨xs, h1, _⟩ := h
  exact own_slice h1
theorem OwnCks.cks {A : Option Addr} {n c : Nat} (h : OwnCks w B (.slice A n c) ls) : Cks w w.heap.size A ls := fun k p hp => by
  obtain ⟨xs, h1, h2⟩ := h
  obtain ⟨h3, cs, h4, h5⟩ := h2 k p hp
  have hk : k < ls.length := (List.getElem?_eq_some_iff.1 hp).1
  obtain ⟨g, cap, hv, hg1, hg2⟩ := h1.form (by omega)
  injection hv with hv _ _
  subst hv
  refine ⟨⟨g, 0, none⟩, cs, rfl, hg2, h5.at_ h3, fun j u hu => ?_⟩
  rw [add_of_add]
  exact h1.cells (g := g) rfl _ _ (h4 j u hu)
theorem OwnCks.snoc {n : Nat} {xs : List Value} (hx : w.ownsRow B 32 19 v ls.length xs) (hxs : ∀ k c, ls[k]? = some c → c.ok ∧ ∃ cs : Array Value, (∀ j u, cs[j]? = some u → xs[k * 19 + j]? = some u) ∧ CkOwn w B cs c)
    (hg : w.grownBy w' v.ownBlock) (ho : w'.ownsRow B 32 19 v' n (xs ++ cs.toList)) (hn : n = ls.length + 1) (hc : CkOwn w B cs c) (ok : c.ok) : OwnCks w' B v' (ls ++ [c]) := by
  have hl := hx.1
  refine ⟨_, by rw [List.length_append, List.length_singleton, ← hn]; exact ho, fun k q hq => ?_⟩
  by_cases hk : k < ls.length
  · rw [List.getElem?_append_left hk] at hq
    obtain ⟨h3, cs', h4, h5⟩ := hxs k q hq
    refine ⟨h3, cs', fun j u hu => ?_, h5.beside hx hg⟩
    have hj : j < 19 := by have := (Array.getElem?_eq_some_iff.1 hu).1; rw [h5.size] at this; exact this
    rw [List.getElem?_append_left (by omega)]
    exact h4 j u hu
  · rw [List.getElem?_append_right (by omega)] at hq
    have hk0 : k - ls.length = 0 := by
      have := (List.getElem?_eq_some_iff.1 hq).1
      simp at this
      omega
    rw [hk0] at hq
    simp only [List.getElem?_cons_zero, Option.some.injEq] at hq
    subst hq
    have hkl : k = ls.length := by omega
    subst hkl
    refine ⟨ok, cs, fun j u hu => ?_, hc.beside hx hg⟩
    rw [List.getElem?_append_right (by omega), show ls.length * 19 + j - xs.length = j by omega]
    simpa using hu
end
/-! ### a slice literal of one chunk -/
theorem fill_ck (c : Ck) (gv dv sv pv bv : Value) : Instr.fill (fun i => some (i * 19, 19)) ((Array.range (1 * 19)).map ((Value.agg zeroA).cells[· % (Value.agg zeroA).cells.size]!)) [(0, .agg (ckArr c gv dv sv pv bv))] = some (ckArr c gv dv sv pv bv) := by kernel_rfl
theorem wpList_slice_ck {ops : Array Oper} {rest : List Oper} {o : Oper} {a : Act} {w : World} {Q : Exit → Act → World → Prop} (hg : o.guard = none) (x : Operand) (ho : o.op = .buildSlice 42 1 #[(0, x)]) (cs : Array Value) (hx : a.eval x = .agg cs)
    (hcs : ∃ c gv dv sv pv bv, cs = ckArr c gv dv sv pv bv) (h : wpList Try.prog ops Q rest (a.put o.dst (.slice (some ⟨w.heap.size, 0, none⟩) 1 1)) (w.alloc (.cells cs 32))) : wpList Try.prog ops Q (o :: rest) a w := by
  obtain ⟨c, gv, dv, sv, pv, bv, rfl⟩ := hcs
  obtain ⟨i, hi, hz, hs, _⟩ := info_parts3 chunk_info3
  refine wpList_buildSlice hg 42 32 1 #[(0, x)] ho (ckArr c gv dv sv pv bv) i (.agg zeroA) Try.underlying42 hi hz (by rw [hs]; decide) (by rw [hs]; decide) ?_ h
  rw [hs]
  have e : ((#[(0, x)] : Array (Nat × Operand)).map fun (i, x) => (i, a.eval x)).toList = [(0, .agg (ckArr c gv dv sv pv bv))] := by simp [hx]
  rw [e]
  exact fill_ck c gv dv sv pv bv
theorem CkAt.arr {w : World} {B : Nat} {cs : Array Value} {c : Ck} (h : CkAt w B cs c) : ∃ c gv dv sv pv bv, cs = ckArr c gv dv sv pv bv := by
  obtain ⟨_, g, d, s, p, b, e, _⟩ := h
  exact ⟨_, _, _, _, _, _, e⟩
theorem CkOwn.arr {w : World} {B : Nat} {cs : Array Value} {c : Ck} (h : CkOwn w B cs c) : ∃ c gv dv sv pv bv, cs = ckArr c gv dv sv pv bv := by
  obtain ⟨gv, dv, sv, pv, bv, e, _⟩ := h
  exact ⟨_, _, _, _, _, _, e⟩
theorem ck_cells1 {cs : Array Value} (h : ∃ c gv dv sv pv bv, cs = ckArr c gv dv sv pv bv) (h1 : cs.all (·.oneCell') = true) : ∀ u ∈ cs.toList, u.oneCell' = true := by
  intro u hu
  have := Array.all_eq_true'.1 h1 u (by simpa using hu)
  exact this

/-! ### skipped -/
set_option maxHeartbeats 2000000 in
set_option maxRecDepth 100000 in
theorem skipped_k {w : World} {A : Option Addr} {b : List UInt8} {n cap : Nat} (hn : n = b.length) (hn4 : 4 ≤ n) (hnc : n ≤ cap) (hcm : cap ≤ 9223372036854775807) (hy : Byt w w.heap.size A b) :
    Calls Try.prog 87 #[.slice A n cap] w fun e w' => e = .returned (.int .i64 (((num ((b.drop 2).take 2) + 3) / 4 * 4 : Nat) : Int)) ∧ Below w.heap.size w w' := by
  obtain ⟨ad, rfl, _, _⟩ := hy.at_byte (show 0 < b.length by omega)
  obtain ⟨x, hx⟩ : ∃ x, x = (b.drop 2).take 2 := ⟨_, rfl⟩
  have hxl : 2 = x.length := by rw [hx, List.length_take, List.length_drop]; omega
  have HY : Hid (Byt w w.heap.size (some (ad.add 2)) x) := by rw [hx]; exact (hy.cut_map (k := 2) (by omega)).take_ 2
  have HXL := Lib.hid hxl
  obtain ⟨m, hm⟩ : ∃ m, m = num x := ⟨_, rfl⟩
  have hmb : m < 65536 := by rw [hm, hx]; exact take2 b 2
  have HM : Hid (num (x.take 2) = m) := by rw [hm, List.take_of_length_le (by omega)]; rfl
  rw [← hx, ← hm]
  have w1 : IntKind.i64.wrap (m : Int) = (m : Int) := IntWalk.i64_in _ (by omega)
  have q1 : (4 : Int) ≤ (cap : Int) := by omega
  have q2 : 4 ≤ cap := by omega
  have q3 : cap - 2 ≤ 9223372036854775807 := by omega
  have q4 : 2 ≤ cap - 2 := by omega
  have q5 : ¬ cap = 2 := by omega
  have HCALL := Lib.hid (newReader_any (some (ad.add 2)) x 2 (cap - 2) w hxl (by omega) HY.out)
  clear hx hxl hm
  go_enter Try.func87, Try.ntmps87
  go_wp2_with fail
  refine HCALL.out.mono ?_
  rintro e W2 ⟨p, G, rfl, hrd, hG, hb2⟩
  have HR := Lib.hid hrd
  have HB2 := Lib.hid hb2
  have HGG := Lib.hid hG
  clear hrd hb2 hG
  go_wp2_with fail
  refine (rd_u16 HR.out (by rw [← HXL.out]; exact Nat.le_refl _)).mono ?_
  rintro e W3 ⟨rfl, h1, h2⟩
  have HB3 : Hid (Below w.heap.size w W3) := below_fr HB2.out h2 (Nat.le_refl _) (fun i e => by have e' : i = p := e; have := HGG.out; have := HR.out.le; omega)
  rw [HM.out]
  clear h1 h2
  have e1 : ((m : Int) + 4 - 1).tdiv 4 = (((m + 3) / 4 : Nat) : Int) := by
    rw [show (m : Int) + 4 - 1 = ((m + 3 : Nat) : Int) by omega]
    exact (Int.ofNat_tdiv _ _).symm
  have e2 : ((m : Int) + 4 - 1) / 4 = (((m + 3) / 4 : Nat) : Int) := by omega
  have e3 : ((m : Int) + 4 - 1) / 4 * 4 = (((m + 3) / 4 * 4 : Nat) : Int) := by omega
  go_wp2_with fail
  go_ret
  refine ⟨?_, HB3.out⟩
  first | rfl | (congr 2; omega) | (simp; omega)
end Go.Proofs.Ytpgklhecmafnbaa.Chk

namespace Go.Proofs.Ytpgklhecmafnbaa.Chk
open Go.ChangeShapes Go.WideShapes Go.ChangeAt Go.RowKit Go.Deep Go.Proofs.Ytpgklhecmafnbaa.Words Go.Proofs.Ytpgklhecmafnbaa.Oct Go.Proofs.Ytpgklhecmafnbaa.Par
open Go.Proofs.Ytpgklhecmafnbaa.Crc (sealL)

def lenOf : Value → Nat
  | .slice _ n _ => n
  | _ => 0
/-- What chunks leaves. -/
def ChunksPk (w : World) (b : List UInt8) (e : Ending) (w' : World) : Prop :=
  Below w.heap.size w w' ∧ ((∃ v ls, chunksP b = .ok ls ∧ ls.length ≤ 400 ∧ e = .returned (.tuple #[v, .int .i64 0]) ∧ OwnCks w' w.heap.size v ls) ∨ (∃ k : Nat, chunksP b = .error k ∧ e = .returned (.tuple #[.slice none 0 0, .int .i64 (k : Int)])))
theorem first_byte {b : List UInt8} (h : 0 < b.length) : num (b.take 1) = (b[0]).toNat := num_one b h
theorem step_ok {r : List UInt8} {c : Ck} {n : Nat} (h : getC r = .ok (c, n)) : stepP r = .ok ([c], n) := by unfold stepP; rw [h]
theorem step_skip {r : List UInt8} (h : getC r = .error 60) (h8 : 128 ≤ num (r.take 1)) : stepP r = .ok ([], (num ((r.drop 2).take 2) + 3) / 4 * 4) := by unfold stepP; rw [h]; simp [h8]
theorem step_err {r : List UInt8} {k : Nat} (h : getC r = .error k) (h8 : ¬ (k = 60 ∧ 128 ≤ num (r.take 1))) : stepP r = .error k := by unfold stepP; rw [h]; simp only; rw [if_neg h8]
theorem chunks_on {b r : List UInt8} {acc l : List Ck} {n : Nat} (h : chunksP b = consP acc (chunksP r)) (hr : r ≠ []) (hs : stepP r = .ok (l, n)) : chunksP b = consP (acc ++ l) (chunksP (r.drop n)) := by
  rw [h, chunksP_step hr, hs]
  exact consP_two _ _ _
theorem chunks_end {b r : List UInt8} {acc : List Ck} {k : Nat} (h : chunksP b = consP acc (chunksP r)) (hr : r ≠ []) (hs : stepP r = .error k) : chunksP b = .error k := by
  rw [h, chunksP_step hr, hs]
  rfl
/-- Where chunks stands: what is left, the row. -/
structure ChkSt (w V : World) (b : List UInt8) (A0 : Option Addr) (r : List UInt8) (v : Value) (acc : List Ck) : Prop where
  byt : Byt w w.heap.size A0 r
  own : OwnCks V w.heap.size v acc
  eq : chunksP b = consP acc (chunksP r)
  below : Below w.heap.size w V
theorem ChkSt.grows {w V V' : World} {b r : List UInt8} {A0 : Option Addr} {v : Value} {acc : List Ck} (h : ChkSt w V b A0 r v acc) (k : Below V.heap.size V V') : ChkSt w V' b A0 r v acc :=
  ⟨h.byt, h.own.grows k, h.eq, h.below.trans (k.mono h.below.size)⟩
set_option maxHeartbeats 8000000 in
set_option maxRecDepth 100000 in
theorem chunks_k {w : World} {A : Option Addr} {b : List UInt8} {n cap : Nat} (hn : n = b.length) (hn12 : n ≤ 1200) (hnc : n ≤ cap) (hcm : cap ≤ 9223372036854775807) (hy : Byt w w.heap.size A b) :
    Calls Try.prog 59 #[.slice A n cap] w (ChunksPk w b) := by
  obtain ⟨j0, hj0, hjz0, hjz1, hjz2⟩ := info_parts3 chunk_info3
  have HS0 : Hid (ChkSt w w b A b (.slice none 0 0) []) := ⟨hy, OwnCks.nil _ _, by rw [consP_nil], Below.refl _ _⟩
  have HN := Lib.hid hn
  clear hy hn
  go_enter Try.func59, Try.ntmps59
  go_wp2_with fail
  go_loopw [0, 2, 3, 4, 5, 6, 7, 21, 32] (fun s0 _ _ s4 _ _ _ _ _ wr => ∃ (m c0 k cp : Nat) (A0 As : Option Addr) (r : List UInt8) (acc : List Ck), s0 = .slice A0 m c0 ∧ s4 = .slice As k cp ∧ m ≤ c0 ∧ c0 ≤ 9223372036854775807 ∧ k ≤ cp ∧ cp ≤ 9223372036854775807 ∧ 4 * k + m ≤ 1200 ∧ Hid (m = r.length) ∧ Hid (k = acc.length) ∧ Hid (ChkSt w wr b A0 r (.slice As k cp) acc)) (fun s0 _ _ _ _ _ _ _ _ _ => lenOf s0)
  case atStart => exact ⟨n, cap, 0, 0, A, none, b, [], rfl, rfl, hnc, hcm, by omega, by omega, by omega, HN, rfl, HS0⟩
  case round =>
    obtain ⟨m, c0, k, cp, A0, As, r, acc, rfl, rfl, hmc, hcm0, hkc, hcm1, hkm, HM, HK, HS⟩ := hrel
    by_cases h0 : m = 0
    · subst h0
      have HR : Hid (r = []) := List.eq_nil_of_length_eq_zero HM.out.symm
      have HE : Hid (chunksP b = .ok acc) := by have := HS.out.eq; rw [HR.out, chunksP_nil] at this; rw [this]; show consP acc (.ok []) = _; simp [consP]
      go_wp2_with fail
      go_ret2
      exact ⟨HS.out.below, .inl ⟨_, acc, HE.out, by rw [← HK.out]; omega, rfl, HS.out.own⟩⟩
    have hm0 : (0 : Int) < (m : Int) := by omega
    have hrl : 0 < r.length := by rw [← HM.out]; omega
    have HRN : Hid (r ≠ []) := by intro h; rw [h] at hrl; simp at hrl
    obtain ⟨ad, rfl, _, _⟩ := HS.out.byt.at_byte hrl
    obtain ⟨kd, hkd⟩ : ∃ kd, kd = (r[0]).toNat := ⟨_, rfl⟩
    have hc0 : w.cell? ad = some (.int .u8 (kd : Int)) := by
      obtain ⟨ad', e, _, hc⟩ := HS.out.byt.at_byte hrl
      injection e with e
      subst e
      rw [hkd]
      exact hc
    have had : ad.block < w.heap.size := World.block_lt_of_cell? w _ hc0
    have hkb : kd < 256 := by rw [hkd]; exact (r[0]).toNat_lt
    have HKD : Hid (kd = num (r.take 1)) := by rw [first_byte hrl]; exact hkd
    have HC0 := Lib.hid hc0
    have HGET := Lib.hid (get_k HM.out hmc hcm0 ((HS.out.byt.below HS.out.below).more HS.out.below.size))
    clear hkd hc0 h0
    go_wp2_with fail
    refine HGET.out.mono ?_
    rintro e W3 hd
    obtain ⟨kk, nn, cs, c, rfl, hb3, ho3, ok3, hn3, hn65, hw3⟩ := get_norm hd
    have HW := Lib.hid hw3
    have HO := Lib.hid ho3
    have HOK := Lib.hid ok3
    have HSZ := Lib.hid ho3.size
    have HONE := Lib.hid (ho3.at_ ok3).one
    have HARR := Lib.hid ho3.arr
    have HSX := Lib.hid (HS.out.grows hb3)
    have HLB : Hid (w.heap.size ≤ wr.heap.size) := HS.out.below.size
    have hkk : kk ≤ 100 := by
      rcases hw3 with ⟨rfl, _⟩ | ⟨_, h2, _⟩
      · omega
      · exact (getC_err h2).2
    have hnm : nn ≤ m := by rw [HM.out]; exact hn3
    clear hd hw3 ho3 ok3 hb3 HGET hn3 HS
    go_upto_region 5 with (refine wpList_store_row rfl 32 _ _ rfl W3.heap.size cs rfl rfl 32 _ (Blk.new W3 32 _) (by rw [HSZ.out]; exact chunk_info) (by rw [HSZ.out]; rfl) HONE.out ?_)
    obtain ⟨W4, hW4, HC4, HB4⟩ := kept_var W3 cs
    obtain ⟨g4, hg4⟩ : ∃ g4, g4 = W3.heap.size := ⟨_, rfl⟩
    rw [← hg4] at HC4
    rw [← hW4, ← hg4]
    have HG4 := Lib.hid HC4
    have HS4 := Lib.hid (HSX.out.grows HB4)
    have HO4 : Hid (CkOwn W4 w.heap.size cs c) := (HO.out.grows HB4).mono HLB.out
    have f0 : W4.cell? ad = some (.int .u8 (kd : Int)) := (HS4.out.below.cell had).trans HC0.out
    clear hW4 hg4 HC4 HB4 HSX HO HC0
    by_cases hk0 : kk = 0
    · subst hk0
      have HGC : Hid (getC r = .ok (c, nn)) := by
        rcases HW.out with ⟨_, h⟩ | ⟨h, _⟩
        · exact h
        · exact absurd rfl h
      have hp := stepP_pos (step_ok HGC.out)
      have HEQ := Lib.hid (chunks_on HS4.out.eq HRN.out (step_ok HGC.out))
      obtain ⟨xs, hx1, hx2⟩ := id HS4.out.own
      have HX1 : Hid (W4.ownsRow w.heap.size 32 19 (.slice As k cp) k xs) := by have := hx1; rw [← HK.out] at this; exact this
      have HX2 := Lib.hid hx2
      have hBs := HS4.out.below.size
      have HBY := Lib.hid (HS4.out.byt.cut_map (k := nn) (by rw [← HM.out]; exact hnm))
      obtain ⟨q, hq⟩ : ∃ q, q = m - nn := ⟨_, rfl⟩
      have HQ : Hid (q = (r.drop nn).length) := by rw [List.length_drop, ← HM.out]; exact hq
      have e4 : (nn : Int) ≤ (m : Int) := by omega
      have e5 : (m : Int) ≤ (c0 : Int) := by omega
      have e6 : (m : Int) - (nn : Int) = (q : Int) := by omega
      have e7 : m - nn = q := by omega
      have hp4 : 4 ≤ nn := hp.1
      have hqb : 4 * (k + 1) + q ≤ 1200 := by omega
      have hqm : q < m := by omega
      clear hx1 hx2 hp HGC HW hq f0
      have GOAL : Hid (∀ (V : World) (v' : Value) (A' : Option Addr), (A' = some (ad.add nn) ∨ q = 0) → V.ownsRow w.heap.size 32 19 v' (k + 1) (xs ++ cs.toList) → (W4.alloc (.cells cs 32)).grownBy V (Value.slice As k cp).ownBlock → ChkSt w V b A' (r.drop nn) v' (acc ++ [c])) := fun V v' A' hA' ho hg => by
        have hb8 := (Below.refl W4.heap.size W4).alloc (Nat.le_refl _) (.cells cs 32)
        have hx1 : (W4.alloc (.cells cs 32)).ownsRow w.heap.size 32 19 (.slice As k cp) acc.length xs := by rw [← HK.out]; exact HX1.out.alloc _
        refine ⟨?_, OwnCks.snoc hx1 (fun i c' hc' => ?_) hg ho (by rw [← HK.out]) (HO4.out.grows hb8) HOK.out, HEQ.out, (HS4.out.below.trans (hb8.mono hBs)).grown hg (Nat.le_trans hBs hb8.size) (fun b hb => (hx1.lt b hb).1)⟩
        · rcases hA' with rfl | hq0
          · exact HBY.out
          · have : r.drop nn = [] := List.eq_nil_of_length_eq_zero (by rw [← HQ.out]; exact hq0)
            rw [this]
            exact ⟨by simp [u8s]; try omega, fun h => absurd h (by simp)⟩
        · obtain ⟨h3, cs', h4, h5⟩ := HX2.out i c' hc'
          exact ⟨h3, cs', h4, h5.grows hb8⟩
      by_cases hcl : c0 = nn
      · obtain rfl : m = nn := by omega
        have hq0 : q = 0 := by omega
        subst hq0 hcl
        clear e4 e5 e6 e7
        go_wp2_with (first
          | (refine wpList_load_row rfl 32 _ rfl g4 rfl 32 cs (0, 0) _ HG4.out Try.underlying32 rfl (by rw [HSZ.out]; exact chunk_info) ?_)
          | (refine wpList_slice_ck rfl _ rfl cs rfl HARR.out ?_)
          | (at_builtin; refine wpList_append_any _ rfl (.tmp 17) (.tmp 19) _ rfl w.heap.size 32 j0 _ 19 160 Try.underlying42 hj0 hjz0 hjz1 hjz2 rfl (by omega) (.slice As k cp) k xs rfl (HX1.out.alloc _) (W4.heap.size + 1) (some ⟨W4.heap.size, 0, none⟩) 1 1 cs.toList rfl (blk_reads (Blk.new W4 32 cs) (by simpa using HSZ.out)) (ck_cells1 HARR.out HONE.out) (by simp only [maxLen]; omega) (by omega) (Nat.le_trans hBs (by simp)) ?_; intro v7 w7 hown7 hg7 hat7; have HG := Lib.hid (fun A' hA' => GOAL.out w7 v7 A' hA' hown7 hg7); obtain ⟨A7, c7, rfl, h7a, h7b⟩ := own_slice hown7; clear hown7 hg7 hat7))
        go_roundw
        case rel => exact ⟨0, _, k + 1, c7, _, A7, _, acc ++ [c], rfl, rfl, by omega, by omega, h7a, h7b, hqb, HQ, by rw [List.length_append, ← HK.out]; rfl, HG.out _ (by first | exact .inr rfl | exact .inr trivial | simp)⟩
        case measure => simp only [lenOf]; omega
      · go_wp2_with (first
          | (refine wpList_load_row rfl 32 _ rfl g4 rfl 32 cs (0, 0) _ HG4.out Try.underlying32 rfl (by rw [HSZ.out]; exact chunk_info) ?_)
          | (refine wpList_slice_ck rfl _ rfl cs rfl HARR.out ?_)
          | (at_builtin; refine wpList_append_any _ rfl (.tmp 17) (.tmp 19) _ rfl w.heap.size 32 j0 _ 19 160 Try.underlying42 hj0 hjz0 hjz1 hjz2 rfl (by omega) (.slice As k cp) k xs rfl (HX1.out.alloc _) (W4.heap.size + 1) (some ⟨W4.heap.size, 0, none⟩) 1 1 cs.toList rfl (blk_reads (Blk.new W4 32 cs) (by simpa using HSZ.out)) (ck_cells1 HARR.out HONE.out) (by simp only [maxLen]; omega) (by omega) (Nat.le_trans hBs (by simp)) ?_; intro v7 w7 hown7 hg7 hat7; have HG := Lib.hid (fun A' hA' => GOAL.out w7 v7 A' hA' hown7 hg7); obtain ⟨A7, c7, rfl, h7a, h7b⟩ := own_slice hown7; clear hown7 hg7 hat7))
        go_roundw
        case rel => exact ⟨q, c0 - nn, k + 1, c7, _, A7, _, acc ++ [c], rfl, rfl, by omega, by omega, h7a, h7b, hqb, HQ, by rw [List.length_append, ← HK.out]; rfl, HG.out _ (.inl rfl)⟩
        case measure => simp only [lenOf]; omega
    have HGE : Hid (getC r = .error kk) := by
      rcases HW.out with ⟨h, _⟩ | ⟨_, h, _⟩
      · exact absurd h hk0
      · exact h
    have hne : ((kk : Int) != 0) = true := by simp; omega
    by_cases h60 : kk = 60
    · by_cases h8 : 128 ≤ kd
      · subst h60
        have h8i : decide ((kd : Int) ≥ 128) = true := by simp; omega
        have h8j : (128 : Int) ≤ (kd : Int) := by omega
        have hsk := step_skip HGE.out (by rw [← HKD.out]; exact h8)
        have hp := stepP_pos hsk
        obtain ⟨g60a, _, _, _⟩ := getC_60 HGE.out
        obtain ⟨nq, hnq⟩ : ∃ nq, nq = (num ((r.drop 2).take 2) + 3) / 4 * 4 := ⟨_, rfl⟩
        rw [← hnq] at hsk hp
        have HEQ := Lib.hid (chunks_on HS4.out.eq HRN.out hsk)
        have hcall := skipped_k HM.out (by rw [HM.out]; exact g60a) hmc hcm0 ((HS4.out.byt.below HS4.out.below).more HS4.out.below.size)
        rw [← hnq] at hcall
        have HCALL := Lib.hid hcall
        have hnm2 : nq ≤ m := by rw [HM.out]; exact hp.2
        have HBY := Lib.hid (HS4.out.byt.cut_map (k := nq) (by rw [← HM.out]; exact hnm2))
        obtain ⟨q, hq⟩ : ∃ q, q = m - nq := ⟨_, rfl⟩
        have HQ : Hid (q = (r.drop nq).length) := by rw [List.length_drop, ← HM.out]; exact hq
        have e4 : (nq : Int) ≤ (m : Int) := by omega
        have e5 : (m : Int) ≤ (c0 : Int) := by omega
        have e6 : (m : Int) - (nq : Int) = (q : Int) := by omega
        have e7 : m - nq = q := by omega
        have hp4 : 4 ≤ nq := hp.1
        have hqb : 4 * k + q ≤ 1200 := by omega
        have hqm : q < m := by omega
        clear hsk hp hnq hcall hq HW HGE h8
        have GOAL : Hid (∀ (V : World) (A' : Option Addr), (A' = some (ad.add nq) ∨ q = 0) → Below W4.heap.size W4 V → ChkSt w V b A' (r.drop nq) (.slice As k cp) acc) := fun V A' hA' hb => by
          refine ⟨?_, HS4.out.own.grows hb, by have := HEQ.out; rwa [List.append_nil] at this, HS4.out.below.trans (hb.mono HS4.out.below.size)⟩
          rcases hA' with rfl | hq0
          · exact HBY.out
          · have : r.drop nq = [] := List.eq_nil_of_length_eq_zero (by rw [← HQ.out]; exact hq0)
            rw [this]
            exact ⟨by simp [u8s]; try omega, fun h => absurd h (by simp)⟩
        go_wp2_with fail
        refine HCALL.out.mono ?_
        rintro e W5 ⟨rfl, hb5⟩
        have HG := Lib.hid (fun A' hA' => GOAL.out W5 A' hA' hb5)
        clear hb5 GOAL HS4 f0
        by_cases hcl : c0 = nq
        · obtain rfl : m = nq := by omega
          have hq0 : q = 0 := by omega
          subst hq0 hcl
          clear e4 e5 e6 e7
          go_wp2_with fail
          go_roundw
          case rel => exact ⟨0, _, k, cp, _, As, _, acc, rfl, rfl, by omega, by omega, hkc, hcm1, hqb, HQ, HK, HG.out _ (by first | exact .inr rfl | exact .inr trivial | simp)⟩
          case measure => simp only [lenOf]; omega
        · go_wp2_with fail
          go_roundw
          case rel => exact ⟨q, c0 - nq, k, cp, _, As, _, acc, rfl, rfl, by omega, by omega, hkc, hcm1, hqb, HQ, HK, HG.out _ (.inl rfl)⟩
          case measure => simp only [lenOf]; omega
      · subst h60
        have h8i : decide ((kd : Int) ≥ 128) = false := by simp; omega
        have h8j : ¬ (128 : Int) ≤ (kd : Int) := by omega
        have HE := Lib.hid (chunks_end HS4.out.eq HRN.out (step_err HGE.out (by rw [← HKD.out]; exact fun h => h8 h.2)))
        clear h8
        go_wp2_with fail
        go_ret2
        exact ⟨HS4.out.below, .inr ⟨60, HE.out, rfl⟩⟩
    · have hn60 : ((kk : Int) == 60) = false := by simp; omega
      have HE := Lib.hid (chunks_end HS4.out.eq HRN.out (step_err HGE.out (fun h => h60 h.1)))
      clear h60 hk0
      go_wp2_with fail
      go_ret2
      exact ⟨HS4.out.below, .inr ⟨kk, HE.out, rfl⟩⟩

/-! ### Get -/
theorem pk_info : (Try.prog.info? 44).map (·.size) = some 4 := by kernel_rfl
theorem pk_one (f t g : Nat) (v : Value) (hv : v.oneCell' = true) : (pkV f t g v).all (·.oneCell') = true := by cases v <;> simp_all [pkV, Value.oneCell']
theorem res_pk {fn : Func} {p u : Tmp} (h : fn.results = #[.cell p 44, .tmp u]) (tmps : Array Value) (w : World) (g : Nat) (cs : Array Value) (hp : tmps.getD p undef = .pointer (some ⟨g, 0, none⟩)) (hb : Blk w g 44 cs) (hs : cs.size = 4) :
    (results fn tmps).run Try.prog w = .ok (.tuple #[.agg cs, tmps.getD u undef]) w := by
  have hl := run_loadVar_row (P := Try.prog) w g 44 44 cs (0, 0) _ hb Try.underlying44 rfl (by rw [hs]; exact pk_info)
  have hp' : tmps[p]?.getD undef = .pointer (some ⟨g, 0, none⟩) := by simpa using hp
  simp [results, h, hp', asAddr, Sem.run_bind, Result.andThen, hl]
theorem setRow_any {w : World} {g : Nat} {t : TypeId} {cs cs' : Array Value} (h : Blk w g t cs) : Blk (w.setRow g cs') g t cs' := setRow_heap w g cs cs' _ (0, 0) h
theorem pk_none : Try.prog.built 44 [] = some (pkV 0 0 0 (.slice none 0 0)) := by kernel_rfl
theorem pk_built (f t g : Nat) (v : Value) (hv : ∃ A n c, v = .slice A n c) : Try.prog.built 44 [(0, .int .u16 (f : Int)), (1, .int .u16 (t : Int)), (2, .int .u32 (g : Int)), (3, v)] = some (pkV f t g v) := by
  obtain ⟨A, n, c, rfl⟩ := hv
  kernel_rfl
abbrev zeroP : Array Value := pkV 0 0 0 (.slice none 0 0)
/-- What Get leaves. -/
def GetPk (w : World) (b : List UInt8) (e : Ending) (w' : World) : Prop :=
  Below w.heap.size w w' ∧ ((∃ f t g v ls, getP b = .ok (f, t, g, ls) ∧ e = .returned (.tuple #[.agg (pkV f t g v), .int .i64 0]) ∧ OwnCks w' w.heap.size v ls ∧ f < 65536 ∧ t < 65536 ∧ g < 4294967296) ∨
    (∃ k : Nat, getP b = .error k ∧ e = .returned (.tuple #[.agg zeroP, .int .i64 (k : Int)])))
theorem getP_short {b : List UInt8} (h : b.length < 12) : getP b = .error 40 := by unfold getP; rw [if_pos h]
theorem getP_long {b : List UInt8} (h : 1200 < b.length) : getP b = .error 43 := by unfold getP; rw [if_neg (by omega), if_pos h]
theorem getP_sum {b : List UInt8} (h1 : 12 ≤ b.length) (h2 : b.length ≤ 1200) (h : sealL b 8 ≠ b) : getP b = .error 70 := by unfold getP; rw [if_neg (by omega), if_neg (by omega), if_pos h]
theorem getP_rest {b : List UInt8} (h1 : 12 ≤ b.length) (h2 : b.length ≤ 1200) (h : sealL b 8 = b) : getP b = match chunksP (b.drop 12) with
    | .error k => .error k
    | .ok ls => if fitsL ls = true then .ok (num (b.take 2), num ((b.drop 2).take 2), num ((b.drop 4).take 4), ls) else .error 42 := by
  unfold getP; rw [if_neg (by omega), if_neg (by omega), if_neg (fun h' => h' h)]
  all_goals (cases chunksP (b.drop 12) <;> rfl)
set_option maxHeartbeats 8000000 in
set_option maxRecDepth 100000 in
theorem get_p {w : World} {A : Option Addr} {b : List UInt8} {n cap : Nat} (hn : n = b.length) (hnc : n ≤ cap) (hcm : cap ≤ 9223372036854775807) (hy : Byt w w.heap.size A b) :
    Calls Try.prog 19 #[.slice A n cap] w (GetPk w b) := by
  have HN := Lib.hid hn
  have HY := Lib.hid hy
  clear hn hy
  go_enter Try.func19, Try.ntmps19
  go_upto_region 1 with (fail)
  obtain ⟨g2, hg2⟩ : ∃ g2, g2 = w.heap.size := ⟨_, rfl⟩
  obtain ⟨W1, hW1⟩ : ∃ W1, W1 = w.alloc (.cells #[.int .u16 0, .int .u16 0, .int .u32 0, .slice none 0 0] 44) := ⟨_, rfl⟩
  have HG1 : Hid (Blk W1 g2 44 zeroP) := by rw [hg2, hW1]; exact Blk.new _ _ _
  have HB1 : Hid (Below w.heap.size w W1) := by rw [hW1]; exact (Below.refl _ _).alloc (Nat.le_refl _) _
  rw [← hW1, ← hg2]
  have hlo : w.heap.size ≤ g2 := by omega
  clear hW1 hg2
  have ERR : Hid (∀ (V : World) (k : Nat), Below w.heap.size w V → Blk V g2 44 zeroP → getP b = .error k → Blk (V.setRow g2 zeroP) g2 44 zeroP ∧ GetPk w b (.returned (.tuple #[.agg zeroP, .int .i64 (k : Int)])) (V.setRow g2 zeroP)) :=
    fun V k hb h2 he => ⟨setRow_any h2, below_fr hb (setRow_fr V g2 zeroP) (Nat.le_refl _) (fun i e => by have e' : i = g2 := e; omega), .inr ⟨k, he, rfl⟩⟩
  by_cases h12 : (n : Int) < 12
  · have HE : Hid (getP b = .error 40) := getP_short (by rw [← HN.out]; omega)
    have HZ := Lib.hid (ERR.out W1 40 HB1.out HG1.out HE.out)
    go_wp2_with (first | refine wpList_build_none rfl 44 rfl _ pk_none ?_ | refine wpList_store_row rfl 44 _ _ rfl g2 zeroP rfl rfl 44 _ HG1.out pk_info rfl (pk_one _ _ _ _ rfl) ?_)
    (try simp only [Exit.inBlock, Exit.then])
    refine bodyPost_ret (res_pk rfl _ _ g2 _ rfl HZ.out.1 rfl) rfl ?_
    exact HZ.out.2
  by_cases hbig : (1200 : Int) < (n : Int)
  · have HE : Hid (getP b = .error 43) := getP_long (by rw [← HN.out]; omega)
    have HZ := Lib.hid (ERR.out W1 43 HB1.out HG1.out HE.out)
    go_wp2_with (first | refine wpList_build_none rfl 44 rfl _ pk_none ?_ | refine wpList_store_row rfl 44 _ _ rfl g2 zeroP rfl rfl 44 _ HG1.out pk_info rfl (pk_one _ _ _ _ rfl) ?_)
    (try simp only [Exit.inBlock, Exit.then])
    refine bodyPost_ret (res_pk rfl _ _ g2 _ rfl HZ.out.1 rfl) rfl ?_
    exact HZ.out.2
  have hn12 : 12 ≤ n := by omega
  have hn20 : n ≤ 1200 := by omega
  have HY1 : Hid (Byt W1 W1.heap.size A b) := (HY.out.below HB1.out).more HB1.out.size
  have hcall := Crc.sealed_any A b cap 8 W1 (by rw [← HN.out]; exact hnc) hcm HY1.out (by rw [← HN.out]; omega)
  rw [← HN.out] at hcall
  have HCALL := Lib.hid hcall
  obtain ⟨sl, hsl⟩ : ∃ s, s = Crc.sealedB b 8 := ⟨_, rfl⟩
  have HSL := Lib.hid hsl
  clear hcall hsl
  go_upto_region 5 with fail
  go_wp2_with fail
  refine HCALL.out.mono ?_
  rintro e W2 ⟨rfl, hb2⟩
  have HB2 := Lib.hid (HB1.out.trans (hb2.mono HB1.out.size))
  have HG2 : Hid (Blk W2 g2 44 zeroP) := HG1.out.below hb2 HG1.out.lt
  rw [← HSL.out]
  clear hb2 HG1 HB1 HCALL HY1
  cases sl
  · have HE : Hid (getP b = .error 70) := getP_sum (by rw [← HN.out]; exact hn12) (by rw [← HN.out]; exact hn20) (fun h => by
      have := (Crc.sealed_iff b 8 (by rw [← HN.out]; omega)).2 h.symm
      rw [← HSL.out] at this; cases this)
    have HZ := Lib.hid (ERR.out W2 70 HB2.out HG2.out HE.out)
    go_wp2_with (first | refine wpList_build_none rfl 44 rfl _ pk_none ?_ | refine wpList_store_row rfl 44 _ _ rfl g2 zeroP rfl rfl 44 _ HG2.out pk_info rfl (pk_one _ _ _ _ rfl) ?_)
    (try simp only [Exit.inBlock, Exit.then])
    refine bodyPost_ret (res_pk rfl _ _ g2 _ rfl HZ.out.1 rfl) rfl ?_
    exact HZ.out.2
  have HREST := Lib.hid (getP_rest (by rw [← HN.out]; exact hn12) (by rw [← HN.out]; exact hn20) ((Crc.sealed_iff b 8 (by rw [← HN.out]; omega)).1 HSL.out.symm).symm)
  obtain ⟨ad, rfl, _, _⟩ := HY.out.at_byte (show 0 < b.length by rw [← HN.out]; omega)
  have HY2 : Hid (Byt W2 w.heap.size (some ad) b) := HY.out.below HB2.out
  obtain ⟨q, hq⟩ : ∃ q, q = n - 12 := ⟨_, rfl⟩
  have HQ : Hid (q = (b.drop 12).length) := by rw [List.length_drop, ← HN.out]; exact hq
  have e4 : (12 : Int) ≤ (n : Int) := by omega
  have e5 : (n : Int) ≤ (cap : Int) := by omega
  have e6 : (n : Int) - 12 = (q : Int) := by omega
  have e7 : n - 12 = q := by omega
  have e8 : 12 ≤ n := hn12
  have hq12 : q ≤ 1200 := by omega
  clear hq h12 hbig
  have CALL : Hid (∀ (A' : Option Addr) (c' : Nat), q ≤ c' → c' ≤ 9223372036854775807 → (A' = some (ad.add 12) ∨ q = 0) → Calls Try.prog 59 #[.slice A' q c'] W2 (ChunksPk W2 (b.drop 12))) := fun A' c' h1 h2 h3 => by
    refine chunks_k HQ.out hq12 h1 h2 ?_
    rcases h3 with rfl | h3
    · exact ((HY2.out.cut_map (k := 12) (by rw [← HN.out]; exact hn12)).more HB2.out.size)
    · have : b.drop 12 = [] := List.eq_nil_of_length_eq_zero (by rw [← HQ.out]; exact h3)
      rw [this]
      exact ⟨by simp [u8s]; try omega, fun h => absurd h (by simp)⟩
  go_upto_region 7 with fail
  have HL2 : Hid (g2 < W2.heap.size) := HG2.out.lt
  go_cut [4, 5] from 23 to 27 (fun s4 s5 wx => ∃ (kk : Nat) (v : Value) (ls : List Ck), v = s4 ∧ s5 = .int .i64 (kk : Int) ∧ kk ≤ 100 ∧ (∃ A n c, v = .slice A n c) ∧ Hid (Below W2.heap.size W2 wx) ∧ Hid ((kk = 0 ∧ chunksP (b.drop 12) = .ok ls ∧ ls.length ≤ 400 ∧ OwnCks wx W2.heap.size v ls) ∨ (kk ≠ 0 ∧ chunksP (b.drop 12) = .error kk)))
  case first =>
    have FIN : Hid (∀ e V, ChunksPk W2 (b.drop 12) e V → ∃ (kk : Nat) (v : Value) (ls : List Ck), e = .returned (.tuple #[v, .int .i64 (kk : Int)]) ∧ kk ≤ 100 ∧ (∃ A n c, v = .slice A n c) ∧ Below W2.heap.size W2 V ∧ ((kk = 0 ∧ chunksP (b.drop 12) = .ok ls ∧ ls.length ≤ 400 ∧ OwnCks V W2.heap.size v ls) ∨ (kk ≠ 0 ∧ chunksP (b.drop 12) = .error kk))) := fun e V hd => by
      obtain ⟨hb, ⟨v, ls, h1, h2, rfl, h3⟩ | ⟨k, h1, rfl⟩⟩ := hd
      · obtain ⟨A', c', rfl, _⟩ := h3.slice
        exact ⟨0, _, ls, rfl, by omega, ⟨_, _, _, rfl⟩, hb, .inl ⟨rfl, h1, h2, h3⟩⟩
      · have hk := chunksP_err _ (Nat.le_refl _) h1
        exact ⟨k, _, [], rfl, hk.2, ⟨_, _, _, rfl⟩, hb, .inr ⟨hk.1, h1⟩⟩
    by_cases hcl : cap = 12
    · obtain rfl : n = 12 := by omega
      have hq0 : q = 0 := by omega
      subst hq0 hcl
      clear e4 e5 e6 e7
      go_wp2_with fail
      refine (CALL.out (some ad) 0 (by omega) (by omega) (by first | exact .inr rfl | exact .inr trivial)).mono ?_
      rintro e V hd
      obtain ⟨kk, v, ls, rfl, h1, h2, h3, h4⟩ := FIN.out e V hd
      clear hd
      go_wp2_with fail
      go_meet
      exact ⟨kk, v, ls, rfl, rfl, h1, h2, h3, h4⟩
    · go_wp2_with fail
      refine (CALL.out (some (ad.add 12)) (cap - 12) (by omega) (by omega) (.inl rfl)).mono ?_
      rintro e V hd
      obtain ⟨kk, v, ls, rfl, h1, h2, h3, h4⟩ := FIN.out e V hd
      clear hd
      go_wp2_with fail
      go_meet
      exact ⟨kk, v, ls, rfl, rfl, h1, h2, h3, h4⟩
  case rest =>
  obtain ⟨kk, v, ls, rfl, rfl, hk1, hv, HB3, HK⟩ := hcut
  obtain ⟨W3, hW3⟩ : ∃ W, W = wc := ⟨_, rfl⟩
  rw [← hW3] at HB3 HK ⊢
  have HG3 : Hid (Blk W3 g2 44 zeroP) := HG2.out.below HB3.out HG2.out.lt
  have HB4 := Lib.hid (HB2.out.trans (HB3.out.mono HB2.out.size))
  clear hW3 e4 e5 e6 e7 CALL HG2 HY2
  by_cases hk0 : kk = 0
  rotate_left
  · have hkn : ((kk : Int) != 0) = true := by simp; omega
    have HE : Hid (getP b = .error kk) := by
      rcases HK.out with ⟨h, _⟩ | ⟨_, h⟩
      · exact absurd h hk0
      · rw [HREST.out, h]; rfl
    have HZ := Lib.hid (ERR.out W3 kk HB4.out HG3.out HE.out)
    clear hk0
    go_wp2_with (first | refine wpList_build_none rfl 44 rfl _ pk_none ?_ | refine wpList_store_row rfl 44 _ _ rfl g2 zeroP rfl rfl 44 _ HG3.out pk_info rfl (pk_one _ _ _ _ rfl) ?_)
    (try simp only [Exit.inBlock, Exit.then])
    refine bodyPost_ret (res_pk rfl _ _ g2 _ rfl HZ.out.1 rfl) rfl ?_
    exact HZ.out.2
  subst hk0
  have HCH : Hid (chunksP (b.drop 12) = .ok ls ∧ ls.length ≤ 400 ∧ OwnCks W3 W2.heap.size v ls) := by
    rcases HK.out with ⟨_, h⟩ | ⟨h, _⟩
    · exact h
    · exact absurd rfl h
  obtain ⟨As, cp, hvs, hsc, hsm⟩ := HCH.out.2.2.slice
  obtain ⟨k, hk⟩ : ∃ k, k = ls.length := ⟨_, rfl⟩
  rw [← hk] at hvs hsc
  have HKL := Lib.hid hk
  subst hvs
  have hk4 : k ≤ 400 := by rw [hk]; exact HCH.out.2.1
  have HO3 : Hid (OwnCks W3 W2.heap.size (.slice As k cp) ls) := HCH.out.2.2
  obtain ⟨F, hF⟩ : ∃ F, F = fitsL ls := ⟨_, rfl⟩
  have HF := Lib.hid hF
  have hcall := formed_k (n := k) (c := cp) HO3.out.cks (Nat.le_refl _) HKL.out (by omega)
  rw [← hF] at hcall
  have HCALL := Lib.hid hcall
  clear hk HK hF hcall hv
  go_wp2_with fail
  refine HCALL.out.mono ?_
  rintro e W4 ⟨rfl, hb4⟩
  have HG4 : Hid (Blk W4 g2 44 zeroP) := HG3.out.below hb4 HG3.out.lt
  have HB5 := Lib.hid (HB4.out.trans (hb4.mono HB4.out.size))
  have HO4 := Lib.hid (HO3.out.grows hb4)
  have HS24 : Hid (W2.heap.size ≤ W4.heap.size) := Nat.le_trans HB3.out.size hb4.size
  clear hb4 HG3 HB4 HO3 HCALL
  cases F
  · have HE : Hid (getP b = .error 42) := by rw [HREST.out, HCH.out.1]; show (if fitsL ls = true then _ else _) = _; rw [← HF.out]; rfl
    have HZ := Lib.hid (ERR.out W4 42 HB5.out HG4.out HE.out)
    go_wp2_with (first | refine wpList_build_none rfl 44 rfl _ pk_none ?_ | refine wpList_store_row rfl 44 _ _ rfl g2 zeroP rfl rfl 44 _ HG4.out pk_info rfl (pk_one _ _ _ _ rfl) ?_)
    (try simp only [Exit.inBlock, Exit.then])
    refine bodyPost_ret (res_pk rfl _ _ g2 _ rfl HZ.out.1 rfl) rfl ?_
    exact HZ.out.2
  have HOK : Hid (getP b = .ok (num (b.take 2), num ((b.drop 2).take 2), num ((b.drop 4).take 4), ls)) := by rw [HREST.out, HCH.out.1]; show (if fitsL ls = true then _ else _) = _; rw [← HF.out]; rfl
  go_wp2_with fail
  refine (newReader_any (some ad) b n cap W4 HN.out (by rw [← HN.out]; omega) ((HY.out.below HB5.out).more HB5.out.size)).mono ?_
  rintro e W5 ⟨p, G, rfl, hrd, hG, hb5⟩
  have HR := Lib.hid hrd
  have HG5 : Hid (Blk W5 g2 44 zeroP) := HG4.out.below hb5 HG4.out.lt
  have HB6 := Lib.hid (HB5.out.trans (hb5.mono HB5.out.size))
  have HB45 := Lib.hid hb5
  have HLT : Hid (g2 < W4.heap.size ∧ W4.heap.size ≤ G) := ⟨HG4.out.lt, hG⟩
  have HLW : Hid (w.heap.size ≤ W4.heap.size) := HB5.out.size
  clear hrd hG hb5 HG4 HB5
  go_wp2_with fail
  refine (rd_u16 HR.out (by rw [← HN.out]; omega)).mono ?_
  rintro e W6 ⟨rfl, h1, h2⟩
  have HR2 := Lib.hid h1
  have HF2 := Lib.hid h2
  clear h1 h2
  go_wp2_with fail
  refine (rd_u16 HR2.out (by rw [List.length_drop, ← HN.out]; omega)).mono ?_
  rintro e W7 ⟨rfl, h1, h2⟩
  have HR3 := Lib.hid h1
  have HF3 : Hid (Fr (At p) W5 W7) := HF2.out.same h2
  clear h1 h2 HF2
  go_wp2_with fail
  refine (rd_u32 HR3.out (by rw [List.length_drop, List.length_drop, ← HN.out]; omega)).mono ?_
  rintro e W8 ⟨rfl, h1, h2⟩
  have HF4 : Hid (Fr (At p) W5 W8) := HF3.out.same h2
  have HPG : Hid (G ≤ p) := HR3.out.le
  clear h1 h2 HF3
  obtain ⟨f, hf⟩ : ∃ f, f = num (b.take 2) := ⟨_, rfl⟩
  obtain ⟨t, ht⟩ : ∃ f, f = num ((b.drop 2).take 2) := ⟨_, rfl⟩
  obtain ⟨g, hg⟩ : ∃ f, f = num ((b.drop 4).take 4) := ⟨_, rfl⟩
  have hfb : f < 65536 := by rw [hf]; exact num2_lt _ (by rw [List.length_take]; omega)
  have htb : t < 65536 := by rw [ht]; exact take2 b 2
  have hgb : g < 4294967296 := by rw [hg]; exact take4 b 4
  rw [List.drop_drop, ← hf, ← ht, ← hg]
  have HG8 : Hid (Blk W8 g2 44 zeroP) := HF4.out.blk HG5.out (fun e => by have e' : g2 = p := e; have := HLT.out; have := HPG.out; omega)
  have HO8 : Hid (OwnCks W8 W2.heap.size (.slice As k cp) ls) := HO4.out.grows (below_fr HB45.out HF4.out (Nat.le_refl _) (fun i e => by have e' : i = p := e; have := HLT.out; have := HPG.out; omega))
  have HB8 : Hid (Below w.heap.size w W8) := below_fr HB6.out HF4.out (Nat.le_refl _) (fun i e => by have e' : i = p := e; have := HLT.out; have := HPG.out; have := HLW.out; omega)
  have HOK2 : Hid (getP b = .ok (f, t, g, ls)) := by rw [hf, ht, hg]; exact HOK.out
  clear hf ht hg
  go_wp2_with (first
    | refine wpList_build_as rfl 44 _ rfl _ (pk_built f t g _ ⟨_, _, _, rfl⟩) ?_
    | refine wpList_store_row rfl 44 _ _ rfl g2 (pkV f t g (.slice As k cp)) rfl rfl 44 _ HG8.out pk_info rfl (pk_one _ _ _ _ rfl) ?_)
  (try simp only [Exit.inBlock, Exit.then])
  refine bodyPost_ret (res_pk rfl _ _ g2 _ rfl (setRow_any HG8.out) rfl) rfl ?_
  refine ⟨below_fr HB8.out (setRow_fr W8 g2 _) (Nat.le_refl _) (fun i e => by have e' : i = g2 := e; omega), .inl ⟨f, t, g, _, ls, HOK2.out, rfl, ?_, hfb, htb, hgb⟩⟩
  exact (HO8.out.fr (setRow_fr W8 g2 _) (fun i e _ => by have e' : i = g2 := e; have := HL2.out; omega)).mono HB2.out.size
end Go.Proofs.Ytpgklhecmafnbaa.Chk

namespace Go.Proofs.Ytpgklhecmafnbaa.Chk
open Go.RowKit Go.Proofs.Ytpgklhecmafnbaa.Words Go.Proofs.Ytpgklhecmafnbaa.Oct Go.Proofs.Ytpgklhecmafnbaa.Par
open Go.Proofs.Ytpgklhecmafnbaa.Crc (sealL)

theorem fill_stripP {c : Ck} (h : known c.kind = true) : fillD (flagged c.kind (flagsN c)) c = strip c := by
  obtain ⟨k, bg, en, lo, ba, tsn, st, mid, pp, fr, tag, win, out, inn, gaps, dups, skips, ps, body⟩ := c
  simp only at h
  rcases kinds h with rfl | rfl | rfl | rfl | rfl | rfl | rfl | rfl | rfl | rfl | rfl | rfl | rfl | rfl | rfl | rfl | rfl <;> first | rfl | (cases ba <;> simp [fillD, flagged, flagsN, hasBody, hasPs, loN, strip, zeroC] <;> done) | (cases bg <;> cases en <;> cases lo <;> simp [fillD, flagged, flagsN, hasBody, loN, strip, zeroC] <;> done)
theorem getC_put {c : Ck} {r : List UInt8} (ok : c.ok) (hp : Puts c) : getC (bytesC c ++ r) = .ok (strip c, (bytesC c).length) := by
  rw [getC_bytes ok hp, fill_stripP hp.known]
theorem strip_puts {c : Ck} (ok : c.ok) (hp : Puts c) : Puts (strip c) ∧ bytesC (strip c) = bytesC c ∧ (strip c).ok := by
  have h := got_puts ok hp
  rw [fill_stripP hp.known] at h
  exact ⟨h.1, h.2, (getC_puts (getC_put (r := []) ok hp)).1⟩
theorem strip_strip {c : Ck} (ok : c.ok) (hp : Puts c) : strip (strip c) = strip c := by
  obtain ⟨h1, h2, h3⟩ := strip_puts ok hp
  have e1 := getC_put (r := []) h3 h1
  rw [h2, getC_put ok hp] at e1
  injection e1 with e1
  injection e1 with e1
  exact e1.symm
theorem strip_kind {c : Ck} (hp : Puts c) : (strip c).kind = c.kind := by
  rw [← fill_stripP hp.known]
  exact (lacks_fill (flagged_kind' _ _)).1
theorem strips_fits {ls : List Ck} (hp : AllPuts ls) : fitsL (ls.map strip) = fitsL ls := by
  have h : anyAlone (ls.map strip) = anyAlone ls := by
    unfold anyAlone
    rw [List.any_map]
    induction ls with
    | nil => rfl
    | cons c r ih =>
      simp only [List.any_cons, Function.comp]
      rw [strip_kind (hp c (by simp)), ih (fun d hd => hp d (by simp [hd]))]
  unfold fitsL
  rw [h, List.length_map]
theorem getC_ne_nil {c : Ck} : bytesC c ≠ [] := by
  unfold bytesC frame
  intro h
  have := congrArg List.length h
  simp [be_length] at this
theorem step_put {c : Ck} {r : List UInt8} (ok : c.ok) (hp : Puts c) : stepP (bytesC c ++ r) = .ok ([strip c], (bytesC c).length) := by
  unfold stepP
  rw [getC_put ok hp]
theorem chunksP_put : ∀ {ls : List Ck}, AllPuts ls → (∀ c ∈ ls, c.ok) → chunksP (bodyB ls) = .ok (ls.map strip)
  | [], _, _ => rfl
  | c :: r, hp, ok => by
    rw [bodyB_cons, chunksP_step (by intro h; exact getC_ne_nil (List.append_eq_nil_iff.1 h).1), step_put (ok c (by simp)) (hp c (by simp))]
    simp only
    rw [List.drop_left, chunksP_put (fun d hd => hp d (by simp [hd])) (fun d hd => ok d (by simp [hd]))]
    rfl
theorem le4_len (s : Nat) : (Crc.le4 s).length = 4 := by simp [Crc.le4]
theorem sealL_length (l : List UInt8) (k : Nat) (hk : k + 4 ≤ l.length) : (sealL l k).length = l.length := by
  unfold sealL
  simp only [List.length_append, List.length_take, List.length_drop, le4_len]
  omega
theorem sealL_again (l : List UInt8) (k : Nat) (hk : k + 4 ≤ l.length) : sealL (sealL l k) k = sealL l k :=
  ((Crc.sealed_iff _ _ (by rw [sealL_length l k hk]; exact hk)).1 (Crc.sealed_seal l k hk)).symm
/-- A packet's bytes read: the head, the rest. -/
theorem sealed_head {f t g : Nat} {y : List UInt8} : ∃ q, q.length = 4 ∧ sealL (headB f t g ++ y) 8 = be f 2 ++ (be t 2 ++ (be g 4 ++ (q ++ y))) := by
  refine ⟨Crc.le4 (Crc.sumL (Crc.zeroed (headB f t g ++ y) 8)), le4_len _, ?_⟩
  unfold sealL
  generalize Crc.le4 (Crc.sumL (Crc.zeroed (headB f t g ++ y) 8)) = q
  have e : headB f t g ++ y = (be f 2 ++ (be t 2 ++ be g 4)) ++ (be 0 4 ++ y) := by unfold headB; simp only [List.append_assoc]
  have l8 : (be f 2 ++ (be t 2 ++ be g 4)).length = 8 := by simp only [List.length_append, be_length]
  rw [e, List.take_append_of_le_length (by omega), List.take_of_length_le (by omega), List.append_assoc, List.append_assoc, List.append_assoc]
  congr 3
theorem getP_put {f t g : Nat} {ls : List Ck} (hf : f < 65536) (ht : t < 65536) (hg : g < 4294967296) (hfit : fitsL ls = true) (hp : AllPuts ls) (ok : ∀ c ∈ ls, c.ok) (hb : (bodyB ls).length ≤ 1188) :
    getP (sealL (headB f t g ++ bodyB ls) 8) = .ok (f, t, g, ls.map strip) := by
  obtain ⟨q, hq, e⟩ := sealed_head (f := f) (t := t) (g := g) (y := bodyB ls)
  have hl : (headB f t g ++ bodyB ls).length = 12 + (bodyB ls).length := by rw [List.length_append, headB_len]
  have hl2 : (sealL (headB f t g ++ bodyB ls) 8).length = 12 + (bodyB ls).length := by rw [sealL_length _ _ (by omega), hl]
  have hs := sealL_again (headB f t g ++ bodyB ls) 8 (by omega)
  unfold getP
  rw [if_neg (by omega), if_neg (by omega), if_neg (fun h => h hs)]
  have d12 : (sealL (headB f t g ++ bodyB ls) 8).drop 12 = bodyB ls := by
    rw [e, show 12 = 2 + (2 + (4 + (4 + 0))) by rfl, drop_be_more, drop_be_more, drop_be_more, drop_more _ hq, List.drop_zero]
  have t2 : (sealL (headB f t g ++ bodyB ls) 8).take 2 = be f 2 := by rw [e]; exact take_be _ _ _
  have d2 : ((sealL (headB f t g ++ bodyB ls) 8).drop 2).take 2 = be t 2 := by rw [e, show 2 = 2 + 0 by rfl, drop_be_more, List.drop_zero]; exact take_be _ _ _
  have d4 : ((sealL (headB f t g ++ bodyB ls) 8).drop 4).take 4 = be g 4 := by rw [e, show 4 = 2 + (2 + 0) by rfl, drop_be_more, drop_be_more, List.drop_zero]; exact take_be _ _ _
  rw [d12, t2, d2, d4, chunksP_put hp ok]
  simp only
  rw [strips_fits hp, if_pos hfit, num_be_lt hf, num_be_lt ht, num_be_lt hg]
theorem alikes_strip {ls : List Ck} (hp : AllPuts ls) (ok : ∀ c ∈ ls, c.ok) (hs : ∀ c ∈ ls, c.skips.length ≤ 500000 ∧ (strip c).skips.length ≤ 500000) : Alikes (ls.map strip) ls := by
  refine ⟨by simp, fun k h1 h2 => ?_, fun c hc => ?_, fun c hc => ⟨(hp c hc).known, (hs c hc).1⟩⟩
  · rw [List.getElem_map]
    exact strip_strip (ok _ (List.getElem_mem h2)) (hp _ (List.getElem_mem h2))
  · obtain ⟨d, hd, rfl⟩ := List.mem_map.1 hc
    exact ⟨by rw [strip_kind (hp d hd)]; exact (hp d hd).known, (hs d hd).2⟩
theorem strip_small {c : Ck} (ok : c.ok) (hp : Puts c) : (strip c).skips.length ≤ 500000 := by
  have h := (getC_puts (getC_put (r := []) ok hp)).2.2.2.1.skips
  omega
/-! ### the first packet of the law's own -/
def ackC : Ck := zeroC 8
def ackB : List UInt8 := [19, 136, 19, 136, 0, 0, 0, 9, 102, 130, 153, 23, 8, 0, 0, 4]
theorem ack_puts : Puts ackC := ⟨rfl, rfl, fun h => by
  unfold tooLong at h
  rcases h with ⟨h, _⟩ | ⟨h, _⟩ | h
  · exact absurd h (by decide)
  · exact absurd h (by decide)
  · exact absurd h (by decide)⟩
theorem ack_ok : ackC.ok := zero_ok' (by decide)
theorem ack_body : bodyB [ackC] = [8, 0, 0, 4] := by rfl
theorem ack_seal : sealL (headB 5000 5000 9 ++ bodyB [ackC]) 8 = ackB := by kernel_rfl
theorem ack_get : getP ackB = .ok (5000, 5000, 9, [strip ackC]) := by
  rw [← ack_seal]
  exact getP_put (by decide) (by decide) (by decide) rfl (fun c hc => by simp only [List.mem_singleton] at hc; rw [hc]; exact ack_puts) (fun c hc => by simp only [List.mem_singleton] at hc; rw [hc]; exact ack_ok) (by rw [ack_body]; decide)
theorem ack_put {kk : Nat} {l : List UInt8} (h : PutP (headB 5000 5000 9) [ackC] kk l) : kk = 0 ∧ l = ackB := by
  refine putP_one h (.inr (.inr (.inr ⟨rfl, fun c hc => by simp only [List.mem_singleton] at hc; rw [hc]; exact ack_puts, by rw [ack_body]; decide, rfl, ack_seal.symm⟩)))
theorem ack_turned : getP (ackB.set 15 5) = .error 70 := getP_sum' (by decide) (by decide) (by
  have h : Crc.sealedB (ackB.set 15 5) 8 = false := by kernel_rfl
  intro e
  rw [(Crc.sealed_iff _ _ (by decide)).2 e.symm] at h
  cases h)
where
  getP_sum' {b : List UInt8} (h1 : 12 ≤ b.length) (h2 : b.length ≤ 1200) (h : sealL b 8 ≠ b) : getP b = .error 70 := by unfold getP; rw [if_neg (by omega), if_neg (by omega), if_pos h]
end Go.Proofs.Ytpgklhecmafnbaa.Chk

namespace Go.Proofs.Ytpgklhecmafnbaa.Chk
open Go.ChangeShapes Go.WideShapes Go.ChangeAt Go.RowKit Go.Deep Go.Proofs.Ytpgklhecmafnbaa.Words Go.Proofs.Ytpgklhecmafnbaa.Oct Go.Proofs.Ytpgklhecmafnbaa.Par
open Go.Proofs.Ytpgklhecmafnbaa.Crc (sealL)

theorem cks_one {w : World} {g B : Nat} {cs : Array Value} {c : Ck} (hb : CkBlk w g cs) (h : CkAt w B cs c) (hg : g < B) : Cks w B (some ⟨g, 0, none⟩) [c] := fun k c' hc' => by
  match k with
  | 0 =>
    simp only [List.getElem?_cons_zero, Option.some.injEq] at hc'
    subst hc'
    refine ⟨⟨g, 0, none⟩, cs, rfl, hg, h, fun j v hv => ?_⟩
    rw [add_of_add, Nat.zero_mul, Nat.zero_add, hb.cellAdd]
    exact hv
  | k + 1 => simp at hc'
set_option maxHeartbeats 8000000 in
set_option maxRecDepth 100000 in
theorem first_p (w : World) : Calls Try.prog 15 #[] w fun e w' => e = .returned (.bool true) ∧ Below w.heap.size w w' := by
  go_enter Try.func15, Try.ntmps15
  have hb1 := (Below.refl w.heap.size w).alloc (Nat.le_refl _) (.cells (ckArr ackC nilV nilV nilV nilV nilV) 32)
  have hbk : CkBlk (w.alloc (.cells (ckArr ackC nilV nilV nilV nilV nilV) 32)) w.heap.size (ckArr ackC nilV nilV nilV nilV nilV) := Blk.new _ _ _
  have HCK : Hid (Cks (w.alloc (.cells (ckArr ackC nilV nilV nilV nilV nilV) 32)) (w.alloc (.cells (ckArr ackC nilV nilV nilV nilV nilV) 32)).heap.size (some ⟨w.heap.size, 0, none⟩) [ackC]) := cks_one hbk (ck_nil ack_ok ⟨rfl, rfl, rfl, rfl, rfl⟩) hbk.lt
  have HB1 := Lib.hid hb1
  clear hb1 hbk
  go_wp2_with (first
    | refine wpList_build_one rfl 32 _ rfl (.int .u8 8) rfl (ckArr ackC nilV nilV nilV nilV nilV) (built_kind 8) ?_
    | refine wpList_slice_ck rfl _ rfl (ckArr ackC nilV nilV nilV nilV nilV) rfl ⟨_, _, _, _, _, _, rfl⟩ ?_
    | refine wpList_build_as rfl 44 _ rfl (pkV 5000 5000 9 (.slice (some ⟨w.heap.size, 0, none⟩) 1 1)) (pk_built 5000 5000 9 _ ⟨_, _, _, rfl⟩) ?_)
  refine (put_p (n := 1) (c := 1) HCK.out rfl (by decide) (by decide) (by decide) (by decide)).mono ?_
  rintro e W2 ⟨⟨kk, v, l, rfl, hkk, ho, hp⟩, hb2⟩
  obtain ⟨rfl, rfl⟩ := ack_put hp
  have HB2 := Lib.hid (HB1.out.trans (hb2.mono HB1.out.size))
  have HO2 : Hid (Own W2 w.heap.size v ackB) := own_mono ho HB1.out.size
  obtain ⟨A2, c2, rfl, h2a, h2b, HY2⟩ := own_as HO2.out (n := 16) rfl
  clear hp hb2 ho hkk HB1 HCK
  go_wp2_with fail
  refine (get_p (b := ackB) (n := 16) rfl h2a h2b HY2.out).mono ?_
  rintro e W3 ⟨hb3, hd⟩
  rw [ack_get] at hd
  rcases hd with ⟨f, t, g, v3, ls, he, rfl, ho3, _⟩ | ⟨k, he, _⟩
  rotate_left
  · cases he
  injection he with he
  simp only [Prod.mk.injEq] at he
  obtain ⟨rfl, rfl, rfl, rfl⟩ := he
  obtain ⟨A3, c3, hv3, h3a, h3b⟩ := ho3.slice
  have hv3 : v3 = .slice A3 1 c3 := hv3
  subst hv3
  have HB3 := Lib.hid (HB2.out.trans (hb3.mono HB2.out.size))
  have HO3 : Hid (Own W3 w.heap.size (.slice A2 16 c2) ackB) := (Fr.of_below hb3).own HO2.out (fun g hg hi => by have := (HO2.out.lt g hg).2; omega)
  clear hb3 ho3 HB2 HO2 HY2
  go_upto_region 3 with (refine wpList_store_row rfl 44 _ _ rfl W3.heap.size (pkV 5000 5000 9 (.slice A3 1 c3)) rfl rfl 44 _ (Blk.new W3 44 _) pk_info rfl (pk_one _ _ _ _ rfl) ?_)
  obtain ⟨g3, hg3⟩ : ∃ g, g = W3.heap.size := ⟨_, rfl⟩
  obtain ⟨W4, hW4⟩ : ∃ W, W = (W3.alloc (.cells #[.int .u16 0, .int .u16 0, .int .u32 0, .slice none 0 0] 44)).setRow W3.heap.size (pkV 5000 5000 9 (.slice A3 1 c3)) := ⟨_, rfl⟩
  have hbn : Blk (W3.alloc (.cells #[.int .u16 0, .int .u16 0, .int .u32 0, .slice none 0 0] 44)) W3.heap.size 44 #[.int .u16 0, .int .u16 0, .int .u32 0, .slice none 0 0] := Blk.new _ _ _
  have HB34 : Hid (Below W3.heap.size W3 W4) := by rw [hW4]; exact below_fr ((Below.refl W3.heap.size W3).alloc (Nat.le_refl _) _) (setRow_fr _ W3.heap.size _) (Nat.le_refl _) (fun i e => by have e' : i = W3.heap.size := e; omega)
  have HP4 : Hid (Blk W4 g3 44 (pkV 5000 5000 9 (.slice A3 1 c3))) := by rw [hW4, hg3]; exact setRow_any hbn
  rw [← hW4, ← hg3]
  have HB4 := Lib.hid (HB3.out.trans (HB34.out.mono HB3.out.size))
  have HO4 : Hid (Own W4 w.heap.size (.slice A2 16 c2) ackB) := (Fr.of_below HB34.out).own HO3.out (fun g hg hi => by have := (HO3.out.lt g hg).2; omega)
  clear hW4 hg3 hbn HB34 HO3 HB3
  go_wp2_with (refine wpList_build_none rfl 44 rfl _ pk_none ?_)
  refine (put_p (n := 0) (c := 0) (ls := []) (A := none) (f := 0) (t := 0) (g := 0) (Cks.nil _ _ _) rfl (by decide) (by decide) (by decide) (by decide)).mono ?_
  rintro e W5 ⟨⟨kk, v5, l5, rfl, hkk, ho5, hp⟩, hb5⟩
  have hk42 : kk = 42 := by
    rcases hp with ⟨_, h, _⟩ | ⟨h, _⟩ | ⟨h, _⟩ | ⟨h, _⟩
    · exact h
    · cases h
    · cases h
    · cases h
  subst hk42
  have HB5 := Lib.hid (HB4.out.trans (hb5.mono HB4.out.size))
  have HP5 : Hid (Blk W5 g3 44 (pkV 5000 5000 9 (.slice A3 1 c3))) := HP4.out.below hb5 HP4.out.lt
  have HO5 : Hid (W5.ownsRow w.heap.size 5 1 (.slice A2 16 c2) 16 (u8s ackB)) := (Fr.of_below hb5).own HO4.out (fun g hg hi => by have := (HO4.out.lt g hg).2; omega)
  clear hb5 hp ho5 HP4 HO4 HB4
  have x2 : W5.cell? ⟨g3, 2, none⟩ = some (.int .u32 9) := HP5.out.cell 2
  have x3 : W5.cell? ⟨g3, 3, none⟩ = some (.slice A3 1 c3) := HP5.out.cell 3
  go_upto_region 6 with fail
  clear x2 x3
  obtain ⟨gb, cap, hA, hg1, hg2⟩ := HO5.out.form (by omega)
  injection hA with hA _ hcc
  subst hA hcc
  have hc15 : W5.cell? ⟨gb, 15, none⟩ = some (.int .u8 4) := HO5.out.cellAt 15 (by omega)
  have hz15 := HO5.out.frozenAt 15
  have HG1 := Lib.hid hg1
  have HO6 : Hid ((W5.setCell ⟨gb, 15, none⟩ (.int .u8 5)).ownsRow w.heap.size 5 1 (.slice (some ⟨gb, 0, none⟩) 16 c2) 16 (u8s (ackB.set 15 5))) := (HO5.out.stored 15 _).1
  have HB6 : Hid (Below w.heap.size w (W5.setCell ⟨gb, 15, none⟩ (.int .u8 5))) := HB5.out.setCell (p := ⟨gb, 15, none⟩) HG1.out _
  clear HO5 HB5 HP5 hg1 hg2
  have hx5 : bits .xor .u8 4 1 = 5 := by kernel_rfl
  go_upto_region 7 with fail
  (try rw [hx5])
  obtain ⟨W6, hW6⟩ : ∃ W, W = W5.setCell ⟨gb, 15, none⟩ (.int .u8 5) := ⟨_, rfl⟩
  rw [← hW6] at HO6 HB6 ⊢
  have HY6 : Hid (Byt W6 W6.heap.size (some ⟨gb, 0, none⟩) (ackB.set 15 5)) := Reads.of_own HO6.out
  clear hW6 hc15 hz15 HO6 HG1
  go_wp2_with fail
  refine (get_p (b := ackB.set 15 5) (n := 16) rfl h2a h2b HY6.out).mono ?_
  rintro e W7 ⟨hb7, hd⟩
  rw [ack_turned] at hd
  rcases hd with ⟨f, t, g, v3, ls, he, _⟩ | ⟨k, he, rfl⟩
  · cases he
  injection he with he
  subst he
  have HB7 := Lib.hid (HB6.out.trans (hb7.mono HB6.out.size))
  clear hb7 HB6 HY6
  go_upto_region 8 with (refine wpList_store_row rfl 44 _ _ rfl W7.heap.size zeroP rfl rfl 44 _ (Blk.new W7 44 _) pk_info rfl (pk_one _ _ _ _ rfl) ?_)
  obtain ⟨W8, hW8⟩ : ∃ W, W = (W7.alloc (.cells #[.int .u16 0, .int .u16 0, .int .u32 0, .slice none 0 0] 44)).setRow W7.heap.size zeroP := ⟨_, rfl⟩
  have HB8 : Hid (Below w.heap.size w W8) := by
    have hb : Below W7.heap.size W7 W8 := by rw [hW8]; exact below_fr ((Below.refl W7.heap.size W7).alloc (Nat.le_refl _) _) (setRow_fr _ W7.heap.size _) (Nat.le_refl _) (fun i e => by have e' : i = W7.heap.size := e; omega)
    exact HB7.out.trans (hb.mono HB7.out.size)
  rw [← hW8]
  clear hW8 HB7
  go_wp2_with fail
  refine (alone_any 1 (by decide) W8).mono ?_
  rintro e w9 ⟨rfl, rfl⟩
  go_wp2_with fail
  refine (alone_any 0 (by decide) W8).mono ?_
  rintro e w9 ⟨rfl, rfl⟩
  go_wp2_with fail
  go_ret
  exact ⟨rfl, HB8.out⟩
end Go.Proofs.Ytpgklhecmafnbaa.Chk

namespace Go.Proofs.Ytpgklhecmafnbaa.Chk
open Go.ChangeShapes Go.WideShapes Go.ChangeAt Go.RowKit Go.Deep Go.Proofs.Ytpgklhecmafnbaa.Words Go.Proofs.Ytpgklhecmafnbaa.Oct Go.Proofs.Ytpgklhecmafnbaa.Par
open Go.Proofs.Ytpgklhecmafnbaa.Crc (sealL)

abbrev PkSh : Sh := .strct (.pair (.int .u16) (.pair (.int .u16) (.pair (.int .u32) (.pair (.slice CkSh) .nil))))
theorem pkSh_fits : fitsB Try.prog PkSh 44 0 [] = true := by kernel_rfl
theorem pk_of {w : World} {cs : Array Value} (h : Sees w PkSh cs.toList) : ∃ (f t g : Nat) (A : Option Addr) (c : Nat) (ls : List Ck), cs = pkV f t g (.slice A ls.length c) ∧ f < 65536 ∧ t < 65536 ∧ g < 4294967296 ∧ ls.length ≤ c ∧ c ≤ 9223372036854775807 ∧ Cks w w.heap.size A ls := by
  obtain ⟨s0, t0, e0, l0, ⟨x0, rfl, h0⟩, s1, t1, e1, l1, ⟨x1, rfl, h1⟩, s2, t2, e2, l2, ⟨x2, rfl, h2⟩, s3, t3, e3, l3, hs, rfl⟩ := h
  obtain ⟨vs, rfl⟩ := one_cell l3
  obtain ⟨A, c, ls, rfl, hc, hm, hk⟩ := cks_of hs
  have k0 := bounds_u16n h0
  have k1 := bounds_u16n h1
  have k2 := bounds_u32n h2
  refine ⟨x0.toNat, x1.toNat, x2.toNat, A, c, ls, ?_, k0.2, k1.2, k2.2, hc, hm, hk⟩
  subst e3 e2 e1
  apply Array.ext'
  rw [e0]
  simp [pkV, Int.toNat_of_nonneg k0.1, Int.toNat_of_nonneg k1.1, Int.toNat_of_nonneg k2.1]
theorem chunksP_all : ∀ (n : Nat) {b : List UInt8} {ls : List Ck}, b.length ≤ n → chunksP b = .ok ls → ∀ c ∈ ls, c.ok ∧ Puts c ∧ Small c
  | n, b, ls, hn, h => by
    by_cases hb : b = []
    · subst hb
      injection h with h
      subst h
      intro c hc
      simp at hc
    rw [chunksP_step hb] at h
    cases hs : stepP b with
    | error k => rw [hs] at h; cases h
    | ok q =>
      obtain ⟨l, m⟩ := q
      have hp := stepP_pos hs
      rw [hs] at h
      simp only at h
      cases hc : chunksP (b.drop m) with
      | error k => rw [hc] at h; cases h
      | ok r =>
        rw [hc] at h
        injection h with h
        subst h
        cases n with
        | zero => omega
        | succ n =>
          intro c hcm
          rcases List.mem_append.1 hcm with hcm | hcm
          · unfold stepP at hs
            cases hg : getC b with
            | ok q =>
              obtain ⟨c', n'⟩ := q
              rw [hg] at hs
              injection hs with hs
              injection hs with hs1 hs2
              subst hs1
              simp only [List.mem_singleton] at hcm
              subst hcm
              obtain ⟨h1, h2, _, h3, _⟩ := getC_puts hg
              exact ⟨h1, h2, h3⟩
            | error k =>
              rw [hg] at hs
              simp only at hs
              by_cases hk : k = 60 ∧ 128 ≤ num (b.take 1)
              · rw [if_pos hk] at hs
                injection hs with hs
                injection hs with hs1 hs2
                subst hs1
                simp at hcm
              · rw [if_neg hk] at hs; cases hs
          · exact chunksP_all n (by rw [List.length_drop]; omega) hc c hcm
theorem getP_all {b : List UInt8} {f t g : Nat} {ls : List Ck} (h : getP b = .ok (f, t, g, ls)) : ls.length ≤ 64 ∧ ∀ c ∈ ls, c.ok ∧ Puts c ∧ Small c := by
  unfold getP at h
  split at h
  · cases h
  split at h
  · cases h
  split at h
  · cases h
  cases hc : chunksP (b.drop 12) with
  | error k => rw [hc] at h; cases h
  | ok r =>
    rw [hc] at h
    simp only at h
    by_cases hf : fitsL r = true
    · rw [if_pos hf] at h
      injection h with h
      simp only [Prod.mk.injEq] at h
      obtain ⟨_, _, _, rfl⟩ := h
      exact ⟨(fitsL_iff.1 hf).2.1, chunksP_all _ (Nat.le_refl _) hc⟩
    · rw [if_neg hf] at h; cases h
theorem alikes_self {ls : List Ck} (h : ∀ c ∈ ls, c.ok ∧ Puts c ∧ Small c) : Alikes ls ls :=
  ⟨rfl, fun _ _ _ => rfl, fun c hc => ⟨(h c hc).2.1.known, by have := (h c hc).2.2.skips; omega⟩, fun c hc => ⟨(h c hc).2.1.known, by have := (h c hc).2.2.skips; omega⟩⟩
/-- A packet copied to a variable. -/
theorem kept_pk (W : World) (cs : Array Value) : ∃ W', W' = (W.alloc (.cells #[.int .u16 0, .int .u16 0, .int .u32 0, .slice none 0 0] 44)).setRow W.heap.size cs ∧ Blk W' W.heap.size 44 cs ∧ Below W.heap.size W W' :=
  ⟨_, rfl, setRow_any (Blk.new _ _ _), below_fr ((Below.refl W.heap.size W).alloc (Nat.le_refl _) _) (setRow_fr _ W.heap.size _) (Nat.le_refl _) (fun i e => by have e' : i = W.heap.size := e; omega)⟩
theorem wpList_load_pkW {ops : Array Oper} {rest : List Oper} {o : Oper} {a : Act} {w : World} {Q : Exit → Act → World → Prop} (hgd : o.guard = none) (x : Operand) (ho : o.op = .load 44 x)
    (g : Nat) (hx : a.eval x = .pointer (some ⟨g, 0, none⟩)) (cs : Array Value) (hg : Blk w g 44 cs) (hs : cs.size = 4)
    (h : wpList Try.prog ops Q rest (a.put o.dst (.agg cs)) w) : wpList Try.prog ops Q (o :: rest) a w :=
  wpList_load_row hgd 44 x ho g hx 44 cs (0, 0) _ hg Try.underlying44 rfl (by rw [hs]; exact pk_info) h
end Go.Proofs.Ytpgklhecmafnbaa.Chk

namespace Go.Proofs.Ytpgklhecmafnbaa.Chk
open Go.ChangeShapes Go.WideShapes Go.ChangeAt Go.RowKit Go.Deep Go.Proofs.Ytpgklhecmafnbaa.Words Go.Proofs.Ytpgklhecmafnbaa.Oct Go.Proofs.Ytpgklhecmafnbaa.Par
open Go.Proofs.Ytpgklhecmafnbaa.Crc (sealL)

theorem chunksP_more : ∀ {ls : List Ck} {y : List UInt8}, AllPuts ls → (∀ c ∈ ls, c.ok) → chunksP (bodyB ls ++ y) = consP (ls.map strip) (chunksP y)
  | [], y, _, _ => by rw [bodyB_nil, List.nil_append, List.map_nil, consP_nil]
  | c :: r, y, hp, ok => by
    rw [bodyB_cons, List.append_assoc, chunksP_step (by intro h; exact getC_ne_nil (List.append_eq_nil_iff.1 h).1), step_put (ok c (by simp)) (hp c (by simp))]
    simp only
    rw [List.drop_left, chunksP_more (fun d hd => hp d (by simp [hd])) (fun d hd => ok d (by simp [hd])), consP_two]
    rfl
theorem getC_frame_no {k f : Nat} {x : List UInt8} (hk : k < 256) (hf : f < 256) (hx : x.length + 4 < 65536) (hn : known k = false) : getC (frame k f x) = .error 60 := by
  have e : frame k f x = frame k f x ++ [] := by simp
  have h1 := fr_1 (r := []) (k := k) (f := f) (x := x) hk
  have h3 := fr_3 (r := []) (k := k) (f := f) (x := x) hx
  have h5 := fr_5 (r := []) (k := k) (f := f) (x := x)
  rw [List.append_nil] at h1 h3 h5
  have hl := frame_len k f x
  unfold getC
  rw [h3, h1, h5, up4, if_neg (by omega), if_neg (by omega), if_neg (by omega), if_neg ?_, if_pos hn]
  rw [show x.length + 4 + padC x.length - (x.length + 4) = padC x.length by omega, List.append_nil, List.take_of_length_le (by simp)]
  simp
theorem step_frame {k f : Nat} {x : List UInt8} (hk : k < 256) (hf : f < 256) (hx : x.length + 4 < 65536) (hn : known k = false) :
    chunksP (frame k f x) = if 128 ≤ k then .ok [] else .error 60 := by
  have hne : frame k f x ≠ [] := by
    intro h
    have := frame_len k f x
    rw [h] at this
    simp at this
    omega
  have h1 := fr_1 (r := []) (k := k) (f := f) (x := x) hk
  have h3 := fr_3 (r := []) (k := k) (f := f) (x := x) hx
  rw [List.append_nil] at h1 h3
  rw [chunksP_step hne]
  by_cases h8 : 128 ≤ k
  · rw [step_skip (getC_frame_no hk hf hx hn) (by rw [h1]; exact h8), if_pos h8]
    simp only
    rw [h3, up4, List.drop_of_length_le (by rw [frame_len]; omega), chunksP_nil]
    rfl
  · rw [step_err (getC_frame_no hk hf hx hn) (fun h => h8 (by have := h.2; rw [h1] at this; exact this)), if_neg h8]
theorem bodyB_mod (ls : List Ck) : (bodyB ls).length % 4 = 0 := by
  induction ls with
  | nil => rfl
  | cons c r ih =>
    rw [bodyB_cons, List.length_append]
    unfold bytesC
    rw [frame_len]
    have : (cont c).length + 4 + padC (cont c).length = ((cont c).length + 4 + 3) / 4 * 4 := (up4 _).symm
    omega
theorem sealL_drop (l : List UInt8) (h : 12 ≤ l.length) : (sealL l 8).drop 12 = l.drop 12 := by
  unfold sealL
  have h1 : (l.take 8 ++ Crc.le4 (Crc.sumL (Crc.zeroed l 8))).length = 12 := by rw [List.length_append, List.length_take, le4_len]; omega
  rw [List.drop_append_of_le_length (by omega), List.drop_of_length_le (by omega), List.nil_append]
/-- A packet with such a chunk behind, sealed anew. -/
theorem getP_pass {hd : List UInt8} {ls : List Ck} {k : Nat} {x : List UInt8} (hh : hd.length = 12) (hfit : fitsL ls = true) (hp : AllPuts ls) (ok : ∀ c ∈ ls, c.ok) (hk : k < 256) (hx : x.length + 4 < 65536) (hn : known k = false)
    (hl : (sealL (hd ++ bodyB ls) 8 ++ frame k 0 x).length ≤ 1200) :
    (128 ≤ k → ∃ f t g, getP (sealL (sealL (hd ++ bodyB ls) 8 ++ frame k 0 x) 8) = .ok (f, t, g, ls.map strip)) ∧ (¬ 128 ≤ k → getP (sealL (sealL (hd ++ bodyB ls) 8 ++ frame k 0 x) 8) = .error 60) := by
  have h1 : (hd ++ bodyB ls).length = 12 + (bodyB ls).length := by rw [List.length_append, hh]
  have h2 : (sealL (hd ++ bodyB ls) 8).length = 12 + (bodyB ls).length := by rw [sealL_length _ _ (by omega), h1]
  obtain ⟨T, hT⟩ : ∃ T, T = sealL (hd ++ bodyB ls) 8 ++ frame k 0 x := ⟨_, rfl⟩
  have hd12 : T.drop 12 = bodyB ls ++ frame k 0 x := by
    rw [hT, List.drop_append_of_le_length (by omega), sealL_drop _ (by omega), List.drop_append_of_le_length (by omega), List.drop_of_length_le (by omega), List.nil_append]
  rw [← hT] at hl ⊢
  have hT12 : 12 ≤ T.length := by rw [hT, List.length_append]; omega
  have h3 : (sealL T 8).length = T.length := sealL_length _ _ (by omega)
  have hs := sealL_again T 8 (by omega)
  have hc : chunksP ((sealL T 8).drop 12) = consP (ls.map strip) (if 128 ≤ k then .ok [] else .error 60) := by
    rw [sealL_drop _ hT12, hd12, chunksP_more hp ok, step_frame hk (by decide) hx hn]
  unfold getP
  rw [if_neg (by omega), if_neg (by omega), if_neg (fun h => h hs), hc]
  refine ⟨fun h8 => ?_, fun h8 => ?_⟩
  · rw [if_pos h8]
    have e : consP (ls.map strip) (.ok []) = .ok (ls.map strip) := by simp [consP]
    rw [e]
    simp only
    rw [strips_fits hp, if_pos hfit]
    exact ⟨_, _, _, rfl⟩
  · rw [if_neg h8]
    rfl
end Go.Proofs.Ytpgklhecmafnbaa.Chk
