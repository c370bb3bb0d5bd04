/-
  PkGot, OctRef, ChRf5, Pk6, Pk8, FrPut, in one text.
-/
import Derived.Test.YtabkjgklmibagaaPkPlain
import Derived.Test.YtabkjgklmibagaaChBr
import Derived.Test.YtabkjgklmibagaaPk2
import Derived.Test.YtabkjgklmibagaaPk3
import Derived.Test.YtabkjgklmibagaaOctText
import Derived.Test.YtabkjgklmibagaaChGet
import Derived.Test.YtabkjgklmibagaaChRf1
import Derived.Test.YtabkjgklmibagaaParGet
import Derived.Test.YtabkjgklmibagaaStage
import Derived.Test.YtabkjgklmibagaaPk5
import Derived.Test.YtabkjgklmibagaaFrA
set_option linter.unusedVariables false
set_option linter.unusedSimpArgs false

namespace Go.Proofs.Ytabkjgklmibagaa.Chk
open Go.RowKit Go.Proofs.Ytabkjgklmibagaa.Words Go.Proofs.Ytabkjgklmibagaa.Oct Go.Proofs.Ytabkjgklmibagaa.Par
open Go.Proofs.Ytabkjgklmibagaa.Crc (sealL)

theorem fill_stripP {c : Ck} (h : known c.kind = true) : fillD (flagged c.kind (flagsN c)) c = strip c := by
  obtain ⟨k, bg, en, lo, ba, tsn, st, mid, pp, fr, tag, win, out, inn, gaps, dups, skips, ps, body⟩ := c
  simp only at h
  rcases kinds h with rfl | rfl | rfl | rfl | rfl | rfl | rfl | rfl | rfl | rfl | rfl | rfl | rfl | rfl | rfl | rfl | rfl <;> first | rfl | (cases ba <;> simp [fillD, flagged, flagsN, hasBody, hasPs, loN, strip, zeroC] <;> done) | (cases bg <;> cases en <;> cases lo <;> simp [fillD, flagged, flagsN, hasBody, loN, strip, zeroC] <;> done)
theorem getC_put {c : Ck} {r : List UInt8} (ok : c.ok) (hp : Puts c) : getC (bytesC c ++ r) = .ok (strip c, (bytesC c).length) := by
  rw [getC_bytes ok hp, fill_stripP hp.known]
theorem strip_puts {c : Ck} (ok : c.ok) (hp : Puts c) : Puts (strip c) ∧ bytesC (strip c) = bytesC c ∧ (strip c).ok := by
  have h := got_puts ok hp
  rw [fill_stripP hp.known] at h
  exact ⟨h.1, h.2, (getC_puts (getC_put (r := []) ok hp)).1⟩
theorem strip_strip {c : Ck} (ok : c.ok) (hp : Puts c) : strip (strip c) = strip c := by
  obtain ⟨h1, h2, h3⟩ := strip_puts ok hp
  have e1 := getC_put (r := []) h3 h1
  rw [h2, getC_put ok hp] at e1
  injection e1 with e1
  injection e1 with e1
  exact e1.symm
theorem strip_kind {c : Ck} (hp : Puts c) : (strip c).kind = c.kind := by
  rw [← fill_stripP hp.known]
  exact (lacks_fill (flagged_kind' _ _)).1
theorem strips_fits {ls : List Ck} (hp : AllPuts ls) : fitsL (ls.map strip) = fitsL ls := by
  have h : anyAlone (ls.map strip) = anyAlone ls := by
    unfold anyAlone
    rw [List.any_map]
    induction ls with
    | nil => rfl
    | cons c r ih =>
      simp only [List.any_cons, Function.comp]
      rw [strip_kind (hp c (by simp)), ih (fun d hd => hp d (by simp [hd]))]
  unfold fitsL
  rw [h, List.length_map]
theorem getC_ne_nil {c : Ck} : bytesC c ≠ [] := by
  unfold bytesC frame
  intro h
  have := congrArg List.length h
  simp [be_length] at this
theorem step_put {c : Ck} {r : List UInt8} (ok : c.ok) (hp : Puts c) : stepP (bytesC c ++ r) = .ok ([strip c], (bytesC c).length) := by
  unfold stepP
  rw [getC_put ok hp]
theorem chunksP_put : ∀ {ls : List Ck}, AllPuts ls → (∀ c ∈ ls, c.ok) → chunksP (bodyB ls) = .ok (ls.map strip)
  | [], _, _ => rfl
  | c :: r, hp, ok => by
    rw [bodyB_cons, chunksP_step (by intro h; exact getC_ne_nil (List.append_eq_nil_iff.1 h).1), step_put (ok c (by simp)) (hp c (by simp))]
    simp only
    rw [List.drop_left, chunksP_put (fun d hd => hp d (by simp [hd])) (fun d hd => ok d (by simp [hd]))]
    rfl
theorem le4_len (s : Nat) : (Crc.le4 s).length = 4 := by simp [Crc.le4]
theorem sealL_length (l : List UInt8) (k : Nat) (hk : k + 4 ≤ l.length) : (sealL l k).length = l.length := by
  unfold sealL
  simp only [List.length_append, List.length_take, List.length_drop, le4_len]
  omega
theorem sealL_again (l : List UInt8) (k : Nat) (hk : k + 4 ≤ l.length) : sealL (sealL l k) k = sealL l k :=
  ((Crc.sealed_iff _ _ (by rw [sealL_length l k hk]; exact hk)).1 (Crc.sealed_seal l k hk)).symm
/-- A packet's bytes read: the head, the rest. -/
theorem sealed_head {f t g : Nat} {y : List UInt8} : ∃ q, q.length = 4 ∧ sealL (headB f t g ++ y) 8 = be f 2 ++ (be t 2 ++ (be g 4 ++ (q ++ y))) := by
  refine ⟨Crc.le4 (Crc.sumL (Crc.zeroed (headB f t g ++ y) 8)), le4_len _, ?_⟩
  unfold sealL
  generalize Crc.le4 (Crc.sumL (Crc.zeroed (headB f t g ++ y) 8)) = q
  have e : headB f t g ++ y = (be f 2 ++ (be t 2 ++ be g 4)) ++ (be 0 4 ++ y) := by unfold headB; simp only [List.append_assoc]
  have l8 : (be f 2 ++ (be t 2 ++ be g 4)).length = 8 := by simp only [List.length_append, be_length]
  rw [e, List.take_append_of_le_length (by omega), List.take_of_length_le (by omega), List.append_assoc, List.append_assoc, List.append_assoc]
  congr 3
theorem getP_put {f t g : Nat} {ls : List Ck} (hf : f < 65536) (ht : t < 65536) (hg : g < 4294967296) (hfit : fitsL ls = true) (hp : AllPuts ls) (ok : ∀ c ∈ ls, c.ok) (hb : (bodyB ls).length ≤ 1188) :
    getP (sealL (headB f t g ++ bodyB ls) 8) = .ok (f, t, g, ls.map strip) := by
  obtain ⟨q, hq, e⟩ := sealed_head (f := f) (t := t) (g := g) (y := bodyB ls)
  have hl : (headB f t g ++ bodyB ls).length = 12 + (bodyB ls).length := by rw [List.length_append, headB_len]
  have hl2 : (sealL (headB f t g ++ bodyB ls) 8).length = 12 + (bodyB ls).length := by rw [sealL_length _ _ (by omega), hl]
  have hs := sealL_again (headB f t g ++ bodyB ls) 8 (by omega)
  unfold getP
  rw [if_neg (by omega), if_neg (by omega), if_neg (fun h => h hs)]
  have d12 : (sealL (headB f t g ++ bodyB ls) 8).drop 12 = bodyB ls := by
    rw [e, show 12 = 2 + (2 + (4 + (4 + 0))) by rfl, drop_be_more, drop_be_more, drop_be_more, drop_more _ hq, List.drop_zero]
  have t2 : (sealL (headB f t g ++ bodyB ls) 8).take 2 = be f 2 := by rw [e]; exact take_be _ _ _
  have d2 : ((sealL (headB f t g ++ bodyB ls) 8).drop 2).take 2 = be t 2 := by rw [e, show 2 = 2 + 0 by rfl, drop_be_more, List.drop_zero]; exact take_be _ _ _
  have d4 : ((sealL (headB f t g ++ bodyB ls) 8).drop 4).take 4 = be g 4 := by rw [e, show 4 = 2 + (2 + 0) by rfl, drop_be_more, drop_be_more, List.drop_zero]; exact take_be _ _ _
  rw [d12, t2, d2, d4, chunksP_put hp ok]
  simp only
  rw [strips_fits hp, if_pos hfit, num_be_lt hf, num_be_lt ht, num_be_lt hg]
theorem alikes_strip {ls : List Ck} (hp : AllPuts ls) (ok : ∀ c ∈ ls, c.ok) (hs : ∀ c ∈ ls, c.skips.length ≤ 500000 ∧ (strip c).skips.length ≤ 500000) : Alikes (ls.map strip) ls := by
  refine ⟨by simp, fun k h1 h2 => ?_, fun c hc => ?_, fun c hc => ⟨(hp c hc).known, (hs c hc).1⟩⟩
  · rw [List.getElem_map]
    exact strip_strip (ok _ (List.getElem_mem h2)) (hp _ (List.getElem_mem h2))
  · obtain ⟨d, hd, rfl⟩ := List.mem_map.1 hc
    exact ⟨by rw [strip_kind (hp d hd)]; exact (hp d hd).known, (hs d hd).2⟩
theorem strip_small {c : Ck} (ok : c.ok) (hp : Puts c) : (strip c).skips.length ≤ 500000 := by
  have h := (getC_puts (getC_put (r := []) ok hp)).2.2.2.1.skips
  omega
/-! ### the first packet of the law's own -/
def ackC : Ck := zeroC 8
def ackB : List UInt8 := [19, 136, 19, 136, 0, 0, 0, 9, 102, 130, 153, 23, 8, 0, 0, 4]
theorem ack_puts : Puts ackC := ⟨rfl, rfl, fun h => by
  unfold tooLong at h
  rcases h with ⟨h, _⟩ | ⟨h, _⟩ | h
  · exact absurd h (by decide)
  · exact absurd h (by decide)
  · exact absurd h (by decide)⟩
theorem ack_ok : ackC.ok := zero_ok' (by decide)
theorem ack_body : bodyB [ackC] = [8, 0, 0, 4] := by rfl
theorem ack_seal : sealL (headB 5000 5000 9 ++ bodyB [ackC]) 8 = ackB := by kernel_rfl
theorem ack_get : getP ackB = .ok (5000, 5000, 9, [strip ackC]) := by
  rw [← ack_seal]
  exact getP_put (by decide) (by decide) (by decide) rfl (fun c hc => by simp only [List.mem_singleton] at hc; rw [hc]; exact ack_puts) (fun c hc => by simp only [List.mem_singleton] at hc; rw [hc]; exact ack_ok) (by rw [ack_body]; decide)
theorem ack_put {kk : Nat} {l : List UInt8} (h : PutP (headB 5000 5000 9) [ackC] kk l) : kk = 0 ∧ l = ackB := by
  refine putP_one h (.inr (.inr (.inr ⟨rfl, fun c hc => by simp only [List.mem_singleton] at hc; rw [hc]; exact ack_puts, by rw [ack_body]; decide, rfl, ack_seal.symm⟩)))
theorem ack_turned : getP (ackB.set 15 5) = .error 70 := getP_sum' (by decide) (by decide) (by
  have h : Crc.sealedB (ackB.set 15 5) 8 = false := by kernel_rfl
  intro e
  rw [(Crc.sealed_iff _ _ (by decide)).2 e.symm] at h
  cases h)
where
  getP_sum' {b : List UInt8} (h1 : 12 ≤ b.length) (h2 : b.length ≤ 1200) (h : sealL b 8 ≠ b) : getP b = .error 70 := by unfold getP; rw [if_neg (by omega), if_neg (by omega), if_pos h]
end Go.Proofs.Ytabkjgklmibagaa.Chk

namespace Go.Proofs.Ytabkjgklmibagaa.Oct
open Go.ChangeShapes Go.WideShapes Go.ChangeAt Go.RowKit Go.Proofs.Ytabkjgklmibagaa.Words

/-! ### the tape -/
abbrev ptr (p : Nat) : Value := .pointer (some ⟨p, 0, none⟩)
end Go.Proofs.Ytabkjgklmibagaa.Oct

namespace Go.Proofs.Ytabkjgklmibagaa.Chk
open Go.ChangeShapes Go.WideShapes Go.ChangeAt Go.RowKit Go.Deep Go.Proofs.Ytabkjgklmibagaa.Words Go.Proofs.Ytabkjgklmibagaa.Oct Go.Proofs.Ytabkjgklmibagaa.Par

def leastN (k : Nat) : Nat := if k = 0 then 13 else if k = 64 then 17 else if k = 1 ∨ k = 2 then 16 else if k = 3 then 12 else if k = 7 ∨ k = 192 ∨ k = 194 then 4 else 0
def byN (k : Nat) : Nat := if k = 1 ∨ k = 2 ∨ k = 3 ∨ k = 192 ∨ k = 6 ∨ k = 9 ∨ k = 130 then 4 else if k = 194 then 8 else if k = 7 ∨ k = 8 ∨ k = 11 ∨ k = 14 then 0 else 1
def badShape (k m : Nat) : Prop := m < leastN k ∨ (byN k = 0 ∧ leastN k < m) ∨ (1 < byN k ∧ (m - leastN k) % byN k ≠ 0)
instance (k m : Nat) : Decidable (badShape k m) := by unfold badShape; infer_instance
theorem num_one (l : List UInt8) (h : 1 ≤ l.length) : num (l.take 1) = (l[0]).toNat := by
  match l, h with
  | x :: l, _ => simp [num]
theorem getL_mod {x : List UInt8} {ls : List Prm} (h : getL x = .ok ls) : x.length % 4 = 0 := by
  have := (enc_getL x.length x ls (Nat.le_refl _) h).2
  rw [← this]; exact encL_mod ls
theorem flagged_kindN (k f : Nat) : (flagged k f).kind = k := by unfold flagged; split; rfl; split <;> rfl
theorem lacks_no {c : Ck} (h : hasBody c.kind = false) : lacks c = false := by unfold lacks; rw [h]; rfl
/-- What has not its kind's shape is none. -/
theorem dec_shape {k f : Nat} {x : List UInt8} (hk : known k = true) (h : badShape k x.length) : decC k f x = none := by
  unfold decC
  split
  rotate_left
  · rfl
  have hb : ∀ c, decB (flagged k f) x = some c → lacks c = true := by
    intro c hc
    have hkd := flagged_kindN k f
    unfold badShape at h
    rcases kinds hk with rfl | rfl | rfl | rfl | rfl | rfl | rfl | rfl | rfl | rfl | rfl | rfl | rfl | rfl | rfl | rfl | rfl <;> simp only [leastN, byN] at h
    · rw [decB_0 hkd] at hc
      split at hc
      · injection hc with hc
        subst hc
        have : x.drop 12 = [] := List.drop_of_length_le (by simp at h; omega)
        unfold withFrag lacks hasBody
        rw [if_pos hkd]
        simp [hkd, this]
      · cases hc
    · rw [decB_12 (.inl hkd)] at hc
      split at hc
      · rename_i h16
        cases hg : getL (x.drop 16) with
        | error e => rw [hg] at hc; cases hc
        | ok ls => have := getL_mod hg; rw [List.length_drop] at this; simp at h; omega
      · cases hc
    · rw [decB_12 (.inr hkd)] at hc
      split at hc
      · rename_i h16
        cases hg : getL (x.drop 16) with
        | error e => rw [hg] at hc; cases hc
        | ok ls => have := getL_mod hg; rw [List.length_drop] at this; simp at h; omega
      · cases hc
    · rw [decB_3 hkd] at hc
      split at hc
      · rename_i h16; simp at h; omega
      · cases hc
    · simp at h
    · simp at h
    · rw [decB_ps (by rw [hkd]; omega) (by rw [hkd]; rfl)] at hc
      cases hg : getL x with
      | error e => rw [hg] at hc; cases hc
      | ok ls => have := getL_mod hg; simp at h; omega
    · rw [decB_7 hkd] at hc
      split at hc
      · simp at h; omega
      · cases hc
    · rw [decB_no (by rw [hkd]; decide) (by rw [hkd]; decide) (by rw [hkd]; decide) (by rw [hkd]; decide) (by rw [hkd]; decide) (by rw [hkd]; decide) (by rw [hkd]; decide) (by rw [hkd]; decide) (by rw [hkd]; decide)] at hc
      split at hc
      · rename_i hx; subst hx; simp at h
      · cases hc
    · rw [decB_ps (by rw [hkd]; omega) (by rw [hkd]; rfl)] at hc
      cases hg : getL x with
      | error e => rw [hg] at hc; cases hc
      | ok ls => have := getL_mod hg; simp at h; omega
    · simp at h
    · rw [decB_no (by rw [hkd]; decide) (by rw [hkd]; decide) (by rw [hkd]; decide) (by rw [hkd]; decide) (by rw [hkd]; decide) (by rw [hkd]; decide) (by rw [hkd]; decide) (by rw [hkd]; decide) (by rw [hkd]; decide)] at hc
      split at hc
      · rename_i hx; subst hx; simp at h
      · cases hc
    · rw [decB_no (by rw [hkd]; decide) (by rw [hkd]; decide) (by rw [hkd]; decide) (by rw [hkd]; decide) (by rw [hkd]; decide) (by rw [hkd]; decide) (by rw [hkd]; decide) (by rw [hkd]; decide) (by rw [hkd]; decide)] at hc
      split at hc
      · rename_i hx; subst hx; simp at h
      · cases hc
    · rw [decB_64 hkd] at hc
      split at hc
      · rename_i h16
        injection hc with hc
        subst hc
        have : x.drop 16 = [] := List.drop_of_length_le (by simp at h; omega)
        unfold withFrag lacks hasBody
        rw [if_neg (by rw [hkd]; decide)]
        split <;> simp [hkd, this]
      · cases hc
    · rw [decB_ps (by rw [hkd]; omega) (by rw [hkd]; rfl)] at hc
      cases hg : getL x with
      | error e => rw [hg] at hc; cases hc
      | ok ls => have := getL_mod hg; simp at h; omega
    · rw [decB_192 hkd] at hc
      split at hc
      · rename_i h16; simp at h; omega
      · cases hc
    · rw [decB_194 hkd] at hc
      split at hc
      · rename_i h16; simp at h; omega
      · cases hc
  cases hd : decB (flagged k f) x with
  | none => rfl
  | some c => simp only; rw [if_pos (hb c hd)]
/-- What the document's Get answers. -/
abbrev RGetDone (w : World) (b : List UInt8) (e : Ending) (w' : World) : Prop := GetDoneC w b e w'
end Go.Proofs.Ytabkjgklmibagaa.Chk

namespace Go.Proofs.Ytabkjgklmibagaa.Chk
open Go.ChangeShapes Go.WideShapes Go.ChangeAt Go.RowKit Go.Deep Go.Proofs.Ytabkjgklmibagaa.Words Go.Proofs.Ytabkjgklmibagaa.Oct Go.Proofs.Ytabkjgklmibagaa.Par
open Go.Proofs.Ytabkjgklmibagaa.Crc (sealL)

def lenOf : Value → Nat
  | .slice _ n _ => n
  | _ => 0
/-- What chunks leaves. -/
def ChunksPk (w : World) (b : List UInt8) (e : Ending) (w' : World) : Prop :=
  Below w.heap.size w w' ∧ ((∃ v ls, chunksP b = .ok ls ∧ ls.length ≤ 400 ∧ e = .returned (.tuple #[v, .int .i64 0]) ∧ OwnCks w' w.heap.size v ls) ∨ (∃ k : Nat, chunksP b = .error k ∧ e = .returned (.tuple #[.slice none 0 0, .int .i64 (k : Int)])))
theorem first_byte {b : List UInt8} (h : 0 < b.length) : num (b.take 1) = (b[0]).toNat := num_one b h
theorem step_ok {r : List UInt8} {c : Ck} {n : Nat} (h : getC r = .ok (c, n)) : stepP r = .ok ([c], n) := by unfold stepP; rw [h]
theorem step_skip {r : List UInt8} (h : getC r = .error 60) (h8 : 128 ≤ num (r.take 1)) : stepP r = .ok ([], (num ((r.drop 2).take 2) + 3) / 4 * 4) := by unfold stepP; rw [h]; simp [h8]
theorem step_err {r : List UInt8} {k : Nat} (h : getC r = .error k) (h8 : ¬ (k = 60 ∧ 128 ≤ num (r.take 1))) : stepP r = .error k := by unfold stepP; rw [h]; simp only; rw [if_neg h8]
theorem chunks_on {b r : List UInt8} {acc l : List Ck} {n : Nat} (h : chunksP b = consP acc (chunksP r)) (hr : r ≠ []) (hs : stepP r = .ok (l, n)) : chunksP b = consP (acc ++ l) (chunksP (r.drop n)) := by
  rw [h, chunksP_step hr, hs]
  exact consP_two _ _ _
theorem chunks_end {b r : List UInt8} {acc : List Ck} {k : Nat} (h : chunksP b = consP acc (chunksP r)) (hr : r ≠ []) (hs : stepP r = .error k) : chunksP b = .error k := by
  rw [h, chunksP_step hr, hs]
  rfl
/-- Where chunks stands: what is left, the row. -/
structure ChkSt (w V : World) (b : List UInt8) (A0 : Option Addr) (r : List UInt8) (v : Value) (acc : List Ck) : Prop where
  byt : Byt w w.heap.size A0 r
  own : OwnCks V w.heap.size v acc
  eq : chunksP b = consP acc (chunksP r)
  below : Below w.heap.size w V
theorem ChkSt.grows {w V V' : World} {b r : List UInt8} {A0 : Option Addr} {v : Value} {acc : List Ck} (h : ChkSt w V b A0 r v acc) (k : Below V.heap.size V V') : ChkSt w V' b A0 r v acc :=
  ⟨h.byt, h.own.grows k, h.eq, h.below.trans (k.mono h.below.size)⟩
/-! ### Get -/
theorem pk_info : (Try.prog.info? 47).map (·.size) = some 4 := by kernel_rfl
theorem pk_one (f t g : Nat) (v : Value) (hv : v.oneCell' = true) : (pkV f t g v).all (·.oneCell') = true := by cases v <;> simp_all [pkV, Value.oneCell']
theorem res_pk {fn : Func} {p u : Tmp} (h : fn.results = #[.cell p 47, .tmp u]) (tmps : Array Value) (w : World) (g : Nat) (cs : Array Value) (hp : tmps.getD p undef = .pointer (some ⟨g, 0, none⟩)) (hb : Blk w g 47 cs) (hs : cs.size = 4) :
    (results fn tmps).run Try.prog w = .ok (.tuple #[.agg cs, tmps.getD u undef]) w := by
  have hl := run_loadVar_row (P := Try.prog) w g 47 47 cs (0, 0) _ hb Try.underlying47 rfl (by rw [hs]; exact pk_info)
  have hp' : tmps[p]?.getD undef = .pointer (some ⟨g, 0, none⟩) := by simpa using hp
  simp [results, h, hp', asAddr, Sem.run_bind, Result.andThen, hl]
theorem setRow_any {w : World} {g : Nat} {t : TypeId} {cs cs' : Array Value} (h : Blk w g t cs) : Blk (w.setRow g cs') g t cs' := setRow_heap w g cs cs' _ (0, 0) h
theorem pk_none : Try.prog.built 47 [] = some (pkV 0 0 0 (.slice none 0 0)) := by kernel_rfl
theorem pk_built (f t g : Nat) (v : Value) (hv : ∃ A n c, v = .slice A n c) : Try.prog.built 47 [(0, .int .u16 (f : Int)), (1, .int .u16 (t : Int)), (2, .int .u32 (g : Int)), (3, v)] = some (pkV f t g v) := by
  obtain ⟨A, n, c, rfl⟩ := hv
  kernel_rfl
abbrev zeroP : Array Value := pkV 0 0 0 (.slice none 0 0)
/-- What Get leaves. -/
def GetPk (w : World) (b : List UInt8) (e : Ending) (w' : World) : Prop :=
  Below w.heap.size w w' ∧ ((∃ f t g v ls, getP b = .ok (f, t, g, ls) ∧ e = .returned (.tuple #[.agg (pkV f t g v), .int .i64 0]) ∧ OwnCks w' w.heap.size v ls ∧ f < 65536 ∧ t < 65536 ∧ g < 4294967296) ∨
    (∃ k : Nat, getP b = .error k ∧ e = .returned (.tuple #[.agg zeroP, .int .i64 (k : Int)])))
theorem getP_short {b : List UInt8} (h : b.length < 12) : getP b = .error 40 := by unfold getP; rw [if_pos h]
theorem getP_long {b : List UInt8} (h : 1200 < b.length) : getP b = .error 43 := by unfold getP; rw [if_neg (by omega), if_pos h]
theorem getP_sum {b : List UInt8} (h1 : 12 ≤ b.length) (h2 : b.length ≤ 1200) (h : sealL b 8 ≠ b) : getP b = .error 70 := by unfold getP; rw [if_neg (by omega), if_neg (by omega), if_pos h]
theorem getP_rest {b : List UInt8} (h1 : 12 ≤ b.length) (h2 : b.length ≤ 1200) (h : sealL b 8 = b) : getP b = match chunksP (b.drop 12) with
    | .error k => .error k
    | .ok ls => if fitsL ls = true then .ok (num (b.take 2), num ((b.drop 2).take 2), num ((b.drop 4).take 4), ls) else .error 42 := by
  unfold getP; rw [if_neg (by omega), if_neg (by omega), if_neg (fun h' => h' h)]
  all_goals (cases chunksP (b.drop 12) <;> rfl)
end Go.Proofs.Ytabkjgklmibagaa.Chk

namespace Go.Proofs.Ytabkjgklmibagaa.Chk
open Go.ChangeShapes Go.WideShapes Go.ChangeAt Go.RowKit Go.Deep Go.Proofs.Ytabkjgklmibagaa.Words Go.Proofs.Ytabkjgklmibagaa.Oct Go.Proofs.Ytabkjgklmibagaa.Par
open Go.Proofs.Ytabkjgklmibagaa.Crc (sealL)

theorem cks_one {w : World} {g B : Nat} {cs : Array Value} {c : Ck} (hb : CkBlk w g cs) (h : CkAt w B cs c) (hg : g < B) : Cks w B (some ⟨g, 0, none⟩) [c] := fun k c' hc' => by
  match k with
  | 0 =>
    simp only [List.getElem?_cons_zero, Option.some.injEq] at hc'
    subst hc'
    refine ⟨⟨g, 0, none⟩, cs, rfl, hg, h, fun j v hv => ?_⟩
    rw [add_of_add, Nat.zero_mul, Nat.zero_add, hb.cellAdd]
    exact hv
  | k + 1 => simp at hc'
end Go.Proofs.Ytabkjgklmibagaa.Chk

namespace Go.Proofs.Ytabkjgklmibagaa.Chk
open Go.ChangeShapes Go.WideShapes Go.ChangeAt Go.RowKit Go.Deep Go.Proofs.Ytabkjgklmibagaa.Words Go.Proofs.Ytabkjgklmibagaa.Oct Go.Proofs.Ytabkjgklmibagaa.Par

theorem pieceF_body (m : Msg) (K : Nat) (b : Bool) (i : Nat) : (pieceF m K b i).body = (m.body.drop (i * K)).take K := rfl
theorem pieceF_len {m : Msg} {K : Nat} {b : Bool} {i : Nat} (h : i * K < m.body.length) (hK : 1 ≤ K) : 0 < (pieceF m K b i).body.length ∧ (pieceF m K b i).body.length ≤ K := by
  rw [pieceF_body, List.length_take, List.length_drop]
  omega
theorem piece_put {m : Msg} {K : Nat} {b : Bool} {i : Nat} {hd : List UInt8} {kk : Nat} {l : List UInt8} (ok : m.ok) (h : i * K < m.body.length) (hK : 1 ≤ K) (hK2 : K ≤ roomF b) (hp : PutP hd [pieceF m K b i] kk l) : kk = 0 := by
  have hl := pieceF_len (b := b) h hK
  have hr := roomF_le b
  obtain ⟨c, hc⟩ : ∃ c, c = pieceF m K b i := ⟨_, rfl⟩
  have hkind : c.kind = if b = true then 64 else 0 := by rw [hc]; rfl
  rw [← hc] at hl hp
  have hb : hasBody c.kind = true := by rw [hkind]; cases b <;> rfl
  have hcont : cont c = fragE c ++ c.body := by unfold cont; rw [if_pos hb]
  have hfl : (fragE c).length = if b = true then 16 else 12 := by
    unfold fragE
    cases b
    · rw [if_pos (by rw [hkind]; rfl)]
      simp [be_length]
    · rw [if_neg (by rw [hkind]; decide)]
      simp [be_length]
  have hcl : (cont c).length ≤ 1184 := by
    rw [hcont, List.length_append, hfl]
    cases b
    · have : roomF false = 1172 := rfl
      simp at *
      omega
    · have : roomF true = 1168 := rfl
      simp at *
      omega
  have hput : Puts c := by
    refine ⟨?_, ?_, ?_⟩
    · rw [hkind]; cases b <;> rfl
    · unfold lacks
      cases hcb : c.body with
      | nil => rw [hcb] at hl; simp at hl
      | cons => simp
    · rintro (⟨h3, _⟩ | ⟨h3, _⟩ | h3)
      · rw [hkind] at h3; cases b <;> cases h3
      · rw [hkind] at h3; cases b <;> cases h3
      · omega
  have hlen : (bodyB [c]).length ≤ 1188 := by
    have e : bodyB [c] = bytesC c := by rw [bodyB_cons, bodyB_nil, List.append_nil]
    rw [e, bytes_len]
    unfold padC
    omega
  have hall : AllPuts [c] := by
    intro d hd'
    simp only [List.mem_singleton] at hd'
    subst hd'
    exact hput
  have hfit : fitsL [c] = true := by
    rw [fitsL_iff]
    simp
  rcases hp with ⟨h1, _⟩ | ⟨_, h1, _⟩ | ⟨_, _, h1, _⟩ | ⟨_, _, _, h1, _⟩
  · rw [hfit] at h1; cases h1
  · exact (bad_all h1 hall).elim
  · omega
  · exact h1
theorem str_append (a b : List UInt8) : (⟨a.toArray⟩ : ByteArray) ++ ⟨b.toArray⟩ = ⟨(a ++ b).toArray⟩ := by
  apply ByteArray.ext
  simp
theorem str_size (l : List UInt8) : (⟨l.toArray⟩ : ByteArray).size = l.length := by simp [ByteArray.size]
theorem str_next (m : Msg) (K : Nat) (b : Bool) (k : Nat) : (⟨(m.body.take (k * K)).toArray⟩ : ByteArray) ++ ⟨(pieceF m K b k).body.toArray⟩ = ⟨(m.body.take ((k + 1) * K)).toArray⟩ := by
  rw [str_append, pieceF_body, Nat.add_mul, Nat.one_mul, List.take_add]
theorem pk_built3 (v : Value) (hv : ∃ A n c, v = .slice A n c) : Try.prog.built 47 [(3, v)] = some (pkV 0 0 0 v) := by
  obtain ⟨A, n, c, rfl⟩ := hv
  kernel_rfl
theorem np_last {n K k : Nat} (hK : 1 ≤ K) (hk : k < np n K) : (n ≤ (k + 1) * K) ↔ (k : Int) = (np n K : Int) - 1 := by
  have h := not_congr (np_lt (n := n) (i := k + 1) hK)
  omega
end Go.Proofs.Ytabkjgklmibagaa.Chk
