/-
  Contracts of package span's functions that change a set: advance, put, Add, Skip.
-/
import Derived.Test.YtgbkmnmkejcogaaSpanIns
import Derived.RegionTactic
set_option linter.unusedVariables false
set_option linter.unusedSimpArgs false
namespace Go.Proofs.Ytgbkmnmkejcogaa.Span
open Go.ChangeShapes Go.WideShapes Go.ChangeAt Go.RowKit Go.Proofs.Ytgbkmnmkejcogaa.Ser

theorem insert_any {w : World} {B n i b m : Nat} {T : TypeId} {v x0 x1 : Value} {xs ys : List Value} (own : w.ownsRow B 71 2 v n xs) (hb : Blk w b T #[x0, x1]) (hne : v.ownBlock ≠ some b) (hB : B ≤ w.heap.size)
    (hx : x0.oneCell' = true ∧ x1.oneCell' = true) (h1 : ∀ u ∈ xs, u.oneCell' = true) (hn : n ≤ 5000) (hi : i ≤ n) (HM : Hid (m = n + 1 ∧ ys = xs.take (2 * i) ++ [x0, x1] ++ xs.drop (2 * i))) :
    Calls Try.prog 47 #[v, .int .i64 (i : Int), .slice (some ⟨b, 0, none⟩) 1 1] w (Inserted w B v m ys) := by
  by_cases hin : i = n
  · subst hin
    refine insert_end own hB hb hx hn ⟨HM.out.1, ?_⟩
    have hl := own.1
    rw [HM.out.2, List.take_of_length_le (by omega), List.drop_eq_nil_of_le (by omega), List.append_nil]
  · obtain ⟨g, cap, rfl, hbg, hgl⟩ := own.form (by omega)
    have hnc : n ≤ cap := by
      rcases own.2 with ⟨hv, h0⟩ | ⟨g, c, cur, hv, _, _, h, _⟩
      · omega
      · injection hv with _ _ hc; omega
    by_cases hroom : n + 1 ≤ cap
    · exact insert_shift own hb (by intro e; exact hne (by simp [Value.ownBlock, e])) hx h1 hn (by omega) hroom HM
    · obtain rfl : cap = n := by omega
      exact insert_grow own hb hB hx h1 hn (by omega) HM

theorem flat_one (M : Int) : ∀ (rs : List (Nat × Nat)), ∀ u ∈ flat M rs, u.oneCell' = true
  | [], u, h => by cases h
  | r :: rs, u, h => by
    simp only [flat, List.mem_cons] at h
    rcases h with rfl | rfl | h
    · rfl
    · rfl
    · exact flat_one M rs u h
theorem flat_set1 (M : Int) (x : Nat) (r : Nat × Nat) (Y : List (Nat × Nat)) : ∀ X : List (Nat × Nat), (flat M (X ++ r :: Y)).set (X.length * 2) (.int .u32 (adr M x)) = flat M (X ++ (x, r.2) :: Y)
  | [] => rfl
  | s :: X => by
    have := flat_set1 M x r Y X
    simp only [List.cons_append, flat, List.length_cons, Nat.add_mul, Nat.one_mul, List.set_cons_succ]
    rw [this]
theorem flat_set2 (M : Int) (x : Nat) (r : Nat × Nat) (Y : List (Nat × Nat)) : ∀ X : List (Nat × Nat), (flat M (X ++ r :: Y)).set (X.length * 2 + 1) (.int .u32 (adr M x)) = flat M (X ++ (r.1, x) :: Y)
  | [] => rfl
  | s :: X => by
    have := flat_set2 M x r Y X
    rw [show (s :: X).length * 2 + 1 = X.length * 2 + 1 + 1 + 1 by simp only [List.length_cons]; omega]
    simp only [List.cons_append, flat, List.set_cons_succ]
    rw [this]
theorem flat_take (M : Int) (X Y : List (Nat × Nat)) : (flat M (X ++ Y)).take (2 * X.length) = flat M X := by
  rw [flat_append, ← flat_length M X]; exact List.take_left
theorem flat_drop (M : Int) (X Y : List (Nat × Nat)) : (flat M (X ++ Y)).drop (2 * X.length) = flat M Y := by
  rw [flat_append, ← flat_length M X]; exact List.drop_left
theorem flat_drop1 (M : Int) (X Y : List (Nat × Nat)) (r : Nat × Nat) : (flat M (X ++ r :: Y)).drop (2 * (X.length + 1)) = flat M Y := by
  have := flat_drop M (X ++ [r]) Y
  simpa using this

theorem Blk.drewN {w : World} {g : Nat} {t : TypeId} {cs : Array Value} (h : Blk w g t cs) (n : Nat) : Blk (w.drewN n) g t cs := h
theorem Blk.set_ {w : World} {g : Nat} {t : TypeId} {cs : Array Value} (h : Blk w g t cs) (i : Nat) (u : Value) : Blk (w.setCell ⟨g, i, none⟩ u) g t (cs.setIfInBounds i u) := by
  unfold Blk at h ⊢
  simp [World.setCell, Array.getElem?_modify, h]
theorem Blk.far {w : World} {g : Nat} {t : TypeId} {cs : Array Value} (h : Blk w g t cs) {a : Addr} (ha : g ≠ a.block) (u : Value) : Blk (w.setCell a u) g t cs := (Below.heap_setCell w a u g ha).trans h
theorem Blk.grown {w w' : World} {row : Option Nat} {g : Nat} {t : TypeId} {cs : Array Value} (h : Blk w g t cs) (hb : w.grownBy w' row) (hg : some g ≠ row) : Blk w' g t cs := (hb.block g h.lt hg).trans h
theorem SetAt.ne {w : World} {B p : Nat} {v : Value} {M : Int} {rs : List (Nat × Nat)} (h : SetAt w B p v M rs) : v.ownBlock ≠ some p := by
  rcases h.own.2 with ⟨rfl, _⟩ | ⟨g, cap, cur, rfl, _, hh, _⟩
  · simp [Value.ownBlock]
  · intro he
    have e : g = p := by simpa [Value.ownBlock] using he
    subst e
    have hb := h.blk
    unfold Blk at hb
    rw [hh] at hb
    injection hb with hb
    injection hb with _ ht
    cases ht
theorem grownBy_set (w : World) (p i : Nat) (u : Value) : w.grownBy (w.setCell ⟨p, i, none⟩ u) (some p) := ⟨rfl, rfl, rfl, by simp [World.setCell], fun k _ hk => Below.heap_setCell w _ u k (fun e => hk (by simp [e]))⟩

/-- What a call on the set at p has changed: its struct and the row that it owns. -/
structure Turned (w w' : World) (p : Nat) (v v' : Value) : Prop where
  os : w'.os = w.os
  tape : w'.tape = w.tape
  output : w'.output = w.output
  size : w.heap.size ≤ w'.heap.size
  block : ∀ k, k < w.heap.size → k ≠ p → some k ≠ v.ownBlock → w'.heap[k]? = w.heap[k]?
  row : v'.ownBlock = v.ownBlock ∨ v'.ownBlock = none ∨ ∃ g, v'.ownBlock = some g ∧ w.heap.size ≤ g

theorem Turned.refl (w : World) (p : Nat) (v : Value) : Turned w w p v v := ⟨rfl, rfl, rfl, Nat.le_refl _, fun _ _ _ _ => rfl, .inl rfl⟩
theorem Turned.trans {a b c : World} {p : Nat} {u v x : Value} (h : Turned a b p u v) (k : Turned b c p v x) : Turned a c p u x := by
  refine ⟨k.os.trans h.os, k.tape.trans h.tape, k.output.trans h.output, Nat.le_trans h.size k.size, fun i hi hp hu => ?_, ?_⟩
  · refine (k.block i (Nat.lt_of_lt_of_le hi h.size) hp ?_).trans (h.block i hi hp hu)
    rcases h.row with e | e | ⟨g, e, hg⟩
    · rwa [e]
    · rw [e]; simp
    · rw [e]; intro e2; injection e2; omega
  · rcases k.row with e | e | ⟨g, e, hg⟩
    · rw [e]; exact h.row
    · exact .inr (.inl e)
    · exact .inr (.inr ⟨g, e, Nat.le_trans h.size hg⟩)
theorem Turned.of_below {w w' : World} (hb : Below w.heap.size w w') (p : Nat) (v : Value) : Turned w w' p v v := ⟨hb.os, hb.tape, hb.output, hb.size, fun k hk _ _ => hb.block k hk, .inl rfl⟩
theorem Turned.of_set (w : World) (p i : Nat) (u v : Value) : Turned w (w.setCell ⟨p, i, none⟩ u) p v v := ⟨rfl, rfl, rfl, by simp [World.setCell], fun k _ hk _ => Below.heap_setCell w _ u k hk, .inl rfl⟩
theorem Turned.of_grown {w w' : World} {p : Nat} {v v' : Value} (hg : w.grownBy w' v.ownBlock) (hv : v'.ownBlock = v.ownBlock ∨ v'.ownBlock = some w.heap.size) : Turned w w' p v v' :=
  ⟨hg.os, hg.tape, hg.output, hg.size, fun k hk _ hr => hg.block k hk hr, hv.elim .inl fun h => .inr (.inr ⟨_, h, Nat.le_refl _⟩)⟩
theorem Turned.drewN {a w : World} {p : Nat} {u v : Value} (h : Turned a w p u v) (n : Nat) : Turned a (w.drewN n) p u v := ⟨h.os, h.tape, h.output, h.size, h.block, h.row⟩

/-- What advance leaves. -/
def Advanced (w : World) (B p : Nat) (v : Value) (M : Int) (rs : List (Nat × Nat)) (e : Ending) (w' : World) : Prop :=
  ∃ k v' rs', e = .returned (.tuple #[]) ∧ SetAt w' B p v' (adr M k) rs' ∧ Gp 2 rs' ∧ Adv (knB rs) k (knB rs') ∧ k ≤ 4096 ∧ Turned w w' p v v'

set_option maxHeartbeats 1000000 in
theorem advance_any {w : World} {B p : Nat} {v : Value} {M : Int} {rs : List (Nat × Nat)} (h : SetAt w B p v M rs) (hg : Gp 1 rs) :
    Calls Try.prog 36 #[ptr p] w (Advanced w B p v M rs) := by
  have h0 := h.mark
  have h1 := h.rows
  have hf0 := h.blk.frozen 0
  have hf1 := h.blk.frozen 1
  have hl := gp_len hg
  obtain ⟨n, hn⟩ : ∃ n, n = rs.length := ⟨_, rfl⟩
  cases rs with
  | nil =>
    have H : ∀ q, Hid (Advanced w B p v M [] (.returned (.tuple #[])) (w.drewN q)) := fun q => ⟨0, v, [], rfl, by rw [adr_zero M h.hM]; exact h.drewN q, gp_nil 2, (adv_none hg (by simp)).2, by omega, (Turned.refl w p v).drewN q⟩
    obtain ⟨a, cap, rfl⟩ := own_slice h.own
    clear h hg
    simp only [List.length_nil] at h1
    have hc : decide (0 < (0 : Nat)) = false := rfl
    go_enter Try.func36, Try.ntmps36
    go_wp2
    go_quiet (fail)
    go_wp2
    go_end0
    exact (H _).out
  | cons r rs =>
    obtain ⟨g, cap, hv, hbg, hgl, c0, c1⟩ := h.at_ (k := 0) (by simp)
    simp only [List.getElem_cons_zero] at c0 c1
    have hM := h.hM
    have HS := Lib.hid h
    have HG := Lib.hid hg
    have hr := hg.2 r (by simp)
    rw [← hn] at hv
    have hn1 : 1 ≤ n := by rw [hn]; simp
    rw [← hn] at hl
    have HN := Lib.hid hn
    have hc : decide (0 < n) = true := decide_eq_true hn1
    have hc0 : 0 < n := hn1
    subst hv
    by_cases hr1 : r.1 = 1
    · have ht : (adr M r.1 == (M + 1) % 4294967296) = true := by rw [hr1]; simp [adr]
      have hne := h.ne
      have HN2 := Lib.hid hne
      have C : ∀ q, Calls Try.prog 35 #[.slice (some ⟨g, 0, none⟩) n cap, .int .i64 0, .int .i64 1] ((w.drewN q).setCell ⟨p, 0, none⟩ (.int .u32 (adr M r.2))) (Deleted ((w.drewN q).setCell ⟨p, 0, none⟩ (.int .u32 (adr M r.2))) B (.slice (some ⟨g, 0, none⟩) n cap) rs.length (flat M rs)) := fun q => by
        have own : ((w.drewN q).setCell ⟨p, 0, none⟩ (.int .u32 (adr M r.2))).ownsRow B 71 2 (.slice (some ⟨g, 0, none⟩) n cap) (r :: rs).length (flat M (r :: rs)) := (h.drewN q).own.kept (grownBy_set _ p 0 _) (.inr hne)
        exact delete_core (i := 0) (j := 1) own (flat_one M _) (by omega) (by simp) (by omega) ⟨by simp, by simp [flat]⟩
      have HC := Lib.hid C
      have HA := Lib.hid (adv_some hg hr1)
      clear h hg hn hr1 hne C
      go_enter Try.func36, Try.ntmps36
      go_wp2
      go_quiet (fail)
      go_wp2_with fail
      refine (HC.out _).mono ?_
      rintro e w2 ⟨v', rfl, own2, hg2, hv2⟩
      obtain ⟨a', cap', rfl⟩ := own_slice own2
      obtain ⟨n', hn'⟩ : ∃ n', n' = rs.length := ⟨_, rfl⟩
      rw [← hn'] at own2 hv2 ⊢
      have hb2 : Blk w2 p 66 #[.int .u32 (adr M r.2), .slice (some ⟨g, 0, none⟩) n cap] := ((HS.out.blk.drewN _).set_ 0 (.int .u32 (adr M r.2))).grown hg2 (fun e => HN2.out e.symm)
      have k1 := hb2.cell 1
      have k2 := hb2.frozen 1
      have HB2 := Lib.hid hb2
      have HO2 := Lib.hid own2
      have HG2 := Lib.hid hg2
      have HV2 := Lib.hid hv2
      have HN' := Lib.hid hn'
      clear hb2 own2 hg2 hv2 hn'
      go_wp2
      go_end0
      have T : Turned w (w2.setCell ⟨p, 1, none⟩ (.slice a' n' cap')) p (.slice (some ⟨g, 0, none⟩) n cap) (.slice a' n' cap') :=
        ((((Turned.refl w p _).drewN _).trans (Turned.of_set _ p 0 _ _)).trans (Turned.of_grown HG2.out (.inl HV2.out))).trans (Turned.of_set _ p 1 _ _)
      refine ⟨r.2, .slice a' n' cap', shl r.2 rs, rfl, ⟨HS.out.hp, adr_bd _ _, HB2.out.set_ 1 _, ?_⟩, HA.out.1, HA.out.2, hr.2.2, T⟩
      rw [shl_length, ← HN'.out, flat_shl M r.2 rs (fun s hs => by
        obtain ⟨a1, a2, a3⟩ := gp_cons.1 HG.out
        have := a2 s hs; have := a3.2 s hs; omega)]
      refine HO2.out.kept (grownBy_set _ p 1 _) (.inr ?_)
      rw [HV2.out]
      exact HN2.out
    · have ht : (adr M r.1 == (M + 1) % 4294967296) = false := by
        rw [beq_eq_false_iff_ne]; unfold adr; omega
      have H : ∀ q, Hid (Advanced w B p (.slice (some ⟨g, 0, none⟩) n cap) M (r :: rs) (.returned (.tuple #[])) (w.drewN q)) := fun q => ⟨0, _, r :: rs, rfl, by rw [adr_zero M hM]; exact h.drewN q, (adv_none hg (by simpa using hr1)).1, (adv_none hg (by simpa using hr1)).2, by omega, (Turned.refl w p _).drewN q⟩
      clear h hg hn hr1
      go_enter Try.func36, Try.ntmps36
      go_wp2
      go_quiet (fail)
      go_wp2
      go_end0
      exact (H _).out
end Go.Proofs.Ytgbkmnmkejcogaa.Span
