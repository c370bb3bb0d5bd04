/-
  Package cookie: each, written.
-/
import Derived.Test.YtmbgjijajakgeaaDoorCk0
import Derived.Test.YtmbgjijajakgeaaDoorMacMem

set_option linter.unusedVariables false
set_option linter.unusedSimpArgs false
namespace Go.Proofs.YtmbgjijajakgeaaDoor.Cok
open Go.ChangeShapes Go.WideShapes Go.ChangeAt Go.RowKit Go.Proofs.YtmbgjijajakgeaaDoor.Words Go.Proofs.YtmbgjijajakgeaaDoor.Oct

/-- Where a list of words lies. -/
abbrev Wds (w : World) (G : Nat) (ws : List Nat) : Prop := Blk w G 23 (Sha.U ws)
/-- Where a writer stands in a loop of writes. -/
def ESt (w wr : World) (p B : Nat) (v vj : Value) (l : List UInt8) : Prop := Wr wr p B vj l ∧ Fr (AtW p v) w wr ∧ (vj.ownBlock = v.ownBlock ∨ ∃ g, vj.ownBlock = some g ∧ w.heap.size ≤ g)
theorem ESt.start {w : World} {p B : Nat} {v : Value} {l : List UInt8} (h : Wr w p B v l) : ESt w w p B v v l := ⟨h, Fr.refl _ _, .inl rfl⟩
theorem ESt.step {w wr w' : World} {p B : Nat} {v vj : Value} {l l' : List UInt8} {e : Ending} (h : ESt w wr p B v vj l) (k : Wrote wr p B vj l' e w') : e = .returned (.tuple #[]) ∧ ∃ v', ESt w w' p B v v' l' := by
  obtain ⟨v', h1, h2, h3, h4⟩ := k
  refine ⟨h1, v', h2, h.2.1.trans h3 ?_, ?_⟩
  · intro x hx hs
    rcases hs with hs | hs
    · exact .inl hs
    · rcases h.2.2 with e | ⟨g, e, hg⟩
      · exact .inr (hs.trans e)
      · rw [e] at hs
        cases hs
        omega
  · rcases h4 with e | ⟨g, e, hg⟩
    · rcases h.2.2 with e2 | ⟨g, e2, hg⟩
      · exact .inl (e.trans e2)
      · exact .inr ⟨g, e.trans e2, hg⟩
    · exact .inr ⟨g, e, Nat.le_trans h.2.1.size hg⟩
theorem ESt.wrote {w wr : World} {p B : Nat} {v vj : Value} {l : List UInt8} (h : ESt w wr p B v vj l) : Wrote w p B v l (.returned (.tuple #[])) wr := ⟨vj, rfl, h.1, h.2.1, h.2.2⟩
theorem ESt.grows {w wr w' : World} {p B : Nat} {v vj : Value} {l : List UInt8} (h : ESt w wr p B v vj l) (hb : Below wr.heap.size wr w') : ESt w w' p B v vj l := ⟨h.1.grows hb, h.2.1.grows hb, h.2.2⟩
theorem ESt.as {w wr : World} {p B : Nat} {v vj : Value} {l l' : List UInt8} (h : ESt w wr p B v vj l) (e : l = l') : ESt w wr p B v vj l' := e ▸ h
set_option maxHeartbeats 2000000 in
theorem each_any {w : World} {p B G n c : Nat} {v : Value} {l : List UInt8} {ws : List Nat} (h : Wr w p B v l) (hB : B ≤ w.heap.size) (hl : l.length ≤ 1000) (hw : Wds w G ws) (hn : n = ws.length) (hn2 : n ≤ 20) (hx : ∀ x ∈ ws, x < 4294967296) :
    Calls Tryd.prog 23 #[.func (.func 24) #[rptr p] #[], .slice (some ⟨G, 0, none⟩) n c] w (Wrote w p B v (l ++ bes ws)) := by
  have HN := Lib.hid hn
  have H0 : Hid (ESt w w p B v v (l ++ bes (ws.take 0))) := (ESt.start h).as (by simp [bes])
  have HNE : Hid (G ≠ p ∧ v.ownBlock ≠ some G) := by
    refine ⟨fun e => ?_, own_blk_ne h.own hw (by decide)⟩
    subst e
    have h1 := h.blk
    unfold Blk at h1
    unfold Wds Blk at hw
    rw [hw] at h1
    injection h1 with h1
    injection h1 with _ h2
    exact absurd h2 (by decide)
  have HW := Lib.hid hw
  have HX := Lib.hid hx
  clear h hw hn hx
  go_enter Tryd.func23, Tryd.ntmps23
  go_wp2
  go_loopw [8] (fun i wr => ∃ j : Nat, j ≤ n ∧ i = .int .i64 (j : Int) ∧ ∃ vj, Hid (ESt w wr p B v vj (l ++ bes (ws.take j)))) (fun i _ => n - (intOf i).toNat)
  case atStart => exact ⟨0, Nat.zero_le _, rfl, v, H0⟩
  case round =>
    obtain ⟨j, hj, rfl, vj, hs⟩ := hrel
    by_cases hlt : j < n
    · have c1 := (hs.out.2.1.blk HW.out (fun e => by
        rcases e with e | e
        · exact HNE.out.1 e
        · exact HNE.out.2 e.symm)).cell j
      rw [Sha.U_at (by rw [← HN.out]; exact hlt)] at c1
      have hxj : ws.getD j 0 < 4294967296 := by
        rw [List.getD_eq_getElem?_getD, List.getElem?_eq_getElem (by rw [← HN.out]; exact hlt)]
        exact HX.out _ (List.getElem_mem _)
      have hbt := bes_take (ws := ws) (j := j) (by rw [← HN.out]; exact hlt)
      obtain ⟨x, hxx⟩ : ∃ x, x = ws.getD j 0 := ⟨_, rfl⟩
      rw [← hxx] at c1 hxj hbt
      have HBT := Lib.hid hbt
      have HC := Lib.hid (wr_u32 x hxj hs.out.1 (Nat.le_trans hB hs.out.2.1.size) (by rw [List.length_append, bes_length, List.length_take]; omega))
      clear hbt hxx
      go_wp2_with fail
      refine HC.out.mono ?_
      rintro e W2 hwr
      obtain ⟨rfl, v2, hst⟩ := hs.out.step hwr
      have HE : Hid (ESt w W2 p B v v2 (l ++ bes (ws.take (j + 1)))) := hst.as (by rw [HBT.out, List.append_assoc])
      clear hst hwr hs HC c1
      go_wp2_with fail
      go_roundw
      case rel => exact ⟨j + 1, by omega, by go_num, v2, HE⟩
      case measure => simp [intOf]; omega
    · obtain rfl : j = n := by omega
      have HE : Hid (ESt w wr p B v vj (l ++ bes ws)) := hs.out.as (by rw [List.take_of_length_le (by rw [HN.out]; exact Nat.le_refl _)])
      clear hs
      go_wp2
      go_end0
      exact HE.out.wrote
end Go.Proofs.YtmbgjijajakgeaaDoor.Cok
