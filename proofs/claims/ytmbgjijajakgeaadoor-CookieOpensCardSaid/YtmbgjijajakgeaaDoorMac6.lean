/-
  A loop over an iterator that keeps what it hands out in a variable of its own: the statement's law (the wide fence), for a body that writes one block and goes on to the end.
-/
import Derived.Test.YtmbgjijajakgeaaDoorMac5
import Derived.RangeFuncNested
import Derived.RangeFuncBound
import Derived.RangeFuncCalls
import Derived.RangeFuncLeaves
import Derived.Shelf.Abstract
import Derived.Shelf.RegionOpen
import Derived.OwnWalkIn
import Derived.TacticsInMore
import Derived.LoopNIn
import Derived.LoopIn
set_option linter.unusedVariables false
set_option linter.unusedSimpArgs false
namespace Go.Proofs.YtmbgjijajakgeaaDoor.Sha
open Go.ChangeShapes Go.WideShapes Go.ChangeAt Go.RowKit Go.Proofs.YtmbgjijajakgeaaDoor.Words

/-- How a round is left: its own block apart, and what is new, nothing has turned. -/
def wentOn (st : Nat) (I : Nat → World → Prop) (q : Nat) (W : World) : Exit → Act → World → Prop
  | .normal, _, W' => Fr (fun k => k = st) W W' ∧ I q W'
  | .ret, _, _ => False
  | .exit _, _, _ => False
  | .goto _, _, _ => False
  | .panic _, _, _ => False
  | .outgrown, _, _ => False

/-- What the iterator must do: hand out N values one behind the other, and turn nothing that lay when it was called. -/
def Hands (P : Program) (gf : Nat) (lb : Array Value) (enc : Nat → Value) (N st : Nat) (w : World) : Prop :=
  ∀ (l : Nat) (J : Nat → World → Prop) (W : World), w.heap.size ≤ l → l < W.heap.size → Below w.heap.size w W →
    (∀ q A A', J q A → Below W.heap.size A A' → J q A') →
    (∀ q W1, J q W1 → q < N → YieldAt Fence.wide 2 P l #[enc q] W1 fun e W' => e = .returned (.bool true) ∧ J (q + 1) W' ∧ Fr (fun k => k = st ∨ k = l) W1 W') →
    J 0 W → CallsIn Fence.wide 3 P gf (#[.func (.yield l) #[] #[]] ++ lb) W fun e W' => (∃ v, e = .returned v) ∧ J N W'

theorem fr_putObj {S : Nat → Prop} {W W' : World} (h : Fr S W W') {l : Nat} (hl : S l) (o : Obj) : Fr S W (W'.putObj l o) :=
  ⟨h.os, h.tape, h.output, by simpa using h.size, fun k hk hn => (World.putObj_heap_other (fun e => hn (by rw [e]; exact hl))).trans (h.block k hk hn)⟩
theorem below_putObj {B l : Nat} {W : World} (hl : B ≤ l) (o : Obj) : Below B W (W.putObj l o) :=
  ⟨rfl, rfl, rfl, by simp, fun k hk => World.putObj_heap_other (by omega)⟩

theorem wp_range_hands {P : Program} {g : Operand} {ps : Array Tmp} {assign body : Code} {Q : Exit → Act → World → Prop} {a : Act} {w : World}
    {gf : Nat} {lb : Array Value} (hg : a.eval g = .func (.func gf) #[] lb) (eg : ∀ args w, (callFunc gf args).run P w = .ok (.enter gf args) w)
    {enc : Nat → Value} {N st : Nat} {p : Tmp} (hst : st < w.heap.size) (hps : ps = #[p]) (hseq : Hands P gf lb enc N st w)
    (I : Nat → World → Prop) (hI : ∀ q A A', I q A → Below w.heap.size A A' → I q A') (h0 : I 0 w) (Ax : Array Value → Nat → Act → World → Prop)
    (hAx : ∀ q a' A l r o, Ax a.tmps q a' A → A.heap[l]? = some (.loop r) → Ax a.tmps q a' (A.putObj l o))
    (hassign : ∀ (l q : Nat) (W : World) (K : Act → World → Prop), q < N → (∀ a' W', Fr (fun _ => False) W W' → Ax a.tmps q a' W' → K a' W') →
      assign.wpIn (Fence.wide.inRound l) 2 P (Exit.then K (fun _ _ _ => False)) { tmps := a.tmps.setIfInBounds p (enc q), defers := [] } W)
    (hbody : ∀ (l q : Nat) (a' : Act) (W : World), I q W → q < N → Ax a.tmps q a' W → w.heap.size ≤ W.heap.size → body.wpIn (Fence.wide.inRound l) 2 P (wentOn st I (q + 1) W) a' W)
    (hdone : ∀ W : World, I N W → W.heap[w.heap.size]? = some (.deferred (some [])) → Q .normal { a with defers := { target := .collected w.heap.size, args := #[] } :: a.defers } W) :
    (Code.rangeFunc g ps assign body).wp P Q a w := by
  subst hps
  have hz : ∀ (v : Value), (((#[p] : Array Tmp).zip #[v]).foldl (fun t (x : Tmp × Value) => t.setIfInBounds x.1 x.2) a.tmps) = a.tmps.setIfInBounds p v := fun v => by simp
  refine (wpIn_wide (n := 4)).1 ?_
  refine wpIn_rangeFunc ?_
  intro fn _
  obtain ⟨rec, hrec⟩ : ∃ rec : LoopState → Option Code → Loop, rec = fun s pe => { state := s, pending := pe, fn, tmps := a.tmps, params := #[p], assign, body, defers := w.heap.size } := ⟨_, rfl⟩
  obtain ⟨W1, hW1⟩ : ∃ W1, (w.alloc (.deferred (some []))).alloc (.loop (rec .ready none)) = W1 := ⟨_, rfl⟩
  have hs1 : W1.heap.size = w.heap.size + 2 := by rw [← hW1]; simp
  have hL1 : W1.heap[w.heap.size + 1]? = some (.loop (rec .ready none)) := by
    rw [← hW1]
    have := World.alloc_heap_new (w.alloc (.deferred (some []))) (.loop (rec .ready none))
    rwa [World.size_alloc] at this
  have hK1 : W1.heap[w.heap.size]? = some (.deferred (some [])) := by
    rw [← hW1]
    exact (Below.heap_alloc _ _ _ (by simp)).trans (World.alloc_heap_new w _)
  have hb1 : Below w.heap.size w W1 := by rw [← hW1]; exact ((Below.refl _ w).alloc (Nat.le_refl _) _).alloc (by simp) _
  refine ⟨w.heap.size + 1, [{ target := .collected w.heap.size, args := #[] }], W1, { target := .fn (.func gf) lb, args := #[.func (.yield (w.heap.size + 1)) #[] #[]] }, W1, gf,
    #[.func (.yield (w.heap.size + 1)) #[] #[]] ++ lb, W1, ?_, ?_, ?_, ?_, (fun _ => by omega), ?_⟩
  · rw [← hW1, hrec]
    exact run_enterLoop_outer _ _ _ _ _
  · simp only [resolve, hg]
    simp [go_sem]
  · intro f' _
    trivial
  · simp [invoke, go_sem, eg]
  · obtain ⟨J, hJ⟩ : ∃ J : Nat → World → Prop, J = fun q W => I q W ∧ W.heap[w.heap.size + 1]? = some (.loop (rec .ready none)) ∧ W.heap[w.heap.size]? = some (.deferred (some [])) ∧ w.heap.size + 2 ≤ W.heap.size := ⟨_, rfl⟩
    refine (hseq (w.heap.size + 1) J W1 (by omega) (by omega) hb1 ?_ ?_ ?_).mono ?_
    · intro q A A' hj hb
      rw [hJ] at hj ⊢
      exact ⟨hI q A A' hj.1 (hb.mono (by omega)), (hb.block _ (by omega)).trans hj.2.1, (hb.block _ (by omega)).trans hj.2.2.1, Nat.le_trans hj.2.2.2 hb.size⟩
    · intro q W hj hq
      rw [hJ] at hj
      obtain ⟨hi, hl, hk, hsz⟩ := hj
      have hy := run_yield (P := P) (args := #[enc q]) hl (by rw [hrec]; simp)
      rw [hrec] at hy
      simp only [hz] at hy
      refine ⟨fn, _, assign, body, hy, roundIn_of_wpIn trivial (hassign _ q W _ hq ?_)⟩
      intro a' W' hfA hax
      have hszA := hfA.size
      have hlA : W'.heap[w.heap.size + 1]? = some (.loop (rec .ready none)) := (hfA.block _ (by omega) (fun h => h)).trans hl
      have hkA : W'.heap[w.heap.size]? = some (.deferred (some [])) := (hfA.block _ (by omega) (fun h => h)).trans hk
      have hiA : I q W' := hI _ _ _ hi (hfA.to_below (by omega) (fun x hx => hx.elim))
      refine ⟨_, run_beginRound hlA (by rw [hrec]), ?_⟩
      have hl2 : (W'.putObj (w.heap.size + 1) (.loop { rec .ready none with state := .busy })).heap[w.heap.size + 1]? = some (.loop { rec .ready none with state := .busy }) := World.putObj_heap_same (by omega)
      have hk2 : (W'.putObj (w.heap.size + 1) (.loop { rec .ready none with state := .busy })).heap[w.heap.size]? = some (.deferred (some [])) := (World.putObj_heap_other (by omega)).trans hkA
      refine wpIn_mono (hbody _ q a' _ (hI _ _ _ hiA (below_putObj (by omega) _)) hq (hAx _ _ _ _ _ _ hax hlA) (by simp; omega)) ?_
      intro e a3 W3 hp
      cases e with
      | normal =>
        obtain ⟨hf, hi3⟩ := hp
        have hl3 := (hf.block (w.heap.size + 1) (by simp; omega) (by omega)).trans hl2
        have hk3 := (hf.block w.heap.size (by simp; omega) (by omega)).trans hk2
        have hr := run_endRound (P := P) none hl3
        rw [hrec] at hr
        refine ⟨_, _, hr, rfl, ?_, ?_⟩
        · rw [hJ]
          have hsz3 := hf.size
          simp only [World.putObj_size] at hsz3
          refine ⟨hI _ _ _ hi3 (below_putObj (by omega) _), ?_, (World.putObj_heap_other (by omega)).trans hk3, by simp; omega⟩
          rw [hrec]
          exact World.putObj_heap_same (by omega)
        · refine fr_putObj ?_ (.inr rfl) _
          have h1 : Fr (fun k => k = st ∨ k = w.heap.size + 1) W (W'.putObj (w.heap.size + 1) (.loop { rec .ready none with state := .busy })) := fr_putObj (hfA.mono (fun x _ hx => hx.elim)) (.inr rfl) _
          exact h1.trans hf (fun x _ hx => .inl hx)
      | ret => exact hp.elim
      | exit id => exact hp.elim
      | goto t => exact hp.elim
      | panic ch => exact hp.elim
      | outgrown => exact hp.elim
    · rw [hJ]
      exact ⟨hI _ _ _ h0 hb1, hL1, hK1, by omega⟩
    · rintro e W2 ⟨⟨v, rfl⟩, hj⟩
      rw [hJ] at hj
      obtain ⟨hi, hl, hk, hsz⟩ := hj
      have hr := run_endLoop (P := P) hl (by rw [hrec]; simp)
      rw [hrec] at hr
      exact ⟨none, _, hr, hdone _ (hI _ _ _ hi (below_putObj (by omega) _)) ((World.putObj_heap_other (by omega)).trans hk)⟩
end Go.Proofs.YtmbgjijajakgeaaDoor.Sha
