/-
  What the listed package variables hold, as cells.
-/
import Derived.Test.YtmbgjijajakgeaaDoorMacMem
import Derived.Test.YtmbgjijajakgeaaDoorMac3
import Derived.OpenShut
import Derived.LaidMore
import Derived.Stop.Joined
set_option linter.unusedVariables false
set_option linter.unusedSimpArgs false
namespace Go.Proofs.YtmbgjijajakgeaaDoor.Sha
open Go.ChangeShapes Go.WideShapes Go.ChangeAt Go.RowKit Go.Proofs.YtmbgjijajakgeaaDoor.Words

theorem cells_of_trod {H : Type} {enc : TypeId × Value → H} {P : Program} {w : World} {B : Nat} {sp : Nat → Bool} {held : Bool} {fuel t e n : Nat} {cs : List Value} {p : List MemPlace} {l : List Nat} (ht : P.underlying t = some (.array n e)) (he : P.underlying e = some (.int .u32)) (hc : P.cellsOf e = 1) (hct : P.cellsOf t = n)
    (h : DataW.trod enc P w B sp held fuel t cs = some (.agg (l.map fun (x : Nat) => .lit (.int .u32 (x : Int))), p)) (hl : l.length = n) : cs = u32s l := by
  obtain ⟨xs, m, rfl, hx, hlen, hn, hel⟩ := DataW.trod_array ht h
  simp only [Prod.mk.injEq, DataW.agg.injEq] at hx
  rw [hct] at hlen
  apply List.ext_getElem (by rw [hlen]; simp [u32s, hl])
  intro i h1 h2
  have hi : i < n := by omega
  have hxi : i < xs.length := by omega
  have h3 := hel i hi
  rw [hc, Nat.mul_one, List.getElem?_eq_getElem hxi] at h3
  obtain ⟨k, e1, e2, _⟩ := DataW.trod_int he h3
  have e3 : cs[i]? = some (.int .u32 k) := by
    have : ((cs.drop i).take 1)[0]? = some (.int .u32 k) := by rw [e1]; rfl
    simpa using this
  have e4 : (xs.map (·.1))[i]? = some (.lit (.int .u32 k)) := by rw [List.getElem?_map, List.getElem?_eq_getElem hxi, Option.map_some, e2]
  rw [← hx.1, List.getElem?_map, List.getElem?_eq_getElem (show i < l.length by omega)] at e4
  simp only [Option.map_some, Option.some.injEq, DataW.lit.injEq, Lit.int.injEq, true_and] at e4
  rw [List.getElem?_eq_getElem h1] at e3
  simp only [Option.some.injEq] at e3
  rw [e3]
  simp [u32s, e4]
theorem heap_of_var {P : Program} {w : World} {nm : String} {g : Nat} {cs : Array Value} (hg : P.globalNamed nm = some g) (h : w.var? P nm = some cs) : ∃ t fr, w.heap[g]? = some (.cells cs t fr) := by
  simp only [World.var?, hg, Option.bind_some] at h
  split at h
  · rename_i c t fr hb
    cases h
    exact ⟨t, fr, hb⟩
  · cases h
theorem laid_of {W : World} (h : laidMetH Tryd.prog [("flume/mac.first", Rows.laid_flume_mac_first), ("flume/mac.rounds", Rows.laid_flume_mac_rounds)] W) : Laid W := by
  rw [MakeChecks.laidMetH_plain _ _ _ (by kernel_rfl)] at h
  obtain ⟨ps, ⟨g0, t0, cs0, f0, p0, q0, hg0, ht0, hv0, hd0, ⟨g1, t1, cs1, f1, p1, q1, hg1, ht1, hv1, hd1, _, _⟩, _⟩, _, _⟩ := h
  obtain rfl := Option.some.inj ((show Tryd.prog.globalNamed "flume/mac.first" = some 0 by kernel_rfl).symm.trans hg0)
  obtain rfl := Option.some.inj ((show Tryd.prog.globalNamed "flume/mac.rounds" = some 1 by kernel_rfl).symm.trans hg1)
  obtain rfl := Option.some.inj ((show (Tryd.prog.globals[0]?).map (·.type) = some 80 by kernel_rfl).symm.trans ht0)
  obtain rfl := Option.some.inj ((show (Tryd.prog.globals[1]?).map (·.type) = some 91 by kernel_rfl).symm.trans ht1)
  obtain ⟨ta, fa, ha⟩ := heap_of_var hg0 hv0
  obtain ⟨tb, fb, hb⟩ := heap_of_var hg1 hv1
  have e0 : cs0.toList = u32s h0 := cells_of_trod (l := h0) Tryd.underlying80 Tryd.underlying23 (by kernel_rfl) (by kernel_rfl) hd0 rfl
  have e1 : cs1.toList = u32s ks := cells_of_trod (l := ks) Tryd.underlying91 Tryd.underlying23 (by kernel_rfl) (by kernel_rfl) hd1 rfl
  refine ⟨⟨ta, fa, ?_⟩, ⟨tb, fb, ?_⟩⟩
  · rw [ha]
    congr 2
    apply Array.ext'
    rw [e0]; rfl
  · rw [hb]
    congr 2
    apply Array.ext'
    rw [e1]; rfl
end Go.Proofs.YtmbgjijajakgeaaDoor.Sha
