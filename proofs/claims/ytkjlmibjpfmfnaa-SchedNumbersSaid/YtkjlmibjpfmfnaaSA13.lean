/-
  Of the texts ScEn, ScNo, Rnd, FrIt: what the laws reach.
-/
import Derived.Test.YtkjlmibjpfmfnaaSA8
import Derived.WideKeyEntry
import Derived.Test.YtkjlmibjpfmfnaaSA12
import Derived.Test.YtkjlmibjpfmfnaaSA3
import Derived.OrdersIn
import Derived.RangeFuncCalls
import Derived.Test.YtkjlmibjpfmfnaaSA1
import Derived.RangeFuncNested
import Derived.RangeFuncBound
import Derived.RangeFuncLeaves
import Derived.Shelf.Abstract
import Derived.Shelf.RegionOpen
import Derived.OwnWalkIn
import Derived.TacticsInMore
import Derived.LoopNIn
import Derived.LoopIn

set_option linter.unusedVariables false
set_option linter.unusedSimpArgs false
set_option maxRecDepth 20000
namespace Go.Proofs.Ytkjlmibjpfmfnaa.Mx
open Go.ChangeShapes Go.WideShapes Go.ChangeAt Go.RowKit Go.Deep Go.Maps Go.Proofs.Ytkjlmibjpfmfnaa.Words
open Go.ChangeMaps (notKey putKey delKey setBlock heap_setBlock_same)
open Go.MapKept (stamped_iff)
open Go.WideElems (Fit rd rg pl rd_key rd_val rg_of)
section
variable {P : Program} {k : TypeId} {κ : Type} {X : KX P k κ} {w w' : World} {b : Nat} {f : κ → Option Value}
theorem mapX_entry [DecidableEq κ] (h : MapX X w b f) {t e : TypeId} (ht : P.underlying t = some (.map k e)) {z : Value} (hz : ∀ u : World, (zeroValue e).run P u = .ok z u) {x : κ} (hx : X.dom x) :
    ∃ (st : Nat) (w1 : World), (Instr.mapEntry t (.map (some b)) (X.enc x)).run P w = .ok (.tuple #[(f x).getD z, goInt st]) w1 ∧ (Instr.lookup t (.map (some b)) (X.enc x) false).run P w1 = .ok ((f x).getD z) w1 ∧ w.mapTurned w1 b ∧
      ∀ val, ∃ w2, (Instr.entryStore t (.map (some b)) (goInt st) val).run P w1 = .ok () w2 ∧ MapX X w2 b (putF f x val) ∧ w.mapTurned w2 b := by
  have hlook := h.look ht (hz w) hx
  have hput := fun v => h.put ht hx v
  obtain ⟨D, ⟨es, clock, hb, F, hsz, hD⟩, h2⟩ := h.ex
  obtain ⟨s1, s2, _⟩ := F.stamped
  have hkey := X.key x hx
  have hbl : ∀ o, (setBlock w b o).heap[b]? = some o := fun o => heap_setBlock_same hb _
  rcases X.law.find w hkey es.toList (F.keys) with ⟨h1, hno⟩ | ⟨j, e0, h1, hj, hek⟩
  · have hf : (f x).getD z = z := by
      have : (Instr.lookup t (.map (some b)) (X.enc x) false).run P w = .ok z w := by
        simp [Instr.lookup, run_underlying ht, MapKept.run_getObj_map hb, X.law.check w _ hkey, h1, hz, Result.andThen]
      rw [this] at hlook
      injection hlook with hlook
      exact hlook.symm
    have hup : ∀ v, (Instr.mapUpdate t (.map (some b)) (X.enc x) v).run P w = .ok () (setBlock w b (.map (es.push ⟨X.enc x, v, clock⟩) (clock + 1))) := fun v => by
      simp [Instr.mapUpdate, run_underlying ht, MapKept.run_getObj_map hb, X.law.check w false hkey, h1, MapKept.run_setObj_map _ hb, Result.andThen, setBlock]
    have hM : ∀ v, MapX X (setBlock w b (.map (es.push ⟨X.enc x, v, clock⟩) (clock + 1))) b (putF f x v) := fun v => by
      obtain ⟨w1, r1, m1, _⟩ := hput v
      rw [hup v] at r1
      injection r1 with _ r1
      rw [r1]
      exact m1
    have hw1 := hM z
    refine ⟨clock, setBlock w b (.map (es.push ⟨X.enc x, z, clock⟩) (clock + 1)), ?_, ?_, ⟨es, clock, _, _, hb, rfl⟩, fun val => ⟨setBlock (setBlock w b (.map (es.push ⟨X.enc x, z, clock⟩) (clock + 1))) b (.map (es.push ⟨X.enc x, val, clock⟩) (clock + 1)), ?_, ?_, ⟨es, clock, es.push ⟨X.enc x, val, clock⟩, clock + 1, hb, ?_⟩⟩⟩
    · rw [hf]
      simp [Instr.mapEntry, run_underlying ht, MapKept.run_getObj_map hb, X.law.check w false hkey, h1, hz, MapKept.run_setObj_map _ hb, Result.andThen, setBlock]
    · rw [hf]
      have := hw1.look ht (hz _) hx
      rw [this]
      unfold putF
      rw [if_pos rfl]
      rfl
    · have hidx : (es.push ⟨X.enc x, z, clock⟩).findIdx? (fun e => ((e.born : Nat) : Int) == ((clock : Nat) : Int)) = some es.size := by
        rw [WideElems.findIdx_arr]
        have := WideElems.findIdx_born (l := (es.push ⟨X.enc x, z, clock⟩).toList) (j := es.size) (e0 := ⟨X.enc x, z, clock⟩) (by
          rw [Array.toList_push, List.map_append]
          refine List.nodup_append.2 ⟨s2, by simp, fun a ha c hc e1 => ?_⟩
          rw [List.mem_singleton.1 (show c ∈ [clock] from hc)] at e1
          obtain ⟨y, hy, rfl⟩ := List.mem_map.1 ha
          have := s1 y hy
          omega) (by simp)
        exact this
      have hmod : (es.push ⟨X.enc x, z, clock⟩).modify es.size (fun e => { e with val := val }) = es.push ⟨X.enc x, val, clock⟩ := by
        apply Array.ext'
        rw [Array.toList_modify, Array.toList_push, Array.toList_push, ← Array.length_toList, WideElems.modify_last]
      have hb1 := hbl (.map (es.push ⟨X.enc x, z, clock⟩) (clock + 1))
      generalize setBlock w b (.map (es.push ⟨X.enc x, z, clock⟩) (clock + 1)) = W1 at hb1 ⊢
      simp [Instr.entryStore, MapKept.run_getObj_map hb1, asInt, asIntOf, goInt, hidx, hmod, MapKept.run_setObj_map _ hb1, Result.andThen, setBlock]
    · exact (hM val).same (by rw [heap_setBlock_same (hbl _) _, hbl])
    · unfold setBlock
      simp
  · have hja : es[j]? = some e0 := by simpa using hj
    have hf : (f x).getD z = e0.val := by
      have : (Instr.lookup t (.map (some b)) (X.enc x) false).run P w = .ok e0.val w := by
        simp [Instr.lookup, run_underlying ht, MapKept.run_getObj_map hb, X.law.check w _ hkey, h1, Result.andThen]
      rw [this] at hlook
      injection hlook with hlook
      exact hlook.symm
    have hup : ∀ v, (Instr.mapUpdate t (.map (some b)) (X.enc x) v).run P w = .ok () (setBlock w b (.map (es.modify j (fun e' => { e' with key := X.enc x, val := v })) clock)) := fun v => by
      simp [Instr.mapUpdate, run_underlying ht, MapKept.run_getObj_map hb, X.law.check w false hkey, h1, hja, hek, X.law.stays w hkey, MapKept.run_setObj_map _ hb, Result.andThen, setBlock]
    have hM : ∀ v, MapX X (setBlock w b (.map (es.modify j (fun e' => { e' with key := X.enc x, val := v })) clock)) b (putF f x v) := fun v => by
      obtain ⟨w1, r1, m1, _⟩ := hput v
      rw [hup v] at r1
      injection r1 with _ r1
      rw [r1]
      exact m1
    have hsame : es.modify j (fun e => { e with key := X.enc x }) = es := by
      apply Array.ext'
      rw [Array.toList_modify, ChangeMaps.modify_eq_set _ _ _ _ hj]
      have : ({ e0 with key := X.enc x } : MapEntry) = e0 := by rw [← hek]
      rw [this]
      exact WideElems.set_self _ _ _ hj
    have hw1 : MapX X (setBlock w b (.map es clock)) b f := h.same (by rw [hbl, hb])
    refine ⟨e0.born, setBlock w b (.map es clock), ?_, ?_, ⟨es, clock, _, _, hb, rfl⟩, fun val => ⟨setBlock (setBlock w b (.map es clock)) b (.map (es.modify j (fun e' => { e' with key := X.enc x, val := val })) clock), ?_, ?_, ⟨es, clock, es.modify j (fun e' => { e' with key := X.enc x, val := val }), clock, hb, ?_⟩⟩⟩
    · rw [hf]
      simp [Instr.mapEntry, run_underlying ht, MapKept.run_getObj_map hb, X.law.check w false hkey, h1, hja, hek, X.law.stays w hkey, hsame, MapKept.run_setObj_map _ hb, Result.andThen, setBlock]
    · exact hw1.look ht (hz _) hx
    · have hidx : es.findIdx? (fun e => ((e.born : Nat) : Int) == ((e0.born : Nat) : Int)) = some j := by
        rw [WideElems.findIdx_arr]
        exact WideElems.findIdx_born s2 hj
      have hmod : es.modify j (fun e => { e with val := val }) = es.modify j (fun e' => { e' with key := X.enc x, val := val }) := by
        apply Array.ext'
        rw [Array.toList_modify, Array.toList_modify, ChangeMaps.modify_eq_set _ _ _ _ hj, ChangeMaps.modify_eq_set _ _ _ _ hj, ← hek]
      have hb1 := hbl (.map es clock)
      generalize setBlock w b (.map es clock) = W1 at hb1 ⊢
      simp [Instr.entryStore, MapKept.run_getObj_map hb1, asInt, asIntOf, goInt, hidx, hmod, MapKept.run_setObj_map _ hb1, Result.andThen, setBlock]
    · exact (hM val).same (by rw [heap_setBlock_same (hbl _) _, hbl])
    · unfold setBlock
      simp
end
end Go.Proofs.Ytkjlmibjpfmfnaa.Mx

set_option linter.unusedVariables false
set_option linter.unusedSimpArgs false
set_option maxRecDepth 20000
namespace Go.Proofs.Ytkjlmibjpfmfnaa.Sc
open Go.ChangeShapes Go.WideShapes Go.ChangeAt Go.RowKit Go.Deep Go.Maps Go.Proofs.Ytkjlmibjpfmfnaa.Words Go.Proofs.Ytkjlmibjpfmfnaa.Oct Go.Proofs.Ytkjlmibjpfmfnaa.Par Go.Proofs.Ytkjlmibjpfmfnaa.Chk Go.Proofs.Ytkjlmibjpfmfnaa.Mx Go.Proofs.Ytkjlmibjpfmfnaa.Fl
section
variable {e : Ev} {w w' W W' : World} {h h' : Hp} {p mb T : Nat} {x0 : Me} {mm : Ln → Option Nat} {gh : Gh} {A : Option Addr} {n cp : Nat} {id lk : Int} {ln : Nat} {m : Msg}
theorem zero_u32 (w : World) : (zeroValue 32).run Try.prog w = .ok (.int .u32 0) w := by kernel_rfl
def putM (mm : Ln → Option Nat) (k : Ln) (v : Nat) : Ln → Option Nat := fun y => if y = k then some v else mm y
def midI (it : It) (mid : Nat) : It := { it with m := { it.m with mid := mid } }
theorem number0_s (hv : Hv e w h) (hm : h mb = some (.ms x0)) (hq : ∃ b r, h p = some (.q b r)) (hc : (x0.it.m.lo && !e.inter) = true) :
    Calls Try.prog 30 #[qptr p, qptr mb] w fun en w' => en = .returned (.tuple #[]) ∧ w = w' := by
  obtain ⟨b, r, hq⟩ := hq
  have c4 : w.cell? ⟨mb, 4, none⟩ = some (.bool x0.it.m.lo) := hv.cell hm 4
  have cp0 : w.cell? ⟨p, 0, none⟩ = some (.bool e.inter) := hv.cell hq 0
  have h1 : x0.it.m.lo = true := by cases hl : x0.it.m.lo <;> simp [hl] at hc ⊢
  have h2 : e.inter = false := by cases hl : e.inter <;> simp [hl] at hc ⊢
  rw [h1] at c4
  rw [h2] at cp0
  clear hv hm hq hc h1 h2
  go_enter Try.func30, Try.ntmps30
  go_wp2_with fail
  refine bodyPost_ret (results_none rfl _ _ _) rfl ?_
  exact ⟨rfl, rfl⟩
set_option maxHeartbeats 8000000 in
theorem number_s (hv : Hv e w h) (hmm : MapX lnX w e.mm (mmF mm)) (hm : h mb = some (.ms x0)) (hq : ∃ b r, h p = some (.q b r)) (hc : (x0.it.m.lo && !e.inter) = false) (hst : x0.it.m.st < 65536) (hmr : ∀ k v, mm k = some v → v < 4294967296) :
    Calls Try.prog 30 #[qptr p, qptr mb] w fun en w' => en = .returned (.tuple #[]) ∧ Hv e w' (upd h mb (.ms { x0 with it := midI x0.it ((mm (x0.it.m.st, x0.it.m.lo)).getD 0) })) ∧ MapX lnX w' e.mm (mmF (putM mm (x0.it.m.st, x0.it.m.lo) (((mm (x0.it.m.st, x0.it.m.lo)).getD 0 + 1) % 4294967296))) ∧ Fr (fun i => i = mb ∨ i = e.mm) w w' := by
  obtain ⟨b, r, hq⟩ := hq
  have c4 : w.cell? ⟨mb, 4, none⟩ = some (.bool x0.it.m.lo) := hv.cell hm 4
  have c3 : w.cell? ⟨mb, 3, none⟩ = some (.int .u16 (x0.it.m.st : Int)) := hv.cell hm 3
  have cp0 : w.cell? ⟨p, 0, none⟩ = some (.bool e.inter) := hv.cell hq 0
  obtain ⟨st, hste⟩ : ∃ st, st = x0.it.m.st := ⟨_, rfl⟩
  obtain ⟨lo, hloe⟩ : ∃ lo, lo = x0.it.m.lo := ⟨_, rfl⟩
  obtain ⟨it, hie⟩ : ∃ it, it = e.inter := ⟨_, rfl⟩
  have HST := Lib.hid hste
  have HLO := Lib.hid hloe
  have HHM := Lib.hid hm
  have HHQ := Lib.hid hq
  have HV := Lib.hid hv
  have HMM := Lib.hid hmm
  have HMR := Lib.hid hmr
  rw [← hloe] at c4 hc
  rw [← hste] at c3 hst
  rw [← hie] at cp0 hc
  have HST6 := Lib.hid hst
  rw [← hste, ← hloe]
  obtain ⟨v, hve⟩ : ∃ v, v = (mm (st, lo)).getD 0 := ⟨_, rfl⟩
  have HVE := Lib.hid hve
  rw [← hve]
  have hv32 : v < 4294967296 := by
    rw [hve]
    cases h9 : mm (st, lo) with
    | none => show 0 < _; omega
    | some y => exact hmr _ _ h9
  have hbz := below_one w (.cells #[.int .u16 0, .bool false] 129)
  have z3 : (w.alloc (.cells #[.int .u16 0, .bool false] 129)).cell? ⟨mb, 3, none⟩ = some (.int .u16 (st : Int)) := by rw [hste]; exact (hv.below hbz).cell hm 3
  have z4 : (w.alloc (.cells #[.int .u16 0, .bool false] 129)).cell? ⟨mb, 4, none⟩ = some (.bool lo) := by rw [hloe]; exact (hv.below hbz).cell hm 4
  clear hste hloe hie hm hq hv hmm hmr hve hbz
  have main : it = true ∨ lo = false := by cases it <;> cases lo <;> simp at hc ⊢
  go_enter Try.func30, Try.ntmps30
  cases lo
  · go_upto_region 1 with (fail)
    go_region
    obtain ⟨gv, hgv⟩ : ∃ gv, gv = w.heap.size := ⟨_, rfl⟩
    obtain ⟨W1, hW1⟩ : ∃ W, W = (w.alloc (.cells #[.int .u16 (st : Int), .bool false] 129)).drew := ⟨_, rfl⟩
    rw [← hW1, ← hgv]
    have hb1 : Below w.heap.size w W1 := by rw [hW1]; exact (below_one w _).drew
    have HV1 := Lib.hid (HV.out.below hb1)
    have HB1 := Lib.hid hb1
    have kv : Blk W1 gv 129 #[.int .u16 (st : Int), .bool false] := by rw [hW1, hgv]; exact (Blk.new w _ _).drew
    have HMM1 := Lib.hid (HMM.out.fr (Fr.of_below hb1) (fun e9 => by have := HMM.out.lt; omega))
    have HGV : Hid (gv = w.heap.size) := hgv
    have g0 : W1.cell? ⟨gv, 0, none⟩ = some (.int .u16 (st : Int)) := kv.cell 0
    have g1 : W1.cell? ⟨gv, 1, none⟩ = some (.bool false) := kv.cell 1
    have cq : W1.cell? ⟨p, 7, none⟩ = some (.map (some e.mm)) := HV1.out.cell HHQ.out 7
    have c5 : W1.cell? ⟨mb, 5, none⟩ = some (.int .u32 (x0.it.m.mid : Int)) := HV1.out.cell HHM.out 5
    have f5 := HV1.out.frz HHM.out 5
    have hlv : ∀ W : World, W.heap[e.mm]? = W1.heap[e.mm]? → (Instr.lookup 85 (.map (some e.mm)) (.agg #[.int .u16 (st : Int), .bool false]) false).run Try.prog W = .ok (.int .u32 (v : Int)) W := fun W hW => by
      have h9 := (HMM1.out.same hW).look (t := 85) Try.underlying85 (zero_u32 W) (x := ((st, false) : Ln)) (show lnX.dom (st, false) from HST6.out)
      have e8 : ((mmF mm (st, false)).getD (.int .u32 0)) = .int .u32 (v : Int) := by
        rw [HVE.out]
        unfold mmF
        cases mm (st, false) <;> rfl
      rw [e8] at h9
      exact h9
    have HLV := Lib.hid hlv
    have hl1 := hlv W1.drew rfl
    have HKV := Lib.hid kv
    clear hW1 hgv hb1 kv hlv c3 c4 z3 z4
    go_upto_region 2 with (fail)
    go_region
    obtain ⟨W2, hW2⟩ : ∃ W, W = (W1.setCell ⟨mb, 5, none⟩ (.int .u32 (v : Int))).drew := ⟨_, rfl⟩
    rw [← hW2]
    have hv2 : Hv e W2 (upd h mb (.ms { x0 with it := midI x0.it v })) := by
      have h9 : Hv e (W1.setCell ⟨mb, 5, none⟩ (.int .u32 (v : Int))) (upd h mb (.ms { x0 with it := midI x0.it v })) := HV1.out.set HHM.out rfl rfl (fun x hx => by injection hx with hx; subst hx; exact ⟨x0, rfl, rfl, rfl, rfl⟩)
      rw [hW2]
      exact h9.drew
    have hf2 : Fr (fun i => i = mb) W1 W2 := by rw [hW2]; exact (fr_set _).drew
    have HF2 := Lib.hid hf2
    have hne : mb ≠ e.mm := fun e9 => by
      have h8 := HV1.out.kd HHM.out
      rw [e9, kd_mapx HMM1.out] at h8
      injection h8 with h8
      cases h8
    have hm2 : MapX lnX W2 e.mm (mmF mm) := HMM1.out.fr hf2 (Ne.symm hne)
    have hpm : p ≠ mb := fun e9 => by
      have h8 := HHQ.out
      rw [e9, HHM.out] at h8
      cases h8
    have hgm : gv ≠ mb := fun e9 => by
      have := HV.out.lt HHM.out
      have := HGV.out
      omega
    have cq2 : W2.cell? ⟨p, 7, none⟩ = some (.map (some e.mm)) := (World.cell?_of_block (hf2.block p (HV1.out.lt HHQ.out) hpm)).trans cq
    have kv2 := hf2.blk HKV.out hgm
    have g02 : W2.cell? ⟨gv, 0, none⟩ = some (.int .u16 (st : Int)) := kv2.cell 0
    have g12 : W2.cell? ⟨gv, 1, none⟩ = some (.bool false) := kv2.cell 1
    obtain ⟨st0, W3, hent, hl3, ht3, hst3⟩ := mapX_entry (hm2.drew) (t := 85) Try.underlying85 zero_u32 (x := ((st, false) : Ln)) (show lnX.dom (st, false) from HST6.out)
    obtain ⟨v1, hv1e⟩ : ∃ v1, v1 = (v + 1) % 4294967296 := ⟨_, rfl⟩
    obtain ⟨W4, hst4, hm4, ht4⟩ := hst3 (.int .u32 (v1 : Int))
    have e8 : ((mmF mm (st, false)).getD (.int .u32 0)) = .int .u32 (v : Int) := by
      rw [HVE.out]
      unfold mmF
      cases mm (st, false) <;> rfl
    rw [e8] at hent hl3
    have hent' : (Instr.mapEntry 85 (.map (some e.mm)) (.agg #[.int .u16 (st : Int), .bool false])).run Try.prog W2.drew = .ok (.tuple #[.int .u32 (v : Int), .int .i64 (st0 : Int)]) W3 := hent
    have hl3' : (Instr.lookup 85 (.map (some e.mm)) (.agg #[.int .u16 (st : Int), .bool false]) false).run Try.prog W3 = .ok (.int .u32 (v : Int)) W3 := hl3
    have hl2' : (Instr.lookup 85 (.map (some e.mm)) (.agg #[.int .u16 (st : Int), .bool false]) false).run Try.prog W2.drew = .ok (.int .u32 (v : Int)) W2.drew := HLV.out W2.drew (hf2.block e.mm HMM1.out.lt (Ne.symm hne))
    have hwv : ((v : Int) + 1) % 4294967296 = (v1 : Int) := by omega
    have hst4' : (Instr.entryStore 85 (.map (some e.mm)) (.int .i64 (st0 : Int)) (.int .u32 (((v : Int) + 1) % 4294967296))).run Try.prog W3 = .ok () W4 := by rw [hwv]; exact hst4
    have hst4w : (Instr.entryStore 85 (.map (some e.mm)) (.int .i64 (st0 : Int)) (.int .u32 (IntKind.u32.wrap ((v : Int) + 1)))).run Try.prog W3 = .ok () W4 := by
      have h9 : IntKind.u32.wrap ((v : Int) + 1) = (v1 : Int) := by
        rw [← hwv]
        simp [IntKind.wrap, IntKind.bits, IntKind.signed]
      rw [h9]; exact hst4
    clear hwv
    have hf4 : Fr (fun i => i = e.mm) W2 W4 := ((Fr.refl (fun i => i = e.mm) W2).drew).same ((Fr.of_grown ht4.grown).mono (fun i _ e => by injection e))
    have HF4 := Lib.hid hf4
    have HV2 := Lib.hid hv2
    have HM4 := Lib.hid hm4
    have HV1E := Lib.hid hv1e
    clear hW2 hv2 hf2 hm2 kv2 hent hl3 ht3 hst3 hst4 hm4 ht4 hf4 hv1e cq c5 f5 g0 g1 hl1 e8
    go_upto_region 3 with (fail)
    go_region
    go_wp2_with fail
    go_end0
    refine ⟨rfl, HV2.out.fr HF4.out fun i hi h8 h9 => ?_, HM4.out.as_ fun y => ?_, ((Fr.of_below HB1.out).mono (T := fun i => i = mb ∨ i = e.mm) fun i hi h9 => absurd h9 (by omega)).trans (HF2.out.mono (T := fun i => i = mb ∨ i = e.mm) fun i _ h9 => .inl h9) (fun i _ h9 => h9) |>.trans HF4.out fun i _ h9 => .inr h9⟩
    · have e9 : i = e.mm := hi
      rw [e9] at h9
      exact hg_map HV2.out (kd_mapx (HMM1.out.fr HF2.out (Ne.symm hne))) h9
    · rw [← HV1E.out]
      unfold mmF putF putM
      dsimp only
      by_cases hy : y = (st, false)
      · rw [if_pos hy, if_pos hy]; rfl
      · rw [if_neg hy, if_neg hy]
  · obtain rfl : it = true := by simpa using main
    go_upto_region 1 with (fail)
    go_region
    obtain ⟨gv, hgv⟩ : ∃ gv, gv = w.heap.size := ⟨_, rfl⟩
    obtain ⟨W1, hW1⟩ : ∃ W, W = (w.alloc (.cells #[.int .u16 (st : Int), .bool true] 129)).drew := ⟨_, rfl⟩
    rw [← hW1, ← hgv]
    have hb1 : Below w.heap.size w W1 := by rw [hW1]; exact (below_one w _).drew
    have HV1 := Lib.hid (HV.out.below hb1)
    have HB1 := Lib.hid hb1
    have kv : Blk W1 gv 129 #[.int .u16 (st : Int), .bool true] := by rw [hW1, hgv]; exact (Blk.new w _ _).drew
    have HMM1 := Lib.hid (HMM.out.fr (Fr.of_below hb1) (fun e9 => by have := HMM.out.lt; omega))
    have HGV : Hid (gv = w.heap.size) := hgv
    have g0 : W1.cell? ⟨gv, 0, none⟩ = some (.int .u16 (st : Int)) := kv.cell 0
    have g1 : W1.cell? ⟨gv, 1, none⟩ = some (.bool true) := kv.cell 1
    have cq : W1.cell? ⟨p, 7, none⟩ = some (.map (some e.mm)) := HV1.out.cell HHQ.out 7
    have c5 : W1.cell? ⟨mb, 5, none⟩ = some (.int .u32 (x0.it.m.mid : Int)) := HV1.out.cell HHM.out 5
    have f5 := HV1.out.frz HHM.out 5
    have hlv : ∀ W : World, W.heap[e.mm]? = W1.heap[e.mm]? → (Instr.lookup 85 (.map (some e.mm)) (.agg #[.int .u16 (st : Int), .bool true]) false).run Try.prog W = .ok (.int .u32 (v : Int)) W := fun W hW => by
      have h9 := (HMM1.out.same hW).look (t := 85) Try.underlying85 (zero_u32 W) (x := ((st, true) : Ln)) (show lnX.dom (st, true) from HST6.out)
      have e8 : ((mmF mm (st, true)).getD (.int .u32 0)) = .int .u32 (v : Int) := by
        rw [HVE.out]
        unfold mmF
        cases mm (st, true) <;> rfl
      rw [e8] at h9
      exact h9
    have HLV := Lib.hid hlv
    have hl1 := hlv W1.drew rfl
    have HKV := Lib.hid kv
    clear hW1 hgv hb1 kv hlv c3 c4 z3 z4
    go_upto_region 2 with (fail)
    go_region
    obtain ⟨W2, hW2⟩ : ∃ W, W = (W1.setCell ⟨mb, 5, none⟩ (.int .u32 (v : Int))).drew := ⟨_, rfl⟩
    rw [← hW2]
    have hv2 : Hv e W2 (upd h mb (.ms { x0 with it := midI x0.it v })) := by
      have h9 : Hv e (W1.setCell ⟨mb, 5, none⟩ (.int .u32 (v : Int))) (upd h mb (.ms { x0 with it := midI x0.it v })) := HV1.out.set HHM.out rfl rfl (fun x hx => by injection hx with hx; subst hx; exact ⟨x0, rfl, rfl, rfl, rfl⟩)
      rw [hW2]
      exact h9.drew
    have hf2 : Fr (fun i => i = mb) W1 W2 := by rw [hW2]; exact (fr_set _).drew
    have HF2 := Lib.hid hf2
    have hne : mb ≠ e.mm := fun e9 => by
      have h8 := HV1.out.kd HHM.out
      rw [e9, kd_mapx HMM1.out] at h8
      injection h8 with h8
      cases h8
    have hm2 : MapX lnX W2 e.mm (mmF mm) := HMM1.out.fr hf2 (Ne.symm hne)
    have hpm : p ≠ mb := fun e9 => by
      have h8 := HHQ.out
      rw [e9, HHM.out] at h8
      cases h8
    have hgm : gv ≠ mb := fun e9 => by
      have := HV.out.lt HHM.out
      have := HGV.out
      omega
    have cq2 : W2.cell? ⟨p, 7, none⟩ = some (.map (some e.mm)) := (World.cell?_of_block (hf2.block p (HV1.out.lt HHQ.out) hpm)).trans cq
    have kv2 := hf2.blk HKV.out hgm
    have g02 : W2.cell? ⟨gv, 0, none⟩ = some (.int .u16 (st : Int)) := kv2.cell 0
    have g12 : W2.cell? ⟨gv, 1, none⟩ = some (.bool true) := kv2.cell 1
    obtain ⟨st0, W3, hent, hl3, ht3, hst3⟩ := mapX_entry (hm2.drew) (t := 85) Try.underlying85 zero_u32 (x := ((st, true) : Ln)) (show lnX.dom (st, true) from HST6.out)
    obtain ⟨v1, hv1e⟩ : ∃ v1, v1 = (v + 1) % 4294967296 := ⟨_, rfl⟩
    obtain ⟨W4, hst4, hm4, ht4⟩ := hst3 (.int .u32 (v1 : Int))
    have e8 : ((mmF mm (st, true)).getD (.int .u32 0)) = .int .u32 (v : Int) := by
      rw [HVE.out]
      unfold mmF
      cases mm (st, true) <;> rfl
    rw [e8] at hent hl3
    have hent' : (Instr.mapEntry 85 (.map (some e.mm)) (.agg #[.int .u16 (st : Int), .bool true])).run Try.prog W2.drew = .ok (.tuple #[.int .u32 (v : Int), .int .i64 (st0 : Int)]) W3 := hent
    have hl3' : (Instr.lookup 85 (.map (some e.mm)) (.agg #[.int .u16 (st : Int), .bool true]) false).run Try.prog W3 = .ok (.int .u32 (v : Int)) W3 := hl3
    have hl2' : (Instr.lookup 85 (.map (some e.mm)) (.agg #[.int .u16 (st : Int), .bool true]) false).run Try.prog W2.drew = .ok (.int .u32 (v : Int)) W2.drew := HLV.out W2.drew (hf2.block e.mm HMM1.out.lt (Ne.symm hne))
    have hwv : ((v : Int) + 1) % 4294967296 = (v1 : Int) := by omega
    have hst4' : (Instr.entryStore 85 (.map (some e.mm)) (.int .i64 (st0 : Int)) (.int .u32 (((v : Int) + 1) % 4294967296))).run Try.prog W3 = .ok () W4 := by rw [hwv]; exact hst4
    have hst4w : (Instr.entryStore 85 (.map (some e.mm)) (.int .i64 (st0 : Int)) (.int .u32 (IntKind.u32.wrap ((v : Int) + 1)))).run Try.prog W3 = .ok () W4 := by
      have h9 : IntKind.u32.wrap ((v : Int) + 1) = (v1 : Int) := by
        rw [← hwv]
        simp [IntKind.wrap, IntKind.bits, IntKind.signed]
      rw [h9]; exact hst4
    clear hwv
    have hf4 : Fr (fun i => i = e.mm) W2 W4 := ((Fr.refl (fun i => i = e.mm) W2).drew).same ((Fr.of_grown ht4.grown).mono (fun i _ e => by injection e))
    have HF4 := Lib.hid hf4
    have HV2 := Lib.hid hv2
    have HM4 := Lib.hid hm4
    have HV1E := Lib.hid hv1e
    clear hW2 hv2 hf2 hm2 kv2 hent hl3 ht3 hst3 hst4 hm4 ht4 hf4 hv1e cq c5 f5 g0 g1 hl1 e8
    go_upto_region 3 with (fail)
    go_region
    go_wp2_with fail
    go_end0
    refine ⟨rfl, HV2.out.fr HF4.out fun i hi h8 h9 => ?_, HM4.out.as_ fun y => ?_, ((Fr.of_below HB1.out).mono (T := fun i => i = mb ∨ i = e.mm) fun i hi h9 => absurd h9 (by omega)).trans (HF2.out.mono (T := fun i => i = mb ∨ i = e.mm) fun i _ h9 => .inl h9) (fun i _ h9 => h9) |>.trans HF4.out fun i _ h9 => .inr h9⟩
    · have e9 : i = e.mm := hi
      rw [e9] at h9
      exact hg_map HV2.out (kd_mapx (HMM1.out.fr HF2.out (Ne.symm hne))) h9
    · rw [← HV1E.out]
      unfold mmF putF putM
      dsimp only
      by_cases hy : y = (st, true)
      · rw [if_pos hy, if_pos hy]; rfl
      · rw [if_neg hy, if_neg hy]
end
end Go.Proofs.Ytkjlmibjpfmfnaa.Sc

set_option linter.unusedVariables false
set_option linter.unusedSimpArgs false
namespace Go.Proofs.Ytkjlmibjpfmfnaa.Words
open Go.ChangeShapes Go.WideShapes Go.ChangeAt Go.RowKit
section
variable {P : Program} {ops : Array Oper}
def defersNot (l : List Oper) : Bool := l.all fun o => match o.op with | .defer _ => false | _ => true
theorem defersNot_spec {l : List Oper} (h : defersNot l = true) : ∀ o, o ∈ l → ∀ c, o.op ≠ .defer c := by
  intro o ho c hc
  have := List.all_eq_true.1 h o ho
  rw [hc] at this
  cases this
theorem rowsIn_round {l n : Nat} {row : String} {args : Array Value} {w : World} {R : Value → World → Prop} (h : Rows P row args w R) : RowsIn (Fence.wide.inRound l) n P row args w R :=
  fun c cs _ => let ⟨v, w', r, s⟩ := h c cs; ⟨v, w', r, stepsIn_wide.2 s⟩
/-- An operation, carried out within a round. -/
theorem oper_round {l n : Nat} {o : Oper} {a : Act} {w : World} {K : Act → World → Prop} {Q : Exit → Act → World → Prop} (hd : ∀ c, o.op ≠ .defer c) (h : o.wp P a w K Q) : o.wpIn (Fence.wide.inRound l) n P a w K Q := by
  unfold Oper.wpIn
  refine ⟨fun f _ => trivial, ?_⟩
  rw [Fence.inRound_round, Oper.semAt_some l a.eval o hd]
  unfold Oper.wp at h
  generalize (execOp a.eval o).run P w = r at *
  have hdep : ∀ {p : Prop}, ((Fence.wide.inRound l).depth.isSome = true → p) := fun h => by cases h
  cases r with
  | ok x w' =>
    cases x <;> simp only [Oper.upon] at h <;> simp only [Oper.uponIn]
    case value => exact h
    case skip => exact h
    case defer => exact h
    case enter f args => exact ⟨hdep, CallsIn.inRound l (callsIn_wide.2 h)⟩
    case row row args => exact ⟨hdep, rowsIn_round h⟩
  | halt x w' =>
    cases x <;> simp only [Oper.upon] at h <;> simp only [Oper.uponIn]
    exact h
theorem wpAnyIn_round {l n : Nat} {md : Region.Mode} {Q : Exit → Act → World → Prop} (hQ : ¬ LetsOut Q) (hd : ∀ o, o ∈ ops.toList → ∀ c, o.op ≠ .defer c) :
    ∀ (fuel : Nat) (listed : Array Bool) (a : Act) (w : World), wpAny P md ops Q fuel listed a w → wpAnyIn (Fence.wide.inRound l) n P md ops Q fuel listed a w := by
  intro fuel
  induction fuel with
  | zero => intro listed a w h; exact h
  | succ fuel ih =>
    intro listed a w h
    refine ⟨h.1, fun i hi => ?_⟩
    have h2 := h.2 i hi
    unfold wpOp at h2
    unfold wpOpIn
    cases ho : ops[i]? with
    | none =>
      rw [ho] at h2
      exact ih _ _ _ h2
    | some o =>
      rw [ho] at h2
      simp only at h2 ⊢
      have hmem : o ∈ ops.toList := by
        obtain ⟨h1, h3⟩ := Array.getElem?_eq_some_iff.1 ho
        rw [← h3]
        simp
      split
      · rename_i hw
        rw [if_pos hw] at h2
        rcases h2 with h2 | h2
        · exact oper_round (hd o hmem) (Oper.wp_mono (fun a w h => ih _ a w h) h2)
        · exact absurd h2.2 hQ
      · rename_i hw
        rw [if_neg hw] at h2
        exact ⟨fun f _ => trivial, ih _ _ _ h2⟩
/-- The same as wp_region_stage_tail (XStageT), within a round. -/
theorem wpIn_region_stage_tail {lp kk : Nat} (n : Nat) (Rel : Nat → World → World → Prop) (S : Nat → World → Prop) {id : Nat} {a0 : Act} {w : World} {l : List Oper} {Q : Exit → Act → World → Prop} (specs : List Spec) (hm : P.follows .mixedOrders = true) (hB : growB l.toArray = true) (hC : chainB l.toArray (moversFrom 0 specs) = true)
    (hlen : specs.length = n) (hn : n ≤ l.length) (hT : tailB l.toArray n = true) (hseq : Region.seqB .any l.toArray (l.toArray.size - n) n (headL l.toArray.size n) = true) (hst0 : lastsT Rel 0 specs) (h0 : S 0 w.drew)
    (hQ : ¬ LetsOut Q) (hd : defersNot l = true) (h : StageTWalk P Rel S l.toArray (fun b w' => wpList P l.toArray Q (l.drop n) b w') (l.take n) specs 0 a0 []) : (Code.region id l.toArray true).wpIn (Fence.wide.inRound lp) kk P Q a0 w := by
  have hlt : (l.take n).length = specs.length := by rw [List.length_take, hlen]; omega
  have hst := lastsT_of specs 0 hst0
  have hB' := hB
  simp only [growB, Bool.and_eq_true] at hB'
  obtain ⟨⟨⟨hB1, hB2⟩, hB3⟩, hB4⟩ := hB'
  have hmem : ∀ j mv t, specs[j]? = some (mv, t) → (j ∈ moversFrom 0 specs ↔ mv = true) := fun j mv t hj => by
    rw [moversFrom_mem, Nat.sub_zero, hj]
    simp
  have hms : ∀ k ∈ moversFrom 0 specs, k < n := fun k hk => by
    have := ((moversFrom_mem specs 0 k).1 hk).2
    rw [Nat.sub_zero] at this
    rcases Nat.lt_or_ge k specs.length with h1 | h1
    · omega
    · rw [List.getElem?_eq_none h1] at this; cases this
  have hun0 : unlisted (Array.replicate l.toArray.size false) (List.range n) = n := by
    unfold unlisted
    have : (List.range n).countP (fun i => !(Array.replicate l.toArray.size false).getD i true) = (List.range n).length := by
      rw [List.countP_eq_length]
      intro i hi
      have hi' : i < n := by simpa using hi
      have : i < l.length := by omega
      simp [this]
    rw [this, List.length_range]
  have hgo := wpAny_stage_tail (P := P) (ops := l.toArray) (Q := Q) (Rel := Rel) (S := S) (ms := moversFrom 0 specs) (a0 := a0) (Φ := fun i v w' => match specs[i]? with | some x => x.2.holds v w' | none => True) n (by simpa using hn) hB hC hms hT hseq ?_ ?_ ?_ n (Array.replicate l.toArray.size false) a0 w.drew (by simp) hun0 (fun k _ hk => ?_) ⟨fun _ => undef, 0, ?_, h0, Nat.zero_le _, fun n k hk => ?_, fun i hi h => ?_, fun i o hi h => ?_⟩
  · refine wpIn_region_any hm (wpAnyIn_round hQ (defersNot_spec hd) _ _ _ _ ?_)
    rw [show n + (l.toArray.size - n) = l.toArray.size by simp; omega] at hgo
    exact hgo
  · intro i v w1 w2 m hrk hv hr
    cases hs : specs[i]? with
    | none => simp [hs]
    | some x =>
      simp only [hs] at hv ⊢
      refine hst i x hs m v w1 w2 (fun e => ?_) hv hr
      have him : i ∈ moversFrom 0 specs := (moversFrom_mem specs 0 i).2 ⟨Nat.zero_le _, by rw [Nat.sub_zero, hs]; simp [e]⟩
      obtain ⟨n', hn', hni⟩ := List.mem_iff_getElem.1 him
      have hn2 : (moversFrom 0 specs)[n']? = some i := by rw [List.getElem?_eq_getElem hn', hni]
      have h1 := (moversFrom_at specs 0 n' i hn2).2
      have h2 := hrk n' hn2
      rw [Nat.sub_zero] at h1
      omega
  · intro j o hj hjn
    have hj' : l[j]? = some o := by simpa using hj
    have hjt : (l.take n)[j]? = some o := by rw [List.getElem?_take, if_pos hjn]; exact hj'
    have hjl : j < l.length := (List.getElem?_eq_some_iff.1 hj').1
    obtain ⟨mv, t, hsj⟩ : ∃ mv t, specs[j]? = some (mv, t) := ⟨_, _, List.getElem?_eq_getElem (by omega)⟩
    intro vs w1 m hS hmv hf
    have hwalk := stageTWalk_at (specs := specs) vs (l.take n) specs 0 0 a0 hlt (fun i => by simp) (by simpa using h)
    have hob := hwalk.1 j o mv t hjt hsj w1 m hS (fun hmt => by
      have := (moversFrom_at specs 0 m j (hmv ((hmem j mv t hsj).2 hmt))).2
      rw [Nat.sub_zero] at this
      omega) (by
      rw [Nat.zero_add]
      refine leans_of j 0 (fun i _ hi hw u hu => ?_)
      have hi2 := hf i hw
      unfold toldsOf at hu
      rw [List.getElem?_map] at hu
      cases hsi : specs[i]? with
      | none => rw [hsi] at hu; cases hu
      | some x =>
        rw [hsi] at hu
        simp only [Option.map_some, Option.some.injEq] at hu
        subst hu
        simp only [hsi] at hi2
        exact hi2)
    rw [← puts_take n l 0 (fun i => decide (i < 0 + j)) (laidV (toldsOf specs) vs) a0 (fun i hi _ => by simp; omega)] at hob
    have hm3 := monoAll_spec l.toArray.toList 0 hB3 j o (by simpa using hj')
    rw [Nat.zero_add] at hm3
    have hag : Agree (o.looksAt l.toArray) (puts l.toArray.toList 0 (fun k => decide (k < j)) vs a0) (puts l 0 (fun i => decide (i < 0 + j)) (laidV (toldsOf specs) vs) a0) := by
      have gen : ∀ (r : List Oper) (k : Nat) (a b : Act), (∀ i x, r[i]? = some x → l[k + i]? = some x) → Agree (o.looksAt l.toArray) a b → Agree (o.looksAt l.toArray) (puts r k (fun k => decide (k < j)) vs a) (puts r k (fun i => decide (i < 0 + j)) (laidV (toldsOf specs) vs) b) := by
        intro r
        induction r with
        | nil => intro k a b _ hab; exact hab
        | cons x r ih =>
          intro k a b hr hab
          unfold puts
          refine ih (k + 1) _ _ (fun i y hy => by have := hr (i + 1) y (by simpa using hy); rwa [show k + 1 + i = k + (i + 1) by omega]) ?_
          rw [Nat.zero_add]
          by_cases hkj : k < j
          · rw [if_pos (by simpa using hkj), if_pos (by simpa using hkj)]
            have hx := hr 0 x (by simp)
            rw [Nat.add_zero] at hx
            by_cases hw : waits o k = true
            · have hk := hf k hw
              have e : laidV (toldsOf specs) vs k = vs k := by
                obtain ⟨mvk, tk, hsk⟩ : ∃ mv t, specs[k]? = some (mv, t) := ⟨_, _, List.getElem?_eq_getElem (by omega)⟩
                rw [laidV_of hsk]
                simp only [hsk] at hk
                cases tk with
                | exact u => exact hk.symm
                | grows R => rfl
              rw [e]
              exact hab.put _ _
            · have hla := monoFrom_spec l.toArray.toList 0 hm3 k x (by simpa using hx)
              rw [Nat.zero_add] at hla
              have hno : ∀ d, x.dst = some d → d ∉ o.looksAt l.toArray := by
                intro d hd hmem
                unfold looksApart at hla
                rw [hd] at hla
                simp only [Bool.or_eq_true, Bool.not_eq_true', List.contains_eq_mem, decide_eq_false_iff_not] at hla
                rcases hla with hla | hla
                · exact hla hmem
                · rw [if_pos hkj] at hla; exact hw hla
              exact ((hab.left _ _ hno).symm.left _ _ hno).symm
          · rw [if_neg (by simpa using hkj), if_neg (by simpa using hkj)]
            exact hab
      have := gen l 0 a0 a0 (fun i x hx => by rwa [Nat.zero_add]) ⟨rfl, fun _ _ => rfl⟩
      simpa using this
    have hmj := hmem j mv t hsj
    have hs2 : (match specs[j]? with | some x => x.2.holds undef w1 | none => True) = t.holds undef w1 := by rw [hsj]
    have hs3 : ∀ (v : Value) (w' : World), (Rel m w1 w' ∧ t.holds v w' ∧ S (if mv = true then m + 1 else m) w') → (Rel m w1 w' ∧ (match specs[j]? with | some x => x.2.holds v w' | none => True) ∧ ((j ∈ moversFrom 0 specs → S (m + 1) w') ∧ (j ∉ moversFrom 0 specs → S m w'))) := by
      rintro v w' ⟨h1, h2, h3⟩
      refine ⟨h1, by rw [hsj]; exact h2, fun hin => ?_, fun hin => ?_⟩
      · rw [if_pos (hmj.1 hin)] at h3; exact h3
      · rw [if_neg (fun e => hin (hmj.2 e))] at h3; exact h3
    rw [hag.wanted, hag.exec (fun cs b => Region.noSelect_spec hB2 j o cs b hj)]
    split at hob
    · rename_i hw
      rw [if_pos hw]
      generalize (execOp (puts l 0 (fun i => decide (i < 0 + j)) (laidV (toldsOf specs) vs) a0).eval o).run P w1 = rr at hob
      cases rr with
      | ok nx w' =>
        cases nx <;> simp only [Leaves] at hob ⊢
        case value v => exact hs3 _ _ hob
        case skip => exact hs3 _ _ hob
        case enter f args => exact hob.mono fun e w'' ⟨v, he, hv⟩ => ⟨v, he, hs3 _ _ hv⟩
      | halt x w' => simp only [Leaves] at hob
    · rename_i hw
      rw [if_neg hw]
      refine ⟨fun hin => ?_, by show (match specs[j]? with | some x => x.2.holds undef w1 | none => True); rw [hs2]; exact hob.2⟩
      rw [hmj.1 hin] at hob
      cases hob.1
  · intro vs w' hS hall
    have hwalk := stageTWalk_at (specs := specs) vs (l.take n) specs 0 0 a0 hlt (fun i => by simp) (by simpa using h)
    rw [moversFrom_len] at hS
    have hend := hwalk.2 w' (by rw [Nat.zero_add]; exact hS) (factsAll_of _ 0 (fun i _ hi u hu => by
      have hi2 := hall i (by simp only [List.length_take] at hi; omega)
      unfold toldsOf at hu
      rw [List.getElem?_map] at hu
      cases hsi : specs[i]? with
      | none => rw [hsi] at hu; cases hu
      | some x =>
        rw [hsi] at hu
        simp only [Option.map_some, Option.some.injEq] at hu
        subst hu
        simp only [hsi] at hi2
        exact hi2))
    have e : puts l.toArray.toList 0 (fun k => decide (k < n)) vs a0 = puts (l.take n) 0 (fun _ => true) (laidV (toldsOf specs) vs) a0 := by
      have gen : ∀ (r : List Oper) (k : Nat) (a : Act), k + r.length ≤ n → puts r k (fun _ => true) vs a = puts r k (fun _ => true) (laidV (toldsOf specs) vs) a := by
        intro r
        induction r with
        | nil => intros; rfl
        | cons x r ih =>
          intro k a hk
          unfold puts
          simp only [List.length_cons] at hk
          have e : laidV (toldsOf specs) vs k = vs k := by
            obtain ⟨mvk, tk, hsk⟩ : ∃ mv t, specs[k]? = some (mv, t) := ⟨_, _, List.getElem?_eq_getElem (by omega)⟩
            rw [laidV_of hsk]
            have := hall k (by omega)
            simp only [hsk] at this
            cases tk with
            | exact u => exact this.symm
            | grows R => rfl
          rw [e]
          exact ih (k + 1) _ (by omega)
      have h1 := puts_take n l 0 (fun k => decide (k < n)) vs a0 (fun i hi _ => by simp; omega)
      have h2 := puts_congr2 (l.take n) 0 (fun k => decide (k < n)) (fun _ => true) vs a0 (fun i _ hi => by rw [List.length_take] at hi; simp; omega)
      have h3 := gen (l.take n) 0 a0 (by rw [List.length_take]; omega)
      show puts l 0 (fun k => decide (k < n)) vs a0 = _
      rw [h1, h2, h3]
    rw [e]
    exact hend
  · have hk' : k < l.length := by simpa using hk
    simp [hk']
  · have : ∀ (l : List Oper) (k : Nat) (L : Nat → Bool) (vs : Nat → Value) (a : Act), (∀ i, i < l.length → L (k + i) = false) → puts l k L vs a = a := by
      intro l
      induction l with
      | nil => intros; rfl
      | cons o r ih =>
        intro k L vs a h
        unfold puts
        have h0 := h 0 (by simp)
        rw [Nat.add_zero] at h0
        rw [h0, if_neg (by decide)]
        exact ih (k + 1) L vs a (fun i hi => by have := h (i + 1) (by simpa using hi); rwa [show k + 1 + i = k + (i + 1) by omega])
    exact (this l.toArray.toList 0 _ _ a0 (fun i hi => by simp at hi; simp [hi])).symm
  · have hk' := chainB_size _ hC k (List.mem_of_getElem? hk)
    simp at hk'
    simp [hk']
  · have hi' : i < l.length := by simpa using hi
    exfalso
    simp [hi'] at h
  · have hi' : i < l.length := by
      have := (Array.getElem?_eq_some_iff.1 hi).1
      simpa using this
    exfalso
    simp [hi'] at h
end
end Go.Proofs.Ytkjlmibjpfmfnaa.Words

set_option linter.unusedVariables false
set_option linter.unusedSimpArgs false
namespace Go.Proofs.Ytkjlmibjpfmfnaa.Words
open Go.ChangeShapes Go.WideShapes Go.ChangeAt Go.RowKit
/-- How a round is left. -/
def wentT (T : Nat → Prop) (I : Nat → World → Prop) (q : Nat) (W : World) : Exit → Act → World → Prop
  | .normal, _, W' => Fr T W W' ∧ I q W'
  | .ret, _, _ => False
  | .exit _, _, _ => False
  | .goto _, _, _ => False
  | .panic _, _, _ => False
  | .outgrown, _, _ => False
/-- What the iterator must do: hand out N times, one behind the other; it turns its own block bx alone. -/
def HandsT (P : Program) (gf : Nat) (lb : Array Value) (Enc : Nat → Array Value → Prop) (N bx : Nat) (T : Nat → Prop) (w : World) : Prop :=
  ∀ (l : Nat) (J : Nat → World → Prop) (W : World), w.heap.size ≤ l → l < W.heap.size → Below w.heap.size w W →
    (∀ q A A', J q A → Fr (fun k => k = bx) A A' → J q A') →
    (∀ q W1 xs, J q W1 → q < N → Enc q xs → YieldAt Fence.wide 2 P l xs W1 fun e W' => e = .returned (.bool true) ∧ J (q + 1) W' ∧ Fr (fun k => T k ∨ k = l) W1 W') →
    J 0 W → CallsIn Fence.wide 3 P gf (#[.func (.yield l) #[] #[]] ++ lb) W fun e W' => (∃ v, e = .returned v) ∧ J N W'
theorem frT_putObj {S : Nat → Prop} {W W' : World} (h : Fr S W W') {l : Nat} (hl : S l) (o : Obj) : Fr S W (W'.putObj l o) :=
  ⟨h.os, h.tape, h.output, by simpa using h.size, fun k hk hn => (World.putObj_heap_other (fun e => hn (by rw [e]; exact hl))).trans (h.block k hk hn)⟩
theorem wp_range_handsT {P : Program} {g : Operand} {ps : Array Tmp} {assign body : Code} {Q : Exit → Act → World → Prop} {a : Act} {w : World}
    {gf : Nat} {lb : Array Value} (hg : a.eval g = .func (.func gf) #[] lb) (eg : ∀ args w, (callFunc gf args).run P w = .ok (.enter gf args) w)
    {Enc : Nat → Array Value → Prop} {N bx : Nat} {T : Nat → Prop} (hT : ∀ k, T k → k ≠ w.heap.size ∧ k ≠ w.heap.size + 1) (hbx : bx < w.heap.size) (hps : ∀ q xs, Enc q xs → xs.size = ps.size) (hseq : HandsT P gf lb Enc N bx T w)
    (I : Nat → World → Prop) (hI : ∀ q A A', I q A → w.heap.size + 2 ≤ A.heap.size → Fr (fun k => k = bx ∨ k = w.heap.size ∨ k = w.heap.size + 1) A A' → I q A')
    (h0 : ∀ W1, Below w.heap.size w W1 → W1.heap.size = w.heap.size + 2 → I 0 W1) (Ax : Array Value → Nat → Act → World → Prop)
    (hAx : ∀ q a' A l r o, Ax a.tmps q a' A → A.heap[l]? = some (.loop r) → Ax a.tmps q a' (A.putObj l o))
    (hassign : ∀ (l q : Nat) (W : World) (xs : Array Value) (K : Act → World → Prop), q < N → Enc q xs → (∀ a' W', Fr (fun _ => False) W W' → Ax a.tmps q a' W' → K a' W') →
      assign.wpIn (Fence.wide.inRound l) 2 P (Exit.then K (fun _ _ _ => False)) { tmps := (ps.zip xs).foldl (fun t (x : Tmp × Value) => t.setIfInBounds x.1 x.2) a.tmps, defers := [] } W)
    (hbody : ∀ (l q : Nat) (a' : Act) (W : World), I q W → q < N → Ax a.tmps q a' W → w.heap.size + 2 ≤ W.heap.size → body.wpIn (Fence.wide.inRound l) 2 P (wentT T I (q + 1) W) a' W)
    (hdone : ∀ W : World, I N W → W.heap[w.heap.size]? = some (.deferred (some [])) → Q .normal { a with defers := { target := .collected w.heap.size, args := #[] } :: a.defers } W) :
    (Code.rangeFunc g ps assign body).wp P Q a w := by
  refine (wpIn_wide (n := 4)).1 ?_
  refine wpIn_rangeFunc ?_
  intro fn _
  obtain ⟨rec, hrec⟩ : ∃ rec : LoopState → Option Code → Loop, rec = fun s pe => { state := s, pending := pe, fn, tmps := a.tmps, params := ps, assign, body, defers := w.heap.size } := ⟨_, rfl⟩
  obtain ⟨W1, hW1⟩ : ∃ W1, (w.alloc (.deferred (some []))).alloc (.loop (rec .ready none)) = W1 := ⟨_, rfl⟩
  have hs1 : W1.heap.size = w.heap.size + 2 := by rw [← hW1]; simp
  have hL1 : W1.heap[w.heap.size + 1]? = some (.loop (rec .ready none)) := by
    rw [← hW1]
    have := World.alloc_heap_new (w.alloc (.deferred (some []))) (.loop (rec .ready none))
    rwa [World.size_alloc] at this
  have hK1 : W1.heap[w.heap.size]? = some (.deferred (some [])) := by
    rw [← hW1]
    exact (Below.heap_alloc _ _ _ (by simp)).trans (World.alloc_heap_new w _)
  have hb1 : Below w.heap.size w W1 := by rw [← hW1]; exact ((Below.refl _ w).alloc (Nat.le_refl _) _).alloc (by simp) _
  refine ⟨w.heap.size + 1, [{ target := .collected w.heap.size, args := #[] }], W1, { target := .fn (.func gf) lb, args := #[.func (.yield (w.heap.size + 1)) #[] #[]] }, W1, gf,
    #[.func (.yield (w.heap.size + 1)) #[] #[]] ++ lb, W1, ?_, ?_, ?_, ?_, (fun _ => by omega), ?_⟩
  · rw [← hW1, hrec]
    exact run_enterLoop_outer _ _ _ _ _
  · simp only [resolve, hg]
    simp [go_sem]
  · intro f' _
    trivial
  · simp [invoke, go_sem, eg]
  · obtain ⟨J, hJ⟩ : ∃ J : Nat → World → Prop, J = fun q W => I q W ∧ W.heap[w.heap.size + 1]? = some (.loop (rec .ready none)) ∧ W.heap[w.heap.size]? = some (.deferred (some [])) ∧ w.heap.size + 2 ≤ W.heap.size := ⟨_, rfl⟩
    refine (hseq (w.heap.size + 1) J W1 (by omega) (by omega) hb1 ?_ ?_ ?_).mono ?_
    · intro q A A' hj hb
      rw [hJ] at hj ⊢
      exact ⟨hI q A A' hj.1 hj.2.2.2 (hb.mono fun _ _ h => .inl h), (hb.block _ (by omega) (by omega)).trans hj.2.1, (hb.block _ (by omega) (by omega)).trans hj.2.2.1, Nat.le_trans hj.2.2.2 hb.size⟩
    · intro q W xs hj hq henc
      rw [hJ] at hj
      obtain ⟨hi, hl, hk, hsz⟩ := hj
      have hy := run_yield (P := P) (args := xs) hl (by rw [hrec]; simp [hps q xs henc])
      rw [hrec] at hy
      refine ⟨fn, _, assign, body, hy, roundIn_of_wpIn trivial (hassign _ q W xs _ hq henc ?_)⟩
      intro a' W' hfA hax
      have hszA := hfA.size
      have hlA : W'.heap[w.heap.size + 1]? = some (.loop (rec .ready none)) := (hfA.block _ (by omega) (fun h => h)).trans hl
      have hkA : W'.heap[w.heap.size]? = some (.deferred (some [])) := (hfA.block _ (by omega) (fun h => h)).trans hk
      have hiA : I q W' := hI _ _ _ hi hsz (hfA.mono fun x _ hx => hx.elim)
      refine ⟨_, run_beginRound hlA (by rw [hrec]), ?_⟩
      have hl2 : (W'.putObj (w.heap.size + 1) (.loop { rec .ready none with state := .busy })).heap[w.heap.size + 1]? = some (.loop { rec .ready none with state := .busy }) := World.putObj_heap_same (by omega)
      have hk2 : (W'.putObj (w.heap.size + 1) (.loop { rec .ready none with state := .busy })).heap[w.heap.size]? = some (.deferred (some [])) := (World.putObj_heap_other (by omega)).trans hkA
      refine wpIn_mono (hbody _ q a' _ (hI _ _ _ hiA (by omega) (frT_putObj (Fr.refl _ _) (.inr (.inr rfl)) _)) hq (hAx _ _ _ _ _ _ hax hlA) (by simp; omega)) ?_
      intro e a3 W3 hp
      cases e with
      | normal =>
        obtain ⟨hf, hi3⟩ := hp
        have hl3 := (hf.block (w.heap.size + 1) (by simp; omega) (fun h => (hT _ h).2 rfl)).trans hl2
        have hk3 := (hf.block w.heap.size (by simp; omega) (fun h => (hT _ h).1 rfl)).trans hk2
        have hr := run_endRound (P := P) none hl3
        rw [hrec] at hr
        refine ⟨_, _, hr, rfl, ?_, ?_⟩
        · rw [hJ]
          have hsz3 := hf.size
          simp only [World.putObj_size] at hsz3
          refine ⟨hI _ _ _ hi3 (by omega) (frT_putObj (Fr.refl _ _) (.inr (.inr rfl)) _), ?_, (World.putObj_heap_other (by omega)).trans hk3, by simp; omega⟩
          rw [hrec]
          exact World.putObj_heap_same (by omega)
        · refine frT_putObj ?_ (.inr rfl) _
          have h1 : Fr (fun k => T k ∨ k = w.heap.size + 1) W (W'.putObj (w.heap.size + 1) (.loop { rec .ready none with state := .busy })) := frT_putObj (hfA.mono (fun x _ hx => hx.elim)) (.inr rfl) _
          exact h1.trans hf (fun x _ hx => .inl hx)
      | ret => exact hp.elim
      | exit id => exact hp.elim
      | goto t => exact hp.elim
      | panic ch => exact hp.elim
      | outgrown => exact hp.elim
    · rw [hJ]
      exact ⟨h0 _ hb1 hs1, hL1, hK1, by omega⟩
    · rintro e W2 ⟨⟨v, rfl⟩, hj⟩
      rw [hJ] at hj
      obtain ⟨hi, hl, hk, hsz⟩ := hj
      have hr := run_endLoop (P := P) hl (by rw [hrec]; simp)
      rw [hrec] at hr
      exact ⟨none, _, hr, hdone _ (hI _ _ _ hi (by omega) (frT_putObj (Fr.refl _ _) (.inr (.inr rfl)) _)) ((World.putObj_heap_other (by omega)).trans hk)⟩
end Go.Proofs.Ytkjlmibjpfmfnaa.Words
