/-
  P102, NetKnown: for every number the law answers true, and its argument reads as it did. No condition but the row's own.
-/
import Derived.Test.YthfpkaidbfjcdaaDoorKnownRuns
import Derived.Deep.DeepHandedRow
import Derived.OpenShut
import Derived.ProofKit
open Go Go.Am Go.Proofs
namespace Go.Proofs.YthfpkaidbfjcdaaDoor.netKnown
set_option maxRecDepth 100000
open Go.ChangeShapes Go.WideShapes Go.ChangeAt Go.RowKit

theorem knownRun : (arun Tryd.prog [] noSpecs 300 13 [] zeroMem).map (·.1) = some (.bool true) := by kernel_rfl

theorem SpecOk.ofBelow {P : Program} {GL : List Nat} {B : Nat} {f : FuncId} {g : List Value → Mem → Option (Value × Mem)}
    (h : ∀ args M v M', g args M = some (v, M') → M' = M ∧ flat v = true ∧ flatL args = true ∧ ∀ w, Calls P f args.toArray w fun e w' => e = .returned v ∧ Below w.heap.size w w') : SpecOk P GL B f g := by
  refine ⟨fun args M u M' hu => ?_, fun args M u M' hu φ w hR _ args' ha => ?_⟩
  · obtain ⟨rfl, _⟩ := h args M u M' hu
    exact ⟨[], rfl, Nat.le_refl _, rfl, fun _ _ _ => rfl, fun t ht => by cases ht⟩
  · obtain ⟨rfl, hv, hf, hc⟩ := h args M u M' hu
    have e : args' = args.toArray := by
      have := ha.of_flat hf
      cases args'
      simp_all
    subst e
    exact (hc w).mono fun e w' ⟨he, hk⟩ => ⟨[], φ, _, he, rfl, ⟨fun _ _ => rfl, Nat.le_refl _, hR.grow hk.size hk.block, ⟨hk.os, hk.tape, hk.output, hk.size, fun k hk' => .inl (hk.block k hk')⟩, fun id e h1 h2 => by omega, fun t ht => by cases ht⟩, VRel.refl_flat _ _ hv⟩

theorem specs6 (B : Nat) : SpecsOk Tryd.prog GL6 B SP6 := by
  refine specs_ok fun p hp => ?_
  simp only [List.mem_cons, List.not_mem_nil, or_false] at hp
  rcases hp with rfl | rfl | rfl
  · cases hk : arun Tryd.prog [] noSpecs 300 13 [] zeroMem with
    | none => have := knownRun; rw [hk] at this; cases this
    | some r =>
      obtain ⟨v, M1⟩ := r
      have := knownRun
      rw [hk] at this
      cases this
      exact SpecOk.ansNone noNumP mixedP (fun B => SpecsOk.none) hk rfl
  · exact SpecOk.arun noNumP mixedP SpecsOk.none 50 18
  · refine SpecOk.ofBelow fun args M v M' h => ?_
    replace h : clone args M = some (v, M') := h
    unfold clone at h
    split at h
    · rename_i s
      cases hb : Nat.ble s.size 281474976710656 <;> simp only [hb, cond_true, cond_false] at h
      · cases h
      · cases h
        exact ⟨rfl, rfl, rfl, fun w => Tryd.stringslite_Clone s w (Nat.le_of_ble_eq_true hb)⟩
    · cases h

theorem star : "*" ++ "errors.errorString" = "*errors.errorString" := by decide
theorem row136 (u : TypeId) (h : Tryd.prog.typeName? 3 u = some "*errors.errorString") : u = 136 :=
  typeName_ptr_named (nm := "errors.errorString") (by rw [star]; kernel_rfl) (by kernel_rfl) (by decide) u (by rw [star]; exact h)

theorem heap_of_var {P : Program} {W : World} {n : String} {g : Nat} {cs : Array Value} (hg : P.globalNamed n = some g) (h : W.var? P n = some cs) : ∃ t fr, W.heap[g]? = some (.cells cs t fr) := by
  unfold World.var? at h
  rw [hg] at h
  simp only [Option.bind_some] at h
  split at h
  · rename_i c t fr hc
    cases h
    exact ⟨_, _, hc⟩
  · cases h

theorem spot_of_cell {W : World} {a : Addr} {v : Value} (h : W.cell? a = some v) : a.spot = none := by
  unfold World.cell? at h
  split at h
  · cases hs : a.spot with
    | none => rfl
    | some x => rw [hs] at h; simp at h
  · cases h

def emb6 (aS aR : Addr) : Emb := fun id =>
  match id with
  | 0 => some ⟨0, 0, 20, 1⟩
  | 6 => some ⟨6, 0, 1, 1⟩
  | 7 => some ⟨7, 0, 1, 1⟩
  | 8 => some ⟨aS.block, aS.off, 0, 1⟩
  | 9 => some ⟨aR.block, aR.off, 0, 1⟩
  | _ => none

theorem sent {n : String} {text : List UInt8} {r : List (String × DataW Unit)} {W : World} {g : Nat} (h : laidMet Tryd.prog ((n, .iface "*errors.errorString" (.ptr (.agg [.lit (.string text)]))) :: r) W)
    (hg : Tryd.prog.globalNamed n = some g) (ht : (Tryd.prog.globals[g]?).map (·.type) = some 63) : ∃ (a : Addr) (t : TypeId) (fr : Nat × Nat), W.heap[g]? = some (.cells #[.iface 136 (.pointer (some a))] t fr) ∧ a.spot = none := by
  obtain ⟨a, s, hv, hc, _⟩ := laid_sentinel h hg ht Tryd.underlying63 row136 Tryd.underlying136 Tryd.underlying138 rfl rfl Tryd.underlying9 (by kernel_rfl) (by kernel_rfl)
  obtain ⟨t, fr, hh⟩ := heap_of_var hg hv
  exact ⟨a, t, fr, hh, spot_of_cell hc⟩

theorem knows6 {W : World} (hL : laidMet Tryd.prog Rows.netKnownRow.laid W) : ∃ φ e0 e6 e7, Knows1 Tryd.prog GL6 φ (blks6 e0 e6 e7) 10 W := by
  have g0 : Tryd.prog.globalNamed "internal/strconv.uint64pow10" = some 0 := by kernel_rfl
  have htab := Lib.tabIs_of_head (k := .u64) (zs := [1, 10, 100, 1000, 10000, 100000, 1000000, 10000000, 100000000, 1000000000, 10000000000, 100000000000, 1000000000000, 10000000000000, 100000000000000, 1000000000000000, 10000000000000000, 100000000000000000, 1000000000000000000, 10000000000000000000])
    g0 (by kernel_rfl) Tryd.underlying104 Tryd.underlying92 (by kernel_rfl) (by kernel_rfl) hL.tail.tail
  obtain ⟨t0, f0, h0⟩ := heap_of_var g0 htab
  obtain ⟨aR, t7, f7, h7, s7⟩ := sent (g := 7) hL.tail.tail.tail.tail (by kernel_rfl) (by kernel_rfl)
  obtain ⟨aS, t6, f6, h6, s6⟩ := sent (g := 6) hL.tail.tail.tail.tail.tail (by kernel_rfl) (by kernel_rfl)
  refine ⟨emb6 aS aR, t0, t6, t7, fun p hp => ?_, fun p hp => ?_, fun g hg => ?_, fun id hid => ?_⟩
  · simp only [blks6, List.mem_cons, List.not_mem_nil, or_false] at hp
    rcases hp with rfl | rfl | rfl
    · exact ⟨_, rfl, BRel.table h0 (LRel.refl_flat _ _ (by kernel_rfl))⟩
    · exact ⟨_, rfl, BRel.table h6 (.cons (.iface (.ptr ⟨rfl, s6, _, rfl, rfl, rfl⟩)) .nil)⟩
    · exact ⟨_, rfl, BRel.table h7 (.cons (.iface (.ptr ⟨rfl, s7, _, rfl, rfl, rfl⟩)) .nil)⟩
  · simp only [blks6, List.mem_cons, List.not_mem_nil, or_false] at hp
    rcases hp with rfl | rfl | rfl <;> exact ⟨rfl, rfl⟩
  · simp only [GL6, List.mem_cons, List.not_mem_nil, or_false] at hg
    rcases hg with rfl | rfl | rfl <;> exact ⟨by decide, _, rfl, rfl, rfl⟩
  · unfold emb6
    split <;> first | rfl | omega

theorem callsR_one {q : Col} {f : FuncId} {args : List Value} {a : AR} (h : callsR q = some [(f, args, a)]) (hc : ∀ M, acall (onlySpecs SP6) f args M = some (1, a, M)) : allHold Tryd.prog SP6 q := by
  cases q with
  | nil => simp [callsR] at h
  | cons p q =>
    obtain ⟨qu, an⟩ := p
    cases qu <;> simp only [callsR] at h <;> try cases h
    rename_i f' args' M
    cases hq : callsR q with
    | none => rw [hq] at h; cases h
    | some r =>
      rw [hq] at h
      simp only [Option.some.injEq, List.cons.injEq, Prod.mk.injEq] at h
      obtain ⟨⟨rfl, rfl, rfl⟩, rfl⟩ := h
      have hnil : q = [] := by
        cases q with
        | nil => rfl
        | cons p2 q2 =>
          obtain ⟨qu2, an2⟩ := p2
          cases qu2 <;> simp only [callsR] at hq <;> try cases hq
          cases h2 : callsR q2 <;> rw [h2] at hq <;> cases hq
      subst hnil
      intro p hp
      simp only [List.mem_singleton] at hp
      subst hp
      exact hc M

theorem main_run (x : Int) (e0 e6 e7 : TypeId) : ∃ M', arun Tryd.prog GL6 SP6 300 6 [.int .i64 x] (startMem (blks6 e0 e6 e7) 10) = some (.bool true, M') := by
  obtain ⟨j, hj, hw⟩ := within_run x
  have hr := runs6 e0 e6 e7 x j hj
  unfold run6 at hr
  generalize hh : hexec Tryd.prog GL6 SP6 300 B6 ⟨initT [.int .i64 x] 0 .nil, 63, startMem (blks6 e0 e6 e7) 10⟩ [⟨22, .bool true, (1, .val (.int .i64 j), noMem)⟩] 0 = y at hr
  cases y with
  | none => cases hr
  | some r =>
    obtain ⟨⟨e, s⟩, F', c', q⟩ := r
    simp only [Option.map_some, Option.some.injEq, Prod.mk.injEq] at hr
    obtain ⟨rfl, h2, h3⟩ := hr
    refine ⟨s.M, arun_told Tryd.func6 body6 (by kernel_rfl) hh (callsR_one h3 fun M => ?_) (.inr rfl) h2⟩
    have : onlySpecs SP6 18 [.int .i64 x, .int .i64 20] { M with log := [] } = some (.int .i64 j, { M with log := [] }) := hw _
    unfold acall
    rw [this]
    rfl

theorem contract (H : Type) (enc : TypeId × Value → H) (W : World) (base : Nat) (args : Array Value) (ds gs : List (DataW H)) (before : List MemPlace)
    (hval : ∀ (j : Nat) t v, Tryd.f6.params[j]? = some t → args[j]? = some v → Value.okWide Tryd.prog W .any base t v)
    (hW : DataW.Whole enc Tryd.prog Tryd.f6.params.toList Rows.netKnownSpec.vars false W args.toList ds gs before) (hL : laidMetH Tryd.prog Rows.netKnownRow.laid W) :
    Calls Tryd.prog 6 args W fun e W' => ∃ v, e = .returned v ∧ Rows.netKnownSpec.post enc Tryd.prog Tryd.f6 false true false false W args v W' := by
  have hW' := hW
  obtain ⟨p, q, hA0, hV, rfl, hfz, hnd⟩ := hW
  have hA : DataW.TrodAll enc Tryd.prog W 0 (fun _ => true) true Tryd.f6.params.toList args.toList ds p := hA0
  rw [Tryd.params6] at hA hval
  obtain ⟨v0, vs0, d0, ds0, p0, q0, hargs, rfl, rfl, h0, r0⟩ := trodAll_cons hA
  obtain ⟨rfl, rfl, rfl⟩ := trodAll_nil r0
  obtain rfl : args = #[v0] := by cases args; simp_all
  obtain ⟨rfl, rfl⟩ := trodVars_none hV
  obtain ⟨x, rfl, rfl, rfl, hwf⟩ := open_int Tryd.underlying3 (hval 0 3 v0 rfl rfl) h0
  clear hA0
  simp only [List.append_nil] at hW'
  obtain ⟨φ, e0, e6, e7, hK⟩ := knows6 hL
  obtain ⟨M', hrun⟩ := main_run x e0 e6 e7
  refine (calls_start noNumP mixedP (specs6 _) hK hrun (LRel.refl_flat φ [.int .i64 x] rfl)).mono fun e W' ⟨φ', v', he, hk, hv, _⟩ => ?_
  obtain rfl := hv.bool_inv
  subst he
  exact ⟨_, rfl, post_of_kept (pa := []) (pv := []) hW' (fun _ _ _ => trodAll_cons_mk (shut_bool Tryd.underlying4 _) trodAll_mk0) (fun _ _ => trodAll_cons_mk (shut_int Tryd.underlying3 hwf) trodAll_mk0) (fun _ _ => rfl) rfl
    hk (ok_one (by kernel_rfl) rfl (okWide_bool_mk Tryd.underlying4 _))⟩

end Go.Proofs.YthfpkaidbfjcdaaDoor.netKnown
