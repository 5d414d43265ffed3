/-
  RegexDeep: thirty brackets in one another are read, one more is refused at its place; whatever the argument. Conditions: none beyond the card's own.
-/
import Derived.Test.YtlgkpnlppgihcaaDoorGSDR1
import Derived.Test.YtlgkpnlppgihcaaDoorGSDR2
import Derived.Test.YtlgkpnlppgihcaaDoorGSDR3
import Derived.Test.YtlgkpnlppgihcaaDoorGSDR4
import Derived.Test.YtlgkpnlppgihcaaDoorGSDR5
import Derived.Test.YtlgkpnlppgihcaaDoorGSDR6
import Derived.Test.YtlgkpnlppgihcaaDoorGSDR7
import Derived.Test.YtlgkpnlppgihcaaDoorGSDR8
import Derived.Deep.DeepHandedRow
import Derived.OpenShut
import Derived.ProofKit
import Derived.Test.YtlgkpnlppgihcaaDoorRows
import Derived.Stop.LaidErr
import Derived.Lib.LaidTab
import Derived.Test.YtlgkpnlppgihcaaDoorCards
import Derived.Test.YtlgkpnlppgihcaaDoorTie
import Derived.Test.YtlgkpnlppgihcaaDoorChecked
open Go Go.Am Go.Proofs
namespace Go.Proofs.YtlgkpnlppgihcaaDoor.regexDeep
set_option maxRecDepth 100000
open Go.ChangeShapes Go.WideShapes Go.ChangeAt Go.RowKit
theorem runsL (x0 : Int) : ∀ j0 : Nat, j0 < 40 → runL x0  [got 10 (i64 ((j0 : Nat) : Int))] = some (.ret, (), some (.bool true), [.cr 23 [i64 x0, i64 40] [] (.val (i64 ((j0 : Nat) : Int)))]) := by
  intro j0 hj0
  match j0, hj0 with
  | 0, _ =>
    exact runL_0 x0
  | 1, _ =>
    exact runL_1 x0
  | 2, _ =>
    exact runL_2 x0
  | 3, _ =>
    exact runL_3 x0
  | 4, _ =>
    exact runL_4 x0
  | 5, _ =>
    exact runL_5 x0
  | 6, _ =>
    exact runL_6 x0
  | 7, _ =>
    exact runL_7 x0
  | 8, _ =>
    exact runL_8 x0
  | 9, _ =>
    exact runL_9 x0
  | 10, _ =>
    exact runL_10 x0
  | 11, _ =>
    exact runL_11 x0
  | 12, _ =>
    exact runL_12 x0
  | 13, _ =>
    exact runL_13 x0
  | 14, _ =>
    exact runL_14 x0
  | 15, _ =>
    exact runL_15 x0
  | 16, _ =>
    exact runL_16 x0
  | 17, _ =>
    exact runL_17 x0
  | 18, _ =>
    exact runL_18 x0
  | 19, _ =>
    exact runL_19 x0
  | 20, _ =>
    exact runL_20 x0
  | 21, _ =>
    exact runL_21 x0
  | 22, _ =>
    exact runL_22 x0
  | 23, _ =>
    exact runL_23 x0
  | 24, _ =>
    exact runL_24 x0
  | 25, _ =>
    exact runL_25 x0
  | 26, _ =>
    exact runL_26 x0
  | 27, _ =>
    exact runL_27 x0
  | 28, _ =>
    exact runL_28 x0
  | 29, _ =>
    exact runL_29 x0
  | 30, _ =>
    exact runL_30 x0
  | 31, _ =>
    exact runL_31 x0
  | 32, _ =>
    exact runL_32 x0
  | 33, _ =>
    exact runL_33 x0
  | 34, _ =>
    exact runL_34 x0
  | 35, _ =>
    exact runL_35 x0
  | 36, _ =>
    exact runL_36 x0
  | 37, _ =>
    exact runL_37 x0
  | 38, _ =>
    exact runL_38 x0
  | 39, _ =>
    exact runL_39 x0
  | n + 40, h => exact absurd h (by omega)
theorem main_run (x0 : Int)  : ∃ M', Go.Am.arun Tryd.prog [] SPL 2000 8 [i64 x0] (startMem [] 0) = some (.bool true, M') := by
  have hr0 := modI_range (x := x0) (n := 40) (by decide)
  obtain ⟨j0, hj0⟩ : ∃ j : Nat, modI x0 40 = (j : Int) := ⟨(modI x0 40).toNat, by omega⟩
  have h := runsL x0  j0 (by omega)
  unfold runL at h
  obtain ⟨M', h1, _⟩ := xrun_of (look := fun _ => ()) Tryd.func8 bodyL (by show Nat.ble 1 Tryd.f8.ntmps = true; kernel_rfl) h (.inr rfl) (hold_cons (fun M _ => call_mod rfl (by decide) (by decide) hj0 M) hold_nil)
  exact ⟨M', h1⟩

theorem contract (H : Type) (enc : TypeId × Value → H) (W : World) (base : Nat) (args : Array Value) (ds gs : List (DataW H)) (before : List MemPlace)
    (hval : ∀ (j : Nat) t v, Tryd.f8.params[j]? = some t → args[j]? = some v → Value.okWide Tryd.prog W .any base t v)
    (hW : DataW.Whole enc Tryd.prog Tryd.f8.params.toList Rows.regexDeepSpec.vars false W args.toList ds gs before) :
    Calls Tryd.prog 8 args W fun e W' => ∃ v, e = .returned v ∧ Rows.regexDeepSpec.post enc Tryd.prog Tryd.f8 false true false false W args v W' := by
  have hW' := hW
  obtain ⟨p, q, hA0, hV, rfl, hfz, hnd⟩ := hW
  have hA : DataW.TrodAll enc Tryd.prog W 0 (fun _ => true) true Tryd.f8.params.toList args.toList ds p := hA0
  have hpar : Tryd.f8.params = #[3] := by kernel_rfl
  rw [hpar] at hA hval
  obtain ⟨v0, vs0, d0, ds0, p0, q0, hargs, rfl, rfl, h0, r0⟩ := trodAll_cons hA
  obtain ⟨rfl, rfl, rfl⟩ := trodAll_nil r0
  obtain rfl : args = #[v0] := by cases args; simp_all
  obtain ⟨rfl, rfl⟩ := trodVars_none hV
  obtain ⟨x0, rfl, rfl, rfl, hwf0⟩ := open_int Tryd.underlying3 (hval 0 3 v0 rfl rfl) h0
  clear hA0
  simp only [List.append_nil] at hW'
  obtain ⟨M', hrun⟩ := main_run x0 
  refine (calls_zero noNumP mixedP (specsL _) hrun rfl rfl).mono fun e W' ⟨he, hk, _⟩ => ?_
  subst he
  exact ⟨_, rfl, post_of_kept (pa := []) (pv := []) hW' (fun _ _ _ => trodAll_cons_mk (shut_bool Tryd.underlying4 _) trodAll_mk0) (fun _ _ => trodAll_cons_mk (shut_int Tryd.underlying3 hwf0) (trodAll_mk0)) (fun _ _ => rfl) rfl hk (ok_one (by kernel_rfl) rfl (okWide_bool_mk Tryd.underlying4 _))⟩
end Go.Proofs.YtlgkpnlppgihcaaDoor.regexDeep

open Go Go.Am Go.Proofs
namespace Go.Proofs.YtlgkpnlppgihcaaDoor.regexDeep
set_option maxRecDepth 100000
open Go.ChangeShapes Go.WideShapes Go.ChangeAt Go.RowKit

def flatD : Nat → DataW Unit → List Value
  | 0, _ => []
  | n + 1, .agg l => l.flatMap (flatD n)
  | _ + 1, .lit (.int k z) => [.int k z]
  | _, _ => []
def lay (c : List Value) : Obj → Obj
  | .cells _ t frozen => .cells c.toArray t frozen
  | o => o
noncomputable def laidWorld (os : Os) : World :=
  let w0 := World.holding Tryd.prog os ⟨#[], #[], []⟩
  { w0 with heap := (((w0.heap.modify 0 (lay (flatD 3 Rows.laid_internal_strconv_uint64pow10))).modify 2 (lay (flatD 3 Rows.laid_math_bits_deBruijn32tab))).modify 3 (lay (flatD 3 Rows.laid_math_bits_deBruijn64tab))) }
theorem laid_met (os : Os) (args : Array Value) : laidMet Tryd.prog Rows.regexDeepRow.laid ((laidWorld os).forCall (fun _ _ => 0) ⟨#[], args, []⟩).memory :=
  laidMet_of_run' 8 (by kernel_rfl) (by kernel_rfl)

theorem own : ownKnob Tryd.prog.godebug = none := by kernel_rfl
theorem reads (os : Os) {H : Type} (enc : TypeId × Value → H) : ∃ places, DataW.whole enc Tryd.prog ((laidWorld os).forCall (fun _ _ => 0) ⟨#[], #[Value.int .i64 0], []⟩).memory Tryd.f8.params.toList Rows.regexDeepSpec.vars false (#[Value.int .i64 0] : Array Value).toList 8 = some ([.lit (.int .i64 0)], [], places) :=
  ⟨[], by kernel_rfl⟩

theorem lifted (os : Os) (started : os.Started) (H : Type) (enc : TypeId × Value → H) (F : Stop.Interp) :
    ReturnsInHanded {} Tryd.checked os 8 .any ((OpenSpec.ofChange Rows.regexDeepSpec).preRow enc Tryd.prog Tryd.f8 Rows.regexDeepRow.domain false Rows.regexDeepRow.laid) (((OpenSpec.ofChange Rows.regexDeepSpec).at F).post enc Tryd.prog Tryd.f8 false true false false) := by
  obtain ⟨places, hx⟩ := reads os enc
  refine returnsInHanded_of_row (C := Tryd.checked) (s := OpenSpec.ofChange Rows.regexDeepSpec) own started (by kernel_rfl) Tryd.func8
    (witness_row_at (enc := enc) (C := Tryd.checked) false (laidWorld os) #[Value.int .i64 0] rfl (by kernel_rfl) (by kernel_rfl) (by kernel_rfl)
      (OpenSpec.preRow_of_cond 8 hx (by kernel_rfl) (fun k hk => by cases hk) (by kernel_rfl) (laid_met os _))) ?_
  intro W base args ds gs before hval hW _ _ _ _ _ _
  exact contract H enc W base args ds gs before hval hW

theorem said : Rows.RegexDeepSaid :=
  OpenClaim.holds_of_cond 8 Tryd.f8 rfl rfl rfl rfl rfl rfl rfl ⟨rfl, rfl, rfl, rfl, rfl⟩ rfl rfl rfl rfl rfl (by kernel_rfl) Tryd.func8 (by kernel_rfl)
    (of_decide_eq_true (by kernel_rfl)) (by unfold Func.isWrapper; first | (rw [if_pos (by decide +kernel)]; kernel_rfl) | (rw [if_neg (by decide +kernel)]; exact ⟨rfl, rfl⟩))
    (fun os started H enc _ F => by rw [OpenClaim.pre_eq_preRow]; exact lifted os started H enc F)

theorem plain (f : FuncId) (fn : Func) (hf : Tryd.pinned.checked.prog.funcNamed "milestone/milestonelaw4.RegexDeep" = some f) (hfn : Tryd.pinned.checked.prog.funcs[f]? = some fn) :
    false = Tryd.pinned.checked.prog.looks [] ∧ ∀ (j : Nat) t, fn.params[j]? = some t → Tryd.pinned.checked.prog.wantsStandIn t = false := by
  obtain rfl : f = 8 := Option.some.inj ((show Tryd.prog.funcNamed "milestone/milestonelaw4.RegexDeep" = some 8 by kernel_rfl).symm.trans hf) |>.symm
  obtain rfl : fn = Tryd.f8 := (Option.some.inj (Tryd.func8.symm.trans hfn)).symm
  refine ⟨by kernel_rfl, fun j t ht => ?_⟩
  have hall : Tryd.f8.params.all (fun t => !Tryd.prog.wantsStandIn t) = true := by kernel_rfl
  have := (Array.all_eq_true_iff_forall_mem.1 hall) t (Array.mem_of_getElem? ht)
  exact (show Tryd.prog.wantsStandIn t = false by
    cases hw : Tryd.prog.wantsStandIn t with
    | false => rfl
    | true => rw [hw] at this; cases this)

theorem card : Rows.RegexDeepCardSaid :=
  Claim7.holds_tied_plain_at .later [] _ _ _ _ said (fun _ h => by cases h) (by kernel_rfl) (fun _ h => by cases h) regexDeep_row_tie rfl ⟨rfl, rfl⟩ (by kernel_rfl) rfl plain (by kernel_rfl)
#print axioms card
end Go.Proofs.YtlgkpnlppgihcaaDoor.regexDeep
