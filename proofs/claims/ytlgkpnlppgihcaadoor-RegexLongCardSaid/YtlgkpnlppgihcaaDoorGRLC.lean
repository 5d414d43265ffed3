/-
  RegexLong: two hundred letters are read, or refused at the last one, more are refused; whatever the arguments. Conditions: none beyond the card's own.
-/
import Derived.Test.YtlgkpnlppgihcaaDoorGRLR1
import Derived.Test.YtlgkpnlppgihcaaDoorGRLR2
import Derived.Test.YtlgkpnlppgihcaaDoorGRLR3
import Derived.Test.YtlgkpnlppgihcaaDoorGRLR4
import Derived.Test.YtlgkpnlppgihcaaDoorGRLR5
import Derived.Test.YtlgkpnlppgihcaaDoorGRLR6
import Derived.Test.YtlgkpnlppgihcaaDoorGRLR7
import Derived.Test.YtlgkpnlppgihcaaDoorGRLR8
import Derived.Deep.DeepHandedRow
import Derived.OpenShut
import Derived.ProofKit
import Derived.Test.YtlgkpnlppgihcaaDoorRows
import Derived.Stop.LaidErr
import Derived.Lib.LaidTab
import Derived.Test.YtlgkpnlppgihcaaDoorCards
import Derived.Test.YtlgkpnlppgihcaaDoorTie
import Derived.Test.YtlgkpnlppgihcaaDoorChecked
open Go Go.Am Go.Proofs
namespace Go.Proofs.YtlgkpnlppgihcaaDoor.regexLong
set_option maxRecDepth 100000
open Go.ChangeShapes Go.WideShapes Go.ChangeAt Go.RowKit
theorem runsL (x0 : Int) : ∀ b1 : Bool, ∀ j0 : Nat, j0 < 20 → runL x0 b1 [got 10 (i64 ((j0 : Nat) : Int))] = some (.ret, (), some (.bool true), [.cr 23 [i64 x0, i64 20] [] (.val (i64 ((j0 : Nat) : Int)))]) := by
  intro b1 j0 hj0
  cases b1 with
  | true =>
    match j0, hj0 with
    | 0, _ =>
      exact runL_true_0 x0
    | 1, _ =>
      exact runL_true_1 x0
    | 2, _ =>
      exact runL_true_2 x0
    | 3, _ =>
      exact runL_true_3 x0
    | 4, _ =>
      exact runL_true_4 x0
    | 5, _ =>
      exact runL_true_5 x0
    | 6, _ =>
      exact runL_true_6 x0
    | 7, _ =>
      exact runL_true_7 x0
    | 8, _ =>
      exact runL_true_8 x0
    | 9, _ =>
      exact runL_true_9 x0
    | 10, _ =>
      exact runL_true_10 x0
    | 11, _ =>
      exact runL_true_11 x0
    | 12, _ =>
      exact runL_true_12 x0
    | 13, _ =>
      exact runL_true_13 x0
    | 14, _ =>
      exact runL_true_14 x0
    | 15, _ =>
      exact runL_true_15 x0
    | 16, _ =>
      exact runL_true_16 x0
    | 17, _ =>
      exact runL_true_17 x0
    | 18, _ =>
      exact runL_true_18 x0
    | 19, _ =>
      exact runL_true_19 x0
    | n + 20, h => exact absurd h (by omega)
  | false =>
    match j0, hj0 with
    | 0, _ =>
      exact runL_false_0 x0
    | 1, _ =>
      exact runL_false_1 x0
    | 2, _ =>
      exact runL_false_2 x0
    | 3, _ =>
      exact runL_false_3 x0
    | 4, _ =>
      exact runL_false_4 x0
    | 5, _ =>
      exact runL_false_5 x0
    | 6, _ =>
      exact runL_false_6 x0
    | 7, _ =>
      exact runL_false_7 x0
    | 8, _ =>
      exact runL_false_8 x0
    | 9, _ =>
      exact runL_false_9 x0
    | 10, _ =>
      exact runL_false_10 x0
    | 11, _ =>
      exact runL_false_11 x0
    | 12, _ =>
      exact runL_false_12 x0
    | 13, _ =>
      exact runL_false_13 x0
    | 14, _ =>
      exact runL_false_14 x0
    | 15, _ =>
      exact runL_false_15 x0
    | 16, _ =>
      exact runL_false_16 x0
    | 17, _ =>
      exact runL_false_17 x0
    | 18, _ =>
      exact runL_false_18 x0
    | 19, _ =>
      exact runL_false_19 x0
    | n + 20, h => exact absurd h (by omega)
theorem main_run (x0 : Int) (b1 : Bool) : ∃ M', Go.Am.arun Tryd.prog [] SPL 2000 9 [i64 x0, .bool b1] (startMem [] 0) = some (.bool true, M') := by
  have hr0 := modI_range (x := x0) (n := 20) (by decide)
  obtain ⟨j0, hj0⟩ : ∃ j : Nat, modI x0 20 = (j : Int) := ⟨(modI x0 20).toNat, by omega⟩
  have h := runsL x0 b1 j0 (by omega)
  unfold runL at h
  obtain ⟨M', h1, _⟩ := xrun_of (look := fun _ => ()) Tryd.func9 bodyL (by show Nat.ble 2 Tryd.f9.ntmps = true; kernel_rfl) h (.inr rfl) (hold_cons (fun M _ => call_mod rfl (by decide) (by decide) hj0 M) hold_nil)
  exact ⟨M', h1⟩

theorem contract (H : Type) (enc : TypeId × Value → H) (W : World) (base : Nat) (args : Array Value) (ds gs : List (DataW H)) (before : List MemPlace)
    (hval : ∀ (j : Nat) t v, Tryd.f9.params[j]? = some t → args[j]? = some v → Value.okWide Tryd.prog W .any base t v)
    (hW : DataW.Whole enc Tryd.prog Tryd.f9.params.toList Rows.regexLongSpec.vars false W args.toList ds gs before) :
    Calls Tryd.prog 9 args W fun e W' => ∃ v, e = .returned v ∧ Rows.regexLongSpec.post enc Tryd.prog Tryd.f9 false true false false W args v W' := by
  have hW' := hW
  obtain ⟨p, q, hA0, hV, rfl, hfz, hnd⟩ := hW
  have hA : DataW.TrodAll enc Tryd.prog W 0 (fun _ => true) true Tryd.f9.params.toList args.toList ds p := hA0
  have hpar : Tryd.f9.params = #[3, 4] := by kernel_rfl
  rw [hpar] at hA hval
  obtain ⟨v0, vs0, d0, ds0, p0, q0, hargs, rfl, rfl, h0, r0⟩ := trodAll_cons hA
  obtain ⟨v1, vs1, d1, ds1, p1, q1, rfl, rfl, rfl, h1, r1⟩ := trodAll_cons r0
  obtain ⟨rfl, rfl, rfl⟩ := trodAll_nil r1
  obtain rfl : args = #[v0, v1] := by cases args; simp_all
  obtain ⟨rfl, rfl⟩ := trodVars_none hV
  obtain ⟨x0, rfl, rfl, rfl, hwf0⟩ := open_int Tryd.underlying3 (hval 0 3 v0 rfl rfl) h0
  obtain ⟨x1, rfl, rfl, rfl⟩ := open_bool Tryd.underlying4 (hval 1 4 v1 rfl rfl) h1
  clear hA0
  simp only [List.append_nil] at hW'
  obtain ⟨M', hrun⟩ := main_run x0 x1
  refine (calls_zero noNumP mixedP (specsL _) hrun rfl rfl).mono fun e W' ⟨he, hk, _⟩ => ?_
  subst he
  exact ⟨_, rfl, post_of_kept (pa := []) (pv := []) hW' (fun _ _ _ => trodAll_cons_mk (shut_bool Tryd.underlying4 _) trodAll_mk0) (fun _ _ => trodAll_cons_mk (shut_int Tryd.underlying3 hwf0) (trodAll_cons_mk (shut_bool Tryd.underlying4 _) (trodAll_mk0))) (fun _ _ => rfl) rfl hk (ok_one (by kernel_rfl) rfl (okWide_bool_mk Tryd.underlying4 _))⟩
end Go.Proofs.YtlgkpnlppgihcaaDoor.regexLong

open Go Go.Am Go.Proofs
namespace Go.Proofs.YtlgkpnlppgihcaaDoor.regexLong
set_option maxRecDepth 100000
open Go.ChangeShapes Go.WideShapes Go.ChangeAt Go.RowKit

def flatD : Nat → DataW Unit → List Value
  | 0, _ => []
  | n + 1, .agg l => l.flatMap (flatD n)
  | _ + 1, .lit (.int k z) => [.int k z]
  | _, _ => []
def lay (c : List Value) : Obj → Obj
  | .cells _ t frozen => .cells c.toArray t frozen
  | o => o
noncomputable def laidWorld (os : Os) : World :=
  let w0 := World.holding Tryd.prog os ⟨#[], #[], []⟩
  { w0 with heap := (((w0.heap.modify 0 (lay (flatD 3 Rows.laid_internal_strconv_uint64pow10))).modify 2 (lay (flatD 3 Rows.laid_math_bits_deBruijn32tab))).modify 3 (lay (flatD 3 Rows.laid_math_bits_deBruijn64tab))) }
theorem laid_met (os : Os) (args : Array Value) : laidMet Tryd.prog Rows.regexLongRow.laid ((laidWorld os).forCall (fun _ _ => 0) ⟨#[], args, []⟩).memory :=
  laidMet_of_run' 8 (by kernel_rfl) (by kernel_rfl)

theorem own : ownKnob Tryd.prog.godebug = none := by kernel_rfl
theorem reads (os : Os) {H : Type} (enc : TypeId × Value → H) : ∃ places, DataW.whole enc Tryd.prog ((laidWorld os).forCall (fun _ _ => 0) ⟨#[], #[Value.int .i64 0, Value.bool false], []⟩).memory Tryd.f9.params.toList Rows.regexLongSpec.vars false (#[Value.int .i64 0, Value.bool false] : Array Value).toList 8 = some ([.lit (.int .i64 0), .lit (.bool false)], [], places) :=
  ⟨[], by kernel_rfl⟩

theorem lifted (os : Os) (started : os.Started) (H : Type) (enc : TypeId × Value → H) (F : Stop.Interp) :
    ReturnsInHanded {} Tryd.checked os 9 .any ((OpenSpec.ofChange Rows.regexLongSpec).preRow enc Tryd.prog Tryd.f9 Rows.regexLongRow.domain false Rows.regexLongRow.laid) (((OpenSpec.ofChange Rows.regexLongSpec).at F).post enc Tryd.prog Tryd.f9 false true false false) := by
  obtain ⟨places, hx⟩ := reads os enc
  refine returnsInHanded_of_row (C := Tryd.checked) (s := OpenSpec.ofChange Rows.regexLongSpec) own started (by kernel_rfl) Tryd.func9
    (witness_row_at (enc := enc) (C := Tryd.checked) false (laidWorld os) #[Value.int .i64 0, Value.bool false] rfl (by kernel_rfl) (by kernel_rfl) (by kernel_rfl)
      (OpenSpec.preRow_of_cond 8 hx (by kernel_rfl) (fun k hk => by cases hk) (by kernel_rfl) (laid_met os _))) ?_
  intro W base args ds gs before hval hW _ _ _ _ _ _
  exact contract H enc W base args ds gs before hval hW

theorem said : Rows.RegexLongSaid :=
  OpenClaim.holds_of_cond 9 Tryd.f9 rfl rfl rfl rfl rfl rfl rfl ⟨rfl, rfl, rfl, rfl, rfl⟩ rfl rfl rfl rfl rfl (by kernel_rfl) Tryd.func9 (by kernel_rfl)
    (of_decide_eq_true (by kernel_rfl)) (by unfold Func.isWrapper; first | (rw [if_pos (by decide +kernel)]; kernel_rfl) | (rw [if_neg (by decide +kernel)]; exact ⟨rfl, rfl⟩))
    (fun os started H enc _ F => by rw [OpenClaim.pre_eq_preRow]; exact lifted os started H enc F)

theorem plain (f : FuncId) (fn : Func) (hf : Tryd.pinned.checked.prog.funcNamed "milestone/milestonelaw4.RegexLong" = some f) (hfn : Tryd.pinned.checked.prog.funcs[f]? = some fn) :
    false = Tryd.pinned.checked.prog.looks [] ∧ ∀ (j : Nat) t, fn.params[j]? = some t → Tryd.pinned.checked.prog.wantsStandIn t = false := by
  obtain rfl : f = 9 := Option.some.inj ((show Tryd.prog.funcNamed "milestone/milestonelaw4.RegexLong" = some 9 by kernel_rfl).symm.trans hf) |>.symm
  obtain rfl : fn = Tryd.f9 := (Option.some.inj (Tryd.func9.symm.trans hfn)).symm
  refine ⟨by kernel_rfl, fun j t ht => ?_⟩
  have hall : Tryd.f9.params.all (fun t => !Tryd.prog.wantsStandIn t) = true := by kernel_rfl
  have := (Array.all_eq_true_iff_forall_mem.1 hall) t (Array.mem_of_getElem? ht)
  exact (show Tryd.prog.wantsStandIn t = false by
    cases hw : Tryd.prog.wantsStandIn t with
    | false => rfl
    | true => rw [hw] at this; cases this)

theorem card : Rows.RegexLongCardSaid :=
  Claim7.holds_tied_plain_at .later [] _ _ _ _ said (fun _ h => by cases h) (by kernel_rfl) (fun _ h => by cases h) regexLong_row_tie rfl ⟨rfl, rfl⟩ (by kernel_rfl) rfl plain (by kernel_rfl)
#print axioms card
end Go.Proofs.YtlgkpnlppgihcaaDoor.regexLong
