/-
  Package hier: each of its laws for every argument; no conditions. The last text states which.
-/
import Derived.Test.YtdaglldahidmbaaHLR1
import Derived.Test.YtdaglldahidmbaaHLR2
import Derived.Test.YtdaglldahidmbaaHLR3
import Derived.Test.YtdaglldahidmbaaHLR4
import Derived.Test.YtdaglldahidmbaaHLR5
import Derived.Deep.DeepHandedRow
import Derived.OpenShut
import Derived.ProofKit
import Derived.Test.YtdaglldahidmbaaRows
import Derived.Test.YtdaglldahidmbaaChecked
set_option linter.unusedVariables false
set_option linter.unusedSimpArgs false
open Go Go.Am Go.Proofs
namespace Go.Proofs.Ytdaglldahidmbaa.hierLong
set_option maxRecDepth 100000
open Go.ChangeShapes Go.WideShapes Go.ChangeAt Go.RowKit
theorem runsL (x0 : Int) : ∀ j0 : Nat, j0 < 16 → runL x0  [got 10 (i64 ((j0 : Nat) : Int))] = some (.ret, (), some (.bool true), [.cr 16 [i64 x0, i64 16] [] (.val (i64 ((j0 : Nat) : Int)))]) := by
  intro j0 hj0
  match j0, hj0 with
  | 0, _ =>
    exact runL_0 x0
  | 1, _ =>
    exact runL_1 x0
  | 2, _ =>
    exact runL_2 x0
  | 3, _ =>
    exact runL_3 x0
  | 4, _ =>
    exact runL_4 x0
  | 5, _ =>
    exact runL_5 x0
  | 6, _ =>
    exact runL_6 x0
  | 7, _ =>
    exact runL_7 x0
  | 8, _ =>
    exact runL_8 x0
  | 9, _ =>
    exact runL_9 x0
  | 10, _ =>
    exact runL_10 x0
  | 11, _ =>
    exact runL_11 x0
  | 12, _ =>
    exact runL_12 x0
  | 13, _ =>
    exact runL_13 x0
  | 14, _ =>
    exact runL_14 x0
  | 15, _ =>
    exact runL_15 x0
  | n + 16, h => exact absurd h (by omega)
theorem main_run (x0 : Int)  : ∃ M', Go.Am.arun Try.prog [] SPL 2000 8 [i64 x0] (startMem [] 0) = some (.bool true, M') := by
  have hr0 := modI_range (x := x0) (n := 16) (by decide)
  obtain ⟨j0, hj0⟩ : ∃ j : Nat, modI x0 16 = (j : Int) := ⟨(modI x0 16).toNat, by omega⟩
  have h := runsL x0  j0 (by omega)
  unfold runL at h
  obtain ⟨M', h1, _⟩ := xrun_of (look := fun _ => ()) Try.func8 bodyL (by show Nat.ble 1 Try.f8.ntmps = true; kernel_rfl) h (.inr rfl) (hold_cons (fun M _ => call_mod rfl (by decide) (by decide) hj0 M) hold_nil)
  exact ⟨M', h1⟩
theorem contract (H : Type) (enc : TypeId × Value → H) (W : World) (base : Nat) (args : Array Value) (ds gs : List (DataW H)) (before : List MemPlace)
    (hval : ∀ (j : Nat) t v, Try.f8.params[j]? = some t → args[j]? = some v → Value.okWide Try.prog W .any base t v)
    (hW : DataW.Whole enc Try.prog Try.f8.params.toList Rows.hierLongSpec.vars false W args.toList ds gs before) :
    Calls Try.prog 8 args W fun e W' => ∃ v, e = .returned v ∧ Rows.hierLongSpec.post enc Try.prog Try.f8 false true false false W args v W' := by
  have hW' := hW
  obtain ⟨p, q, hA0, hV, rfl, hfz, hnd⟩ := hW
  have hA : DataW.TrodAll enc Try.prog W 0 (fun _ => true) true Try.f8.params.toList args.toList ds p := hA0
  have hpar : Try.f8.params = #[3] := by kernel_rfl
  rw [hpar] at hA hval
  obtain ⟨v0, vs0, d0, ds0, p0, q0, hargs, rfl, rfl, h0, r0⟩ := trodAll_cons hA
  obtain ⟨rfl, rfl, rfl⟩ := trodAll_nil r0
  obtain rfl : args = #[v0] := by cases args; simp_all
  obtain ⟨rfl, rfl⟩ := trodVars_none hV
  obtain ⟨x0, rfl, rfl, rfl, hwf0⟩ := open_int Try.underlying3 (hval 0 3 v0 rfl rfl) h0
  clear hA0
  simp only [List.append_nil] at hW'
  obtain ⟨M', hrun⟩ := main_run x0 
  refine (calls_zero noNumP mixedP (specsL _) hrun rfl rfl).mono fun e W' ⟨he, hk, _⟩ => ?_
  subst he
  exact ⟨_, rfl, post_of_kept (pa := []) (pv := []) hW' (fun _ _ _ => trodAll_cons_mk (shut_bool Try.underlying4 _) trodAll_mk0) (fun _ _ => trodAll_cons_mk (shut_int Try.underlying3 hwf0) (trodAll_mk0)) (fun _ _ => rfl) rfl hk (ok_one (by kernel_rfl) rfl (okWide_bool_mk Try.underlying4 _))⟩
end Go.Proofs.Ytdaglldahidmbaa.hierLong

set_option linter.unusedVariables false
set_option linter.unusedSimpArgs false
open Go Go.Am Go.Proofs
namespace Go.Proofs.Ytdaglldahidmbaa.hierLong
set_option maxRecDepth 100000
open Go.ChangeShapes Go.WideShapes Go.ChangeAt Go.RowKit
theorem lifted (os : Os) (started : os.Started) (H : Type) (enc : TypeId × Value → H) :
    ReturnsInHanded {} Try.checked os 8 .any (Rows.hierLongSpec.pre6 enc Try.prog Try.f8 Rows.hierLongRow.domain false) (Rows.hierLongSpec.post enc Try.prog Try.f8 false true false false) := by
  refine returnsInHanded_of_change (C := Try.checked) own' started (by kernel_rfl) Try.func8
    (ChangeSpec.witness6 (enc := enc) (C := Try.checked) false ⟨#[], #[Value.int .i64 0], []⟩ 8 (by kernel_rfl) (by kernel_rfl) (by kernel_rfl) (by kernel_rfl)) ?_
  intro W base args ds gs before hval hW _ _
  exact contract H enc W base args ds gs before hval hW
theorem holds : Rows.HierLongSaid :=
  OpenClaim.holds_of_wide 8 Try.f8 rfl rfl rfl rfl rfl rfl rfl ⟨rfl, rfl, rfl, rfl, rfl⟩ rfl rfl rfl rfl rfl (by kernel_rfl) Try.func8 (by kernel_rfl)
    (of_decide_eq_true (by kernel_rfl)) (by unfold Func.isWrapper; first | (rw [if_pos (by decide +kernel)]; kernel_rfl) | (rw [if_neg (by decide +kernel)]; exact ⟨rfl, rfl⟩))
    (fun os started H enc _ => lifted os started H enc)
#print axioms holds
end Go.Proofs.Ytdaglldahidmbaa.hierLong
