/-
  Package adj: each of its laws for every argument; no conditions. The last text states which.
-/
import Derived.Test.YtipnhelkganmdaaU7
import Derived.Test.YtipnhelkganmdaaGAmMk
import Derived.Deep.DeepHandedRow
import Derived.OpenShut
import Derived.ProofKit
import Derived.Test.YtipnhelkganmdaaRows
import Derived.Test.YtipnhelkganmdaaChecked
open Go Go.Am Go.Proofs
namespace Go.Proofs.Ytipnhelkganmdaa.adjLine
set_option maxRecDepth 100000
set_option linter.unusedVariables false
open Go.ChangeShapes Go.WideShapes Go.ChangeAt Go.RowKit
theorem law_all (n set fro : Int) {M : Mem} (hM : MemOk M) : ∃ v M', Ev Try.prog [] 8 [i64 n, i64 set, i64 fro] M v M' ∧ v = .bool true := by
  have hk := lineK_range n
  have hr := modI_range (x := fro) (n := ((lineK n : Nat) : Int)) (by omega)
  obtain ⟨vv, hv⟩ : ∃ k : Nat, modI fro ((lineK n : Nat) : Int) = k := ⟨(modI fro ((lineK n : Nat) : Int)).toNat, by omega⟩
  obtain ⟨uu, he⟩ := ends_ex (lineK n) (modI set 32) (lineK n - vv) vv (by omega) rfl
  have h1 := he.le
  have h2 := he.lt
  have e1 : IntKind.wrap .i64 (((uu : Nat) : Int) - ((vv : Nat) : Int)) = ((uu - vv : Nat) : Int) := by
    rw [show ((uu : Nat) : Int) - ((vv : Nat) : Int) = ((uu - vv : Nat) : Int) by omega]
    exact Go.Am.wrap_small (by omega) (by omega)
  obtain ⟨v, M', h1, _, _, h2⟩ := w8 n set fro vv uu hM hv he (by rw [e1, wrap_succ (by omega)]; exact beq_self_eq_true _)
  exact ⟨v, M', h1, h2⟩
theorem contract (H : Type) (enc : TypeId × Value → H) (W : World) (base : Nat) (args : Array Value) (ds gs : List (DataW H)) (before : List MemPlace)
    (hval : ∀ (j : Nat) t v, Try.f8.params[j]? = some t → args[j]? = some v → Value.okWide Try.prog W .any base t v)
    (hW : DataW.Whole enc Try.prog Try.f8.params.toList Rows.adjLineSpec.vars false W args.toList ds gs before) :
    Calls Try.prog 8 args W fun e W' => ∃ v, e = .returned v ∧ Rows.adjLineSpec.post enc Try.prog Try.f8 false true false false W args v W' := by
  have hW' := hW
  obtain ⟨p, q, hA0, hV, rfl, hfz, hnd⟩ := hW
  have hpar : Try.f8.params = #[3, 3, 3] := by kernel_rfl
  have hA : DataW.TrodAll enc Try.prog W 0 (fun _ => true) true [3, 3, 3] args.toList ds p := by rw [hpar] at hA0; exact hA0
  rw [hpar] at hval
  have hAll := hA
  obtain ⟨v0, vs0, d0, ds0, p0, q0, hargs, rfl, rfl, h0, r0⟩ := trodAll_cons hA
  obtain ⟨v1, vs1, d1, ds1, p1, q1, rfl, rfl, rfl, h1, r1⟩ := trodAll_cons r0
  obtain ⟨v2, vs2, d2, ds2, p2, q2, rfl, rfl, rfl, h2, r2⟩ := trodAll_cons r1
  obtain ⟨rfl, rfl, rfl⟩ := trodAll_nil r2
  obtain rfl : args = #[v0, v1, v2] := by cases args; simp_all
  obtain ⟨rfl, rfl⟩ := trodVars_none hV
  obtain ⟨x0, rfl, _, _, _⟩ := open_int Try.underlying3 (hval 0 3 v0 rfl rfl) h0
  obtain ⟨x1, rfl, _, _, _⟩ := open_int Try.underlying3 (hval 1 3 v1 rfl rfl) h1
  obtain ⟨x2, rfl, _, _, _⟩ := open_int Try.underlying3 (hval 2 3 v2 rfl rfl) h2
  have J0 : Laid Try.prog W 0 0 [] (fun _ => none) := Laid.nil 0
  obtain ⟨v', M', hev, hv1⟩ := law_all x0 x1 x2 (MemOk.start _ _) 
  subst hv1
  have hlr : LRel (fun _ => none) [i64 x0, i64 x1, i64 x2] [i64 x0, i64 x1, i64 x2] := (.cons (.leaf rfl) (.cons (.leaf rfl) (.cons (.leaf rfl) .nil)))
  refine (calls_ev J0.knows hev hlr).mono fun e W' ⟨φ', v', he, hk, hv, _, _⟩ => ?_
  obtain rfl := hv.bool_inv
  refine ⟨_, he, post_of_kept (pv := []) hW' (fun _ _ _ => trodAll_cons_mk (shut_bool Try.underlying4 _) trodAll_mk0) (fun sp hsp => ?_) (fun _ _ => rfl) rfl hk (ok_one (by kernel_rfl) rfl (okWide_bool_mk Try.underlying4 _))⟩
  rw [hpar]
  exact trodAll_kept laidOut hk (readableB (by kernel_rfl)) hAll (fun p hp => hW'.lt p (List.mem_append_left _ hp)) (fun p hp => hsp p (List.mem_append_left _ hp))
theorem lifted (os : Os) (started : os.Started) (H : Type) (enc : TypeId × Value → H) :
    ReturnsInHanded {} Try.checked os 8 .any (Rows.adjLineSpec.pre6 enc Try.prog Try.f8 Rows.adjLineRow.domain false) (Rows.adjLineSpec.post enc Try.prog Try.f8 false true false false) := by
  refine returnsInHanded_of_change (C := Try.checked) own' started (by kernel_rfl) Try.func8
    (ChangeSpec.witness6 (enc := enc) (C := Try.checked) false ⟨#[], #[.int .i64 0, .int .i64 0, .int .i64 0], []⟩ 8 (by kernel_rfl) (by kernel_rfl) (by kernel_rfl) (by kernel_rfl)) ?_
  intro W base args ds gs before hval hW _ _
  exact contract H enc W base args ds gs before hval hW
theorem holds : Rows.AdjLineSaid :=
  OpenClaim.holds_of_wide 8 Try.f8 rfl rfl rfl rfl rfl rfl rfl ⟨rfl, rfl, rfl, rfl, rfl⟩ rfl rfl rfl rfl rfl (by kernel_rfl) Try.func8 (by kernel_rfl)
    (of_decide_eq_true (by kernel_rfl)) (by unfold Func.isWrapper; first | (rw [if_pos (by decide +kernel)]; kernel_rfl) | (rw [if_neg (by decide +kernel)]; exact ⟨rfl, rfl⟩))
    (fun os started H enc _ => lifted os started H enc)
#print axioms holds
end Go.Proofs.Ytipnhelkganmdaa.adjLine
