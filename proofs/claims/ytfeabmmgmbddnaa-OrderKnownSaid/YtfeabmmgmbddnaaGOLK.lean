/-
  Package order: each of its laws for every argument; no conditions. The last text states which.
-/
import Derived.Test.YtfeabmmgmbddnaaOPO
import Derived.Test.YtfeabmmgmbddnaaGAmMk
import Derived.Deep.DeepHandedRow
import Derived.OpenShut
import Derived.ProofKit
import Derived.Test.YtfeabmmgmbddnaaRows
import Derived.Test.YtfeabmmgmbddnaaChecked
open Go Go.Am Go.Proofs
namespace Go.Proofs.Ytfeabmmgmbddnaa.orderKnown
set_option maxRecDepth 100000
set_option linter.unusedVariables false
open Go.ChangeShapes Go.WideShapes Go.ChangeAt Go.RowKit
theorem law_all (x : Int) {M : Mem} (hM : MemOk M) : ∃ v M', Ev Try.prog [] 6 [i64 x] M v M' ∧ v = .bool true := by
  have hr := modI_range (x := x) (n := 6) (by decide)
  have h6 : modI x 6 = 0 ∨ modI x 6 = 1 ∨ modI x 6 = 2 ∨ modI x 6 = 3 ∨ modI x 6 = 4 ∨ modI x 6 = 5 := by omega
  rcases h6 with h | h | h | h | h | h
  · obtain ⟨v, M', h1, _, _, h2⟩ := w6_0 x hM h; exact ⟨v, M', h1, h2⟩
  · obtain ⟨v, M', h1, _, _, h2⟩ := w6_1 x hM h; exact ⟨v, M', h1, h2⟩
  · obtain ⟨v, M', h1, _, _, h2⟩ := w6_2 x hM h; exact ⟨v, M', h1, h2⟩
  · obtain ⟨v, M', h1, _, _, h2⟩ := w6_3 x hM h; exact ⟨v, M', h1, h2⟩
  · obtain ⟨v, M', h1, _, _, h2⟩ := w6_4 x hM h; exact ⟨v, M', h1, h2⟩
  · obtain ⟨v, M', h1, _, _, h2⟩ := w6_5 x hM h; exact ⟨v, M', h1, h2⟩
theorem contract (H : Type) (enc : TypeId × Value → H) (W : World) (base : Nat) (args : Array Value) (ds gs : List (DataW H)) (before : List MemPlace)
    (hval : ∀ (j : Nat) t v, Try.f6.params[j]? = some t → args[j]? = some v → Value.okWide Try.prog W .any base t v)
    (hW : DataW.Whole enc Try.prog Try.f6.params.toList Rows.orderKnownSpec.vars false W args.toList ds gs before) :
    Calls Try.prog 6 args W fun e W' => ∃ v, e = .returned v ∧ Rows.orderKnownSpec.post enc Try.prog Try.f6 false true false false W args v W' := by
  have hW' := hW
  obtain ⟨p, q, hA0, hV, rfl, hfz, hnd⟩ := hW
  have hpar : Try.f6.params = #[3] := by kernel_rfl
  have hA : DataW.TrodAll enc Try.prog W 0 (fun _ => true) true [3] args.toList ds p := by rw [hpar] at hA0; exact hA0
  rw [hpar] at hval
  have hAll := hA
  obtain ⟨v0, vs0, d0, ds0, p0, q0, hargs, rfl, rfl, h0, r0⟩ := trodAll_cons hA
  obtain ⟨rfl, rfl, rfl⟩ := trodAll_nil r0
  obtain rfl : args = #[v0] := by cases args; simp_all
  obtain ⟨rfl, rfl⟩ := trodVars_none hV
  obtain ⟨x0, rfl, _, _, _⟩ := open_int Try.underlying3 (hval 0 3 v0 rfl rfl) h0
  have J0 : Laid Try.prog W 0 0 [] (fun _ => none) := Laid.nil 0
  obtain ⟨v', M', hev, hv1⟩ := law_all x0 (MemOk.start _ _) 
  subst hv1
  have hlr : LRel (fun _ => none) [i64 x0] [i64 x0] := (.cons (.leaf rfl) .nil)
  refine (calls_ev J0.knows hev hlr).mono fun e W' ⟨φ', v', he, hk, hv, _, _⟩ => ?_
  obtain rfl := hv.bool_inv
  refine ⟨_, he, post_of_kept (pv := []) hW' (fun _ _ _ => trodAll_cons_mk (shut_bool Try.underlying4 _) trodAll_mk0) (fun sp hsp => ?_) (fun _ _ => rfl) rfl hk (ok_one (by kernel_rfl) rfl (okWide_bool_mk Try.underlying4 _))⟩
  rw [hpar]
  exact trodAll_kept laidOut hk (readableB (by kernel_rfl)) hAll (fun p hp => hW'.lt p (List.mem_append_left _ hp)) (fun p hp => hsp p (List.mem_append_left _ hp))
theorem lifted (os : Os) (started : os.Started) (H : Type) (enc : TypeId × Value → H) :
    ReturnsInHanded {} Try.checked os 6 .any (Rows.orderKnownSpec.pre6 enc Try.prog Try.f6 Rows.orderKnownRow.domain false) (Rows.orderKnownSpec.post enc Try.prog Try.f6 false true false false) := by
  refine returnsInHanded_of_change (C := Try.checked) own' started (by kernel_rfl) Try.func6
    (ChangeSpec.witness6 (enc := enc) (C := Try.checked) false ⟨#[], #[.int .i64 0], []⟩ 8 (by kernel_rfl) (by kernel_rfl) (by kernel_rfl) (by kernel_rfl)) ?_
  intro W base args ds gs before hval hW _ _
  exact contract H enc W base args ds gs before hval hW
theorem holds : Rows.OrderKnownSaid :=
  OpenClaim.holds_of_wide 6 Try.f6 rfl rfl rfl rfl rfl rfl rfl ⟨rfl, rfl, rfl, rfl, rfl⟩ rfl rfl rfl rfl rfl (by kernel_rfl) Try.func6 (by kernel_rfl)
    (of_decide_eq_true (by kernel_rfl)) (by unfold Func.isWrapper; first | (rw [if_pos (by decide +kernel)]; kernel_rfl) | (rw [if_neg (by decide +kernel)]; exact ⟨rfl, rfl⟩))
    (fun os started H enc _ => lifted os started H enc)
#print axioms holds
end Go.Proofs.Ytfeabmmgmbddnaa.orderKnown
