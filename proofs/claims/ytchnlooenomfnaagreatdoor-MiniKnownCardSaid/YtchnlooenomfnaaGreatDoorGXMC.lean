/-
  What is proved: MiniKnown: these sixteen texts' machines have just so many states, and are steady, or not. For every argument; one laid table (math/bits) is tied by the card.
-/
import Derived.Test.YtchnlooenomfnaaGreatDoorGXMR1
import Derived.Test.YtchnlooenomfnaaGreatDoorGXMR3
import Derived.Test.YtchnlooenomfnaaGreatDoorGXMR5
import Derived.Test.YtchnlooenomfnaaGreatDoorGXMR7
import Derived.Test.YtchnlooenomfnaaGreatDoorGXMR9
import Derived.Test.YtchnlooenomfnaaGreatDoorGXMR11
import Derived.Test.YtchnlooenomfnaaGreatDoorGXMR13
import Derived.Test.YtchnlooenomfnaaGreatDoorGXMR15
import Derived.Deep.DeepHandedRow
import Derived.OpenShut
import Derived.ProofKit
import Derived.Test.YtchnlooenomfnaaGreatDoorRows
import Derived.Lib.LaidTab
import Derived.Stop.LaidErr
import Derived.Test.YtchnlooenomfnaaGreatDoorCards
import Derived.Test.YtchnlooenomfnaaGreatDoorTie
import Derived.Test.YtchnlooenomfnaaGreatDoorChecked
open Go Go.Am Go.Proofs
namespace Go.Proofs.YtchnlooenomfnaaGreatDoor.miniKnown
set_option maxRecDepth 100000
open Go.ChangeShapes Go.WideShapes Go.ChangeAt Go.RowKit
theorem runsL (e : TypeId) (x0 : Int) : ∀ j0 : Nat, j0 < 16 → runL e x0  [got 26 (i64 ((j0 : Nat) : Int))] = some (.ret, (), some (.bool true), [.cr 29 [i64 x0, i64 16] [] (.val (i64 ((j0 : Nat) : Int)))]) := by
  intro j0 hj0
  match j0, hj0 with
  | 0, _ =>
    exact runL_0 e x0
  | 1, _ =>
    exact runL_1 e x0
  | 2, _ =>
    exact runL_2 e x0
  | 3, _ =>
    exact runL_3 e x0
  | 4, _ =>
    exact runL_4 e x0
  | 5, _ =>
    exact runL_5 e x0
  | 6, _ =>
    exact runL_6 e x0
  | 7, _ =>
    exact runL_7 e x0
  | 8, _ =>
    exact runL_8 e x0
  | 9, _ =>
    exact runL_9 e x0
  | 10, _ =>
    exact runL_10 e x0
  | 11, _ =>
    exact runL_11 e x0
  | 12, _ =>
    exact runL_12 e x0
  | 13, _ =>
    exact runL_13 e x0
  | 14, _ =>
    exact runL_14 e x0
  | 15, _ =>
    exact runL_15 e x0
  | n + 16, h => exact absurd h (by omega)
theorem main_run (e : TypeId) (x0 : Int)  : ∃ M', Go.Am.arun Tryz.prog [0] SPL 2000 9 [i64 x0] (memT e) = some (.bool true, M') := by
  have hr0 := modI_range (x := x0) (n := 16) (by decide)
  obtain ⟨j0, hj0⟩ : ∃ j : Nat, modI x0 16 = (j : Int) := ⟨(modI x0 16).toNat, by omega⟩
  have h := runsL e x0  j0 (by omega)
  unfold runL at h
  obtain ⟨M', h1, _⟩ := xrun_of (look := fun _ => ()) Tryz.func9 bodyL (by show Nat.ble 1 Tryz.f9.ntmps = true; kernel_rfl) h (.inr rfl) (hold_cons (fun M _ => call_mod rfl (by decide) (by decide) hj0 M) hold_nil)
  exact ⟨M', h1⟩

theorem heap_of_var {P : Program} {W : World} {n : String} {g : Nat} {cs : Array Value} (hg : P.globalNamed n = some g) (h : W.var? P n = some cs) : ∃ t fr, W.heap[g]? = some (.cells cs t fr) := by
  unfold World.var? at h
  rw [hg] at h
  simp only [Option.bind_some] at h
  split at h
  · rename_i c t fr hc
    cases h
    exact ⟨_, _, hc⟩
  · cases h
theorem knowsT {W : World} (hL : laidMet Tryz.prog Rows.miniKnownRow.laid W) : ∃ φ e, Knows1 Tryz.prog [0] φ [(0, tabB e)] 1 W := by
  have g0 : Tryz.prog.globalNamed "math/bits.deBruijn64tab" = some 0 := by kernel_rfl
  have htab := Lib.tabIs_of_head (k := .u8) (zs := [0, 1, 56, 2, 57, 49, 28, 3, 61, 58, 42, 50, 38, 29, 17, 4, 62, 47, 59, 36, 45, 43, 51, 22, 53, 39, 33, 30, 24, 18, 12, 5, 63, 55, 48, 27, 60, 41, 37, 16, 46, 35, 44, 21, 52, 32, 23, 11, 54, 26, 40, 15, 34, 20, 31, 10, 25, 14, 19, 9, 13, 8, 7, 6]) g0 (by kernel_rfl) Tryz.underlying235 Tryz.underlying5 (by kernel_rfl) (by kernel_rfl) hL
  obtain ⟨t0, f0, h0⟩ := heap_of_var g0 htab
  refine ⟨fun id => if id = 0 then some ⟨0, 0, 64, 1⟩ else none, t0, fun p hp => ?_, fun p hp => ?_, fun g hg => ?_, fun id hid => ?_⟩
  · simp only [List.mem_cons, List.not_mem_nil, or_false] at hp
    subst hp
    exact ⟨_, if_pos rfl, BRel.table h0 (LRel.refl_flat _ _ (by kernel_rfl))⟩
  · simp only [List.mem_cons, List.not_mem_nil, or_false] at hp
    subst hp
    exact ⟨rfl, rfl⟩
  · simp only [List.mem_cons, List.not_mem_nil, or_false] at hg
    subst hg
    exact ⟨by decide, _, if_pos rfl, rfl, rfl⟩
  · exact if_neg (by omega)

theorem contract (H : Type) (enc : TypeId × Value → H) (W : World) (base : Nat) (args : Array Value) (ds gs : List (DataW H)) (before : List MemPlace)
    (hval : ∀ (j : Nat) t v, Tryz.f9.params[j]? = some t → args[j]? = some v → Value.okWide Tryz.prog W .any base t v)
    (hW : DataW.Whole enc Tryz.prog Tryz.f9.params.toList Rows.miniKnownSpec.vars false W args.toList ds gs before) (hL : laidMet Tryz.prog Rows.miniKnownRow.laid W) :
    Calls Tryz.prog 9 args W fun e W' => ∃ v, e = .returned v ∧ Rows.miniKnownSpec.post enc Tryz.prog Tryz.f9 false true false false W args v W' := by
  have hW' := hW
  obtain ⟨p, q, hA0, hV, rfl, hfz, hnd⟩ := hW
  have hA : DataW.TrodAll enc Tryz.prog W 0 (fun _ => true) true Tryz.f9.params.toList args.toList ds p := hA0
  have hpar : Tryz.f9.params = #[3] := by kernel_rfl
  rw [hpar] at hA hval
  obtain ⟨v0, vs0, d0, ds0, p0, q0, hargs, rfl, rfl, h0, r0⟩ := trodAll_cons hA
  obtain ⟨rfl, rfl, rfl⟩ := trodAll_nil r0
  obtain rfl : args = #[v0] := by cases args; simp_all
  obtain ⟨rfl, rfl⟩ := trodVars_none hV
  obtain ⟨x0, rfl, rfl, rfl, hwf0⟩ := open_int Tryz.underlying3 (hval 0 3 v0 rfl rfl) h0
  clear hA0
  simp only [List.append_nil] at hW'
  obtain ⟨φ, te, hK⟩ := knowsT hL
  obtain ⟨M', hrun⟩ := main_run te x0 
  refine (calls_start' noNumP mixedP (specsL _) hK hrun (args' := [i64 x0]) (LRel.refl_flat _ _ rfl)).mono fun e W' ⟨φ', v', he, hk, _, hv, _⟩ => ?_
  obtain rfl := hv.bool_inv
  subst he
  exact ⟨_, rfl, post_of_kept (pa := []) (pv := []) hW' (fun _ _ _ => trodAll_cons_mk (shut_bool Tryz.underlying4 _) trodAll_mk0) (fun _ _ => trodAll_cons_mk (shut_int Tryz.underlying3 hwf0) (trodAll_mk0)) (fun _ _ => rfl) rfl hk (ok_one (by kernel_rfl) rfl (okWide_bool_mk Tryz.underlying4 _))⟩
end Go.Proofs.YtchnlooenomfnaaGreatDoor.miniKnown

open Go Go.Am Go.Proofs
namespace Go.Proofs.YtchnlooenomfnaaGreatDoor.miniKnown
set_option maxRecDepth 100000
open Go.ChangeShapes Go.WideShapes Go.ChangeAt Go.RowKit

def flatD : Nat → DataW Unit → List Value
  | 0, _ => []
  | n + 1, .agg l => l.flatMap (flatD n)
  | _ + 1, .lit (.int k z) => [.int k z]
  | _, _ => []
def lay (c : List Value) : Obj → Obj
  | .cells _ t frozen => .cells c.toArray t frozen
  | o => o
noncomputable def laidWorld (os : Os) : World :=
  let w0 := World.holding Tryz.prog os ⟨#[], #[], []⟩
  { w0 with heap := (w0.heap.modify 0 (lay (flatD 3 Rows.laid_math_bits_deBruijn64tab))) }
theorem laid_met (os : Os) (args : Array Value) : laidMet Tryz.prog Rows.miniKnownRow.laid ((laidWorld os).forCall (fun _ _ => 0) ⟨#[], args, []⟩).memory :=
  laidMet_of_run' 8 (by kernel_rfl) (by kernel_rfl)

theorem own : ownKnob Tryz.prog.godebug = none := by kernel_rfl
theorem reads (os : Os) {H : Type} (enc : TypeId × Value → H) : ∃ places, DataW.whole enc Tryz.prog ((laidWorld os).forCall (fun _ _ => 0) ⟨#[], #[Value.int .i64 0], []⟩).memory Tryz.f9.params.toList Rows.miniKnownSpec.vars false (#[Value.int .i64 0] : Array Value).toList 8 = some ([.lit (.int .i64 0)], [], places) :=
  ⟨[], by kernel_rfl⟩

theorem lifted (os : Os) (started : os.Started) (H : Type) (enc : TypeId × Value → H) (F : Stop.Interp) :
    ReturnsInHanded {} Tryz.checked os 9 .any ((OpenSpec.ofChange Rows.miniKnownSpec).preRow enc Tryz.prog Tryz.f9 Rows.miniKnownRow.domain false Rows.miniKnownRow.laid) (((OpenSpec.ofChange Rows.miniKnownSpec).at F).post enc Tryz.prog Tryz.f9 false true false false) := by
  obtain ⟨places, hx⟩ := reads os enc
  refine returnsInHanded_of_row (C := Tryz.checked) (s := OpenSpec.ofChange Rows.miniKnownSpec) own started (by kernel_rfl) Tryz.func9
    (witness_row_at (enc := enc) (C := Tryz.checked) false (laidWorld os) #[Value.int .i64 0] rfl (by kernel_rfl) (by kernel_rfl) (by kernel_rfl)
      (OpenSpec.preRow_of_cond 8 hx (by kernel_rfl) (fun k hk => by cases hk) (by kernel_rfl) (laid_met os _))) ?_
  intro W base args ds gs before hval hW _ _ _ hL _ _
  exact contract H enc W base args ds gs before hval hW hL

theorem said : Rows.MiniKnownSaid :=
  OpenClaim.holds_of_cond 9 Tryz.f9 rfl rfl rfl rfl rfl rfl rfl ⟨rfl, rfl, rfl, rfl, rfl⟩ rfl rfl rfl rfl rfl (by kernel_rfl) Tryz.func9 (by kernel_rfl)
    (of_decide_eq_true (by kernel_rfl)) (by unfold Func.isWrapper; first | (rw [if_pos (by decide +kernel)]; kernel_rfl) | (rw [if_neg (by decide +kernel)]; exact ⟨rfl, rfl⟩))
    (fun os started H enc _ F => by rw [OpenClaim.pre_eq_preRow]; exact lifted os started H enc F)

theorem plain (f : FuncId) (fn : Func) (hf : Tryz.pinned.checked.prog.funcNamed "milestone/milestonelaw8.MiniKnown" = some f) (hfn : Tryz.pinned.checked.prog.funcs[f]? = some fn) :
    false = Tryz.pinned.checked.prog.looks [] ∧ ∀ (j : Nat) t, fn.params[j]? = some t → Tryz.pinned.checked.prog.wantsStandIn t = false := by
  obtain rfl : f = 9 := Option.some.inj ((show Tryz.prog.funcNamed "milestone/milestonelaw8.MiniKnown" = some 9 by kernel_rfl).symm.trans hf) |>.symm
  obtain rfl : fn = Tryz.f9 := (Option.some.inj (Tryz.func9.symm.trans hfn)).symm
  refine ⟨by kernel_rfl, fun j t ht => ?_⟩
  have hall : Tryz.f9.params.all (fun t => !Tryz.prog.wantsStandIn t) = true := by kernel_rfl
  have := (Array.all_eq_true_iff_forall_mem.1 hall) t (Array.mem_of_getElem? ht)
  exact (show Tryz.prog.wantsStandIn t = false by
    cases hw : Tryz.prog.wantsStandIn t with
    | false => rfl
    | true => rw [hw] at this; cases this)

theorem card : Rows.MiniKnownCardSaid :=
  Claim7.holds_tied_plain_at .later [] _ _ _ _ said (fun _ h => by cases h) (by kernel_rfl) (fun _ h => by cases h) miniKnown_row_tie rfl ⟨rfl, rfl⟩ (by kernel_rfl) rfl plain (by kernel_rfl)
#print axioms card
end Go.Proofs.YtchnlooenomfnaaGreatDoor.miniKnown
