/-
  What is proved: MiniSteady: a machine of Make's is steady just if a letter twice is a letter once: for every x, y, every word. For every argument; one laid table (math/bits) is tied by the card.
-/
import Derived.Test.YtchnlooenomfnaaGreatDoorSF9
import Derived.Test.YtchnlooenomfnaaGreatDoorGXD
import Derived.Stop.LaidErr
import Derived.Lib.LaidTab
import Derived.Test.YtchnlooenomfnaaGreatDoorCards
import Derived.Test.YtchnlooenomfnaaGreatDoorTie
import Derived.Test.YtchnlooenomfnaaGreatDoorChecked
set_option linter.unusedVariables false
set_option linter.unusedSimpArgs false
open Go Go.Am Go.Proofs
namespace Go.Proofs.YtchnlooenomfnaaGreatDoor.miniSteady
set_option maxRecDepth 100000
open Go.ChangeShapes Go.WideShapes Go.ChangeAt Go.RowKit
theorem law_all (x y : Int) {a : Option Addr} {c : Nat} {l : List (List Int)} {aw : Option Addr} {cw : Nat} {lw : List (List Int)} {e : TypeId} {M : Mem} (hM : MemOk M) (hT : M.get 0 = some (tabB e)) (hs : FlatAt 1 M (.slice a l.length c) l) (hw : FlatAt 1 M (.slice aw lw.length cw) lw) :
    ∃ M', Ev Tryz.prog [0] 10 [i64 x, .slice a l.length c, i64 y, .slice aw lw.length cw] M (.bool true) M' := by
  obtain ⟨ns, rfl⟩ := ones hs.wide
  obtain ⟨ws, rfl⟩ := ones hw.wide
  rw [List.length_map] at hs hw ⊢
  rw [List.length_map]
  exact w10_all x a c ns y aw cw ws e hM hT hs hw
theorem contract (H : Type) (enc : TypeId × Value → H) (W : World) (base : Nat) (args : Array Value) (ds gs : List (DataW H)) (before : List MemPlace)
    (hval : ∀ (j : Nat) t v, Tryz.f10.params[j]? = some t → args[j]? = some v → Value.okWide Tryz.prog W .any base t v)
    (hW : DataW.Whole enc Tryz.prog Tryz.f10.params.toList Rows.miniSteadySpec.vars false W args.toList ds gs before) (hL : laidMet Tryz.prog Rows.miniSteadyRow.laid W) :
    Calls Tryz.prog 10 args W fun e W' => ∃ v, e = .returned v ∧ Rows.miniSteadySpec.post enc Tryz.prog Tryz.f10 false true false false W args v W' := by
  have hW' := hW
  obtain ⟨p, q, hA0, hV, rfl, hfz, hnd⟩ := hW
  have hpar : Tryz.f10.params = #[3, 22, 3, 22] := by kernel_rfl
  have hA : DataW.TrodAll enc Tryz.prog W 0 (fun _ => true) true [3, 22, 3, 22] args.toList ds p := by rw [hpar] at hA0; exact hA0
  rw [hpar] at hval
  have hAll := hA
  obtain ⟨v0, vs0, d0, ds0, p0, q0, hargs, rfl, rfl, h0, r0⟩ := trodAll_cons hA
  obtain ⟨v1, vs1, d1, ds1, p1, q1, rfl, rfl, rfl, h1, r1⟩ := trodAll_cons r0
  obtain ⟨v2, vs2, d2, ds2, p2, q2, rfl, rfl, rfl, h2, r2⟩ := trodAll_cons r1
  obtain ⟨v3, vs3, d3, ds3, p3, q3, rfl, rfl, rfl, h3, r3⟩ := trodAll_cons r2
  obtain ⟨rfl, rfl, rfl⟩ := trodAll_nil r3
  obtain rfl : args = #[v0, v1, v2, v3] := by cases args; simp_all
  obtain ⟨rfl, rfl⟩ := trodVars_none hV
  obtain ⟨x0, rfl, _, _, _⟩ := open_int Tryz.underlying3 (hval 0 3 v0 rfl rfl) h0
  obtain ⟨x2, rfl, _, _, _⟩ := open_int Tryz.underlying3 (hval 2 3 v2 rfl rfl) h2
  obtain ⟨e, kT⟩ := laidT hL
  obtain ⟨m1, bs1, φ1, l1, a1, c1, k11, k12, k13⟩ := open_flat ty22 (n := 1) (hval 1 22 v1 rfl rfl) h1
  have J1 := kT.join k11
  obtain ⟨m3, bs3, φ3, l3, a3, c3, k31, k32, k33⟩ := open_flat ty22 (n := m1) (hval 3 22 v3 rfl rfl) h3
  have J3 := J1.join k31
  have hhas := J3.has
  have hT : (startMem _ m3).get 0 = some (tabB e) := hhas.left.left _ (List.mem_singleton.2 rfl)
  obtain ⟨M', hev⟩ := law_all x0 x2 (MemOk.start _ _) hT (k13 _ hhas.left.right) (k33 _ hhas.right)
  have hlr : LRel (both (both φT φ1) φ3) [i64 x0, .slice a1 l1.length c1, i64 x2, .slice a3 l3.length c3] [i64 x0, v1, i64 x2, v3] := (.cons (.leaf rfl) (.cons (k12 _ (fun id ee hh => both_l (both φT φ1) φ3 id ee ((both_r kT k11) id ee hh))) (.cons (.leaf rfl) (.cons (k32 _ (both_r J1 k31)) .nil))))
  have hm1 : 1 ≤ m3 := by have := k11.le; have := k31.le; omega
  refine (calls_ev (knowsA J3 hm1 (fun id ee hh => both_l (both φT φ1) φ3 id ee ((both_l φT φ1) id ee hh))) hev hlr).mono fun e W' ⟨φ', v', he, hk, hv, _, _⟩ => ?_
  obtain rfl := hv.bool_inv
  refine ⟨_, he, post_of_kept (pv := []) hW' (fun _ _ _ => trodAll_cons_mk (shut_bool Tryz.underlying4 _) trodAll_mk0) (fun sp hsp => ?_) (fun _ _ => rfl) rfl hk (ok_one (by kernel_rfl) rfl (okWide_bool_mk Tryz.underlying4 _))⟩
  rw [hpar]
  exact trodAll_kept laidOut hk (readable (by kernel_rfl)) hAll (fun p hp => hW'.lt p (List.mem_append_left _ hp)) (fun p hp => hsp p (List.mem_append_left _ hp))
end Go.Proofs.YtchnlooenomfnaaGreatDoor.miniSteady

set_option linter.unusedVariables false
set_option linter.unusedSimpArgs false
open Go Go.Am Go.Proofs
namespace Go.Proofs.YtchnlooenomfnaaGreatDoor.miniSteady
set_option maxRecDepth 100000
open Go.ChangeShapes Go.WideShapes Go.ChangeAt Go.RowKit
def flatD : Nat → DataW Unit → List Value
  | 0, _ => []
  | n + 1, .agg l => l.flatMap (flatD n)
  | _ + 1, .lit (.int k z) => [.int k z]
  | _, _ => []
def lay (c : List Value) : Obj → Obj
  | .cells _ t frozen => .cells c.toArray t frozen
  | o => o
noncomputable def laidWorld (os : Os) : World :=
  let w0 := World.holding Tryz.prog os ⟨#[], #[], []⟩
  { w0 with heap := (w0.heap.modify 0 (lay (flatD 3 Rows.laid_math_bits_deBruijn64tab))) }
theorem laid_met (os : Os) (args : Array Value) : laidMet Tryz.prog Rows.miniSteadyRow.laid ((laidWorld os).forCall (fun _ _ => 0) ⟨#[], args, []⟩).memory :=
  laidMet_of_run' 8 (by kernel_rfl) (by kernel_rfl)
theorem own : ownKnob Tryz.prog.godebug = none := by kernel_rfl
theorem reads (os : Os) {H : Type} (enc : TypeId × Value → H) : ∃ places, DataW.whole enc Tryz.prog ((laidWorld os).forCall (fun _ _ => 0) ⟨#[], #[Value.int .i64 0, Value.slice none 0 0, Value.int .i64 0, Value.slice none 0 0], []⟩).memory Tryz.f10.params.toList Rows.miniSteadySpec.vars false (#[Value.int .i64 0, Value.slice none 0 0, Value.int .i64 0, Value.slice none 0 0] : Array Value).toList 8 = some ([.lit (.int .i64 0), .nil, .lit (.int .i64 0), .nil], [], places) :=
  ⟨[], by kernel_rfl⟩
theorem lifted (os : Os) (started : os.Started) (H : Type) (enc : TypeId × Value → H) (F : Stop.Interp) :
    ReturnsInHanded {} Tryz.checked os 10 .any ((OpenSpec.ofChange Rows.miniSteadySpec).preRow enc Tryz.prog Tryz.f10 Rows.miniSteadyRow.domain false Rows.miniSteadyRow.laid) (((OpenSpec.ofChange Rows.miniSteadySpec).at F).post enc Tryz.prog Tryz.f10 false true false false) := by
  obtain ⟨places, hx⟩ := reads os enc
  refine returnsInHanded_of_row (C := Tryz.checked) (s := OpenSpec.ofChange Rows.miniSteadySpec) own started (by kernel_rfl) Tryz.func10
    (witness_row_at (enc := enc) (C := Tryz.checked) false (laidWorld os) #[Value.int .i64 0, Value.slice none 0 0, Value.int .i64 0, Value.slice none 0 0] rfl (by kernel_rfl) (by kernel_rfl) (by kernel_rfl)
      (OpenSpec.preRow_of_cond 8 hx (by kernel_rfl) (fun k hk => by cases hk) (by kernel_rfl) (laid_met os _))) ?_
  intro W base args ds gs before hval hW _ _ _ hL _ _
  exact contract H enc W base args ds gs before hval hW hL
theorem said : Rows.MiniSteadySaid :=
  OpenClaim.holds_of_cond 10 Tryz.f10 rfl rfl rfl rfl rfl rfl rfl ⟨rfl, rfl, rfl, rfl, rfl⟩ rfl rfl rfl rfl rfl (by kernel_rfl) Tryz.func10 (by kernel_rfl)
    (of_decide_eq_true (by kernel_rfl)) (by unfold Func.isWrapper; first | (rw [if_pos (by decide +kernel)]; kernel_rfl) | (rw [if_neg (by decide +kernel)]; exact ⟨rfl, rfl⟩))
    (fun os started H enc _ F => by rw [OpenClaim.pre_eq_preRow]; exact lifted os started H enc F)
theorem plain (f : FuncId) (fn : Func) (hf : Tryz.pinned.checked.prog.funcNamed "milestone/milestonelaw8.MiniSteady" = some f) (hfn : Tryz.pinned.checked.prog.funcs[f]? = some fn) :
    false = Tryz.pinned.checked.prog.looks [] ∧ ∀ (j : Nat) t, fn.params[j]? = some t → Tryz.pinned.checked.prog.wantsStandIn t = false := by
  obtain rfl : f = 10 := Option.some.inj ((show Tryz.prog.funcNamed "milestone/milestonelaw8.MiniSteady" = some 10 by kernel_rfl).symm.trans hf) |>.symm
  obtain rfl : fn = Tryz.f10 := (Option.some.inj (Tryz.func10.symm.trans hfn)).symm
  refine ⟨by kernel_rfl, fun j t ht => ?_⟩
  have hall : Tryz.f10.params.all (fun t => !Tryz.prog.wantsStandIn t) = true := by kernel_rfl
  have := (Array.all_eq_true_iff_forall_mem.1 hall) t (Array.mem_of_getElem? ht)
  exact (show Tryz.prog.wantsStandIn t = false by
    cases hw : Tryz.prog.wantsStandIn t with
    | false => rfl
    | true => rw [hw] at this; cases this)
theorem card : Rows.MiniSteadyCardSaid :=
  Claim7.holds_tied_plain_at .later [] _ _ _ _ said (fun _ h => by cases h) (by kernel_rfl) (fun _ h => by cases h) miniSteady_row_tie rfl ⟨rfl, rfl⟩ (by kernel_rfl) rfl plain (by kernel_rfl)
#print axioms card
end Go.Proofs.YtchnlooenomfnaaGreatDoor.miniSteady
