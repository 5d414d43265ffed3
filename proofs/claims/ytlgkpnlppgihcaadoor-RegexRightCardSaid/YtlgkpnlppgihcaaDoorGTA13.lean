/-
  What is proved: RegexRight: whether any expression is right is what the document's own reading says, and so is one of which one thing was turned. For every argument; the tables are as the program lays them.
-/
import Derived.Test.YtlgkpnlppgihcaaDoorGTA10
import Derived.Test.YtlgkpnlppgihcaaDoorAmGrow3
import Derived.Deep.DeepHandedRow
import Derived.OpenShut
import Derived.ProofKit
import Derived.Test.YtlgkpnlppgihcaaDoorRows
import Derived.Stop.LaidErr
import Derived.Lib.LaidTab
import Derived.Test.YtlgkpnlppgihcaaDoorCards
import Derived.Test.YtlgkpnlppgihcaaDoorTie
import Derived.Test.YtlgkpnlppgihcaaDoorChecked
open Go Go.Am Go.Proofs
namespace Go.Proofs.YtlgkpnlppgihcaaDoor.regexRight
set_option maxRecDepth 100000
open Go.ChangeShapes Go.WideShapes Go.ChangeAt Go.RowKit
theorem law_all (a0 : Option Addr) (c0 : Nat) (l0 : List DT) (x y z : Int) (te : DT) {M : Mem} {ve : Value} {rows0 : List (List Value)} (hM : MemOk M) (hr0 : RowsAt 3 M l0 rows0) (hs0 : SlAt M (.slice a0 l0.length c0) l0.length rows0) (hl0 : l0.length ≤ 9223372036854775807) (hN : NodeAt 5 M te ve) :
    ∃ M', Ev Tryd.prog [] 5 [.slice a0 l0.length c0, ve, i64 x, i64 y, i64 z] M (.bool true) M' := by
  obtain ⟨k, s, lo, hi, l, a, c, rows, _, rfl, _⟩ := hN.five
  cases cc0 : decide (sizeS l0 0 ≤ (14 : Int)) with
  | true =>
    cases cc1 : fewT te (0 : Int) with
    | true => exact w5_0 a0 c0 l0 k s lo hi x y z a l.length c te hM hr0 hs0 hl0 hN cc0 cc1
    | false => exact w5_1 a0 c0 l0 k s lo hi x y z a l.length c te hM hr0 hs0 hl0 hN cc0 cc1
  | false => exact w5_2 a0 c0 l0 k s lo hi x y z a l.length c te hM hr0 hs0 hl0 hN cc0
theorem tree54 : TreeTy Tryd.prog 22 54 2 #[{ name := "K", type := 3, offset := 0, embedded := false, tag := "", pkgPath := "", byteOffset := 0 }, { name := "N", type := 3, offset := 1, embedded := false, tag := "", pkgPath := "", byteOffset := 8 }, { name := "L", type := 22, offset := 2, embedded := false, tag := "", pkgPath := "", byteOffset := 16 }] where
  us := Tryd.underlying22
  ue := Tryd.underlying54
  ints := fun i f h hi => by
    match i, hi with
    | 0, _ => cases h; exact ⟨by kernel_rfl, by kernel_rfl, rfl⟩
    | 1, _ => cases h; exact ⟨by kernel_rfl, by kernel_rfl, rfl⟩
  last := fun f h => by cases h; exact ⟨rfl, rfl⟩
  size := rfl
  cells := by kernel_rfl
  one := by kernel_rfl
theorem tree27 : TreeTy Tryd.prog 25 27 4 #[{ name := "Kind", type := 3, offset := 0, embedded := false, tag := "", pkgPath := "", byteOffset := 0 }, { name := "Set", type := 3, offset := 1, embedded := false, tag := "", pkgPath := "", byteOffset := 8 }, { name := "Lo", type := 3, offset := 2, embedded := false, tag := "", pkgPath := "", byteOffset := 16 }, { name := "Hi", type := 3, offset := 3, embedded := false, tag := "", pkgPath := "", byteOffset := 24 }, { name := "L", type := 25, offset := 4, embedded := false, tag := "", pkgPath := "", byteOffset := 32 }] where
  us := Tryd.underlying25
  ue := Tryd.underlying27
  ints := fun i f h hi => by
    match i, hi with
    | 0, _ => cases h; exact ⟨by kernel_rfl, by kernel_rfl, rfl⟩
    | 1, _ => cases h; exact ⟨by kernel_rfl, by kernel_rfl, rfl⟩
    | 2, _ => cases h; exact ⟨by kernel_rfl, by kernel_rfl, rfl⟩
    | 3, _ => cases h; exact ⟨by kernel_rfl, by kernel_rfl, rfl⟩
  last := fun f h => by cases h; exact ⟨rfl, rfl⟩
  size := rfl
  cells := by kernel_rfl
  one := by kernel_rfl
theorem readable : ∀ t ∈ ([22, 27, 3, 3, 3] : List TypeId), Tryd.prog.readableRec t = true ∧ t < Tryd.prog.types.size := by
  have h : ([22, 27, 3, 3, 3] : List TypeId).all (fun t => Tryd.prog.readableRec t && Nat.blt t Tryd.prog.types.size) = true := by kernel_rfl
  intro t ht
  have := List.all_eq_true.1 h t ht
  simp only [Bool.and_eq_true] at this
  exact ⟨this.1, Nat.le_of_ble_eq_true this.2⟩
theorem contract (H : Type) (enc : TypeId × Value → H) (W : World) (base : Nat) (args : Array Value) (ds gs : List (DataW H)) (before : List MemPlace)
    (hval : ∀ (j : Nat) t v, Tryd.f5.params[j]? = some t → args[j]? = some v → Value.okWide Tryd.prog W .any base t v)
    (hW : DataW.Whole enc Tryd.prog Tryd.f5.params.toList Rows.regexRightSpec.vars false W args.toList ds gs before) :
    Calls Tryd.prog 5 args W fun e W' => ∃ v, e = .returned v ∧ Rows.regexRightSpec.post enc Tryd.prog Tryd.f5 false true false false W args v W' := by
  have hW' := hW
  obtain ⟨p, q, hA0, hV, rfl, hfz, hnd⟩ := hW
  have hpar : Tryd.f5.params = #[22, 27, 3, 3, 3] := by kernel_rfl
  have hA : DataW.TrodAll enc Tryd.prog W 0 (fun _ => true) true [22, 27, 3, 3, 3] args.toList ds p := by rw [hpar] at hA0; exact hA0
  rw [hpar] at hval
  have hAll := hA
  obtain ⟨v0, vs0, d0, ds0, p0, q0, hargs, rfl, rfl, h0, r0⟩ := trodAll_cons hA
  obtain ⟨v1, vs1, d1, ds1, p1, q1, rfl, rfl, rfl, h1, r1⟩ := trodAll_cons r0
  obtain ⟨v2, vs2, d2, ds2, p2, q2, rfl, rfl, rfl, h2, r2⟩ := trodAll_cons r1
  obtain ⟨v3, vs3, d3, ds3, p3, q3, rfl, rfl, rfl, h3, r3⟩ := trodAll_cons r2
  obtain ⟨v4, vs4, d4, ds4, p4, q4, rfl, rfl, rfl, h4, r4⟩ := trodAll_cons r3
  obtain ⟨rfl, rfl, rfl⟩ := trodAll_nil r4
  obtain rfl : args = #[v0, v1, v2, v3, v4] := by cases args; simp_all
  obtain ⟨rfl, rfl⟩ := trodVars_none hV
  obtain ⟨x2, rfl, _, _, _⟩ := open_int Tryd.underlying3 (hval 2 3 v2 rfl rfl) h2
  obtain ⟨x3, rfl, _, _, _⟩ := open_int Tryd.underlying3 (hval 3 3 v3 rfl rfl) h3
  obtain ⟨x4, rfl, _, _, _⟩ := open_int Tryd.underlying3 (hval 4 3 v4 rfl rfl) h4
  obtain ⟨m0, bs0, φ0, l0, a0, c0, rows0, k1, k2, k3, k4⟩ := open_slice tree54 (n := 0) (hval 0 22 v0 rfl rfl) h0
  obtain ⟨m1, bs1, φ1, te, r1, e1, e2, e3⟩ := open_node tree27 (by decide) h1 m0
  have hj := k1.join e1
  have hhas := hj.has
  obtain ⟨hr0, hs0⟩ := k4 _ hhas.left
  obtain ⟨M', hev⟩ := law_all a0 c0 l0 x2 x3 x4 te (MemOk.start _ _) hr0 hs0 k3 (e3 _ hhas.right)
  have hlr : LRel (both φ0 φ1) [.slice a0 l0.length c0, .agg ⟨r1⟩, i64 x2, i64 x3, i64 x4] [v0, v1, i64 x2, i64 x3, i64 x4] :=
    .cons (k2 _ (both_l φ0 φ1)) (.cons (e2 _ (both_r k1 e1)) (LRel.refl_flat _ _ rfl))
  refine (calls_ev hj.knows hev hlr).mono fun e W' ⟨φ', v', he, hk, hv, _, _⟩ => ?_
  obtain rfl := hv.bool_inv
  refine ⟨_, he, post_of_kept (pv := []) hW' (fun _ _ _ => trodAll_cons_mk (shut_bool Tryd.underlying4 _) trodAll_mk0) (fun sp hsp => ?_) (fun _ _ => rfl) rfl hk (ok_one (by kernel_rfl) rfl (okWide_bool_mk Tryd.underlying4 _))⟩
  rw [hpar]
  exact trodAll_kept laidOut hk readable hAll (fun p hp => hW'.lt p (List.mem_append_left _ hp)) (fun p hp => hsp p (List.mem_append_left _ hp))
end Go.Proofs.YtlgkpnlppgihcaaDoor.regexRight

open Go Go.Am Go.Proofs
namespace Go.Proofs.YtlgkpnlppgihcaaDoor.regexRight
set_option maxRecDepth 100000
open Go.ChangeShapes Go.WideShapes Go.ChangeAt Go.RowKit
def flatD : Nat → DataW Unit → List Value
  | 0, _ => []
  | n + 1, .agg l => l.flatMap (flatD n)
  | _ + 1, .lit (.int k z) => [.int k z]
  | _, _ => []
def lay (c : List Value) : Obj → Obj
  | .cells _ t frozen => .cells c.toArray t frozen
  | o => o
noncomputable def laidWorld (os : Os) : World :=
  let w0 := World.holding Tryd.prog os ⟨#[], #[], []⟩
  { w0 with heap := (((w0.heap.modify 0 (lay (flatD 3 Rows.laid_internal_strconv_uint64pow10))).modify 2 (lay (flatD 3 Rows.laid_math_bits_deBruijn32tab))).modify 3 (lay (flatD 3 Rows.laid_math_bits_deBruijn64tab))) }
theorem laid_met (os : Os) (args : Array Value) : laidMet Tryd.prog Rows.regexRightRow.laid ((laidWorld os).forCall (fun _ _ => 0) ⟨#[], args, []⟩).memory :=
  laidMet_of_run' 8 (by kernel_rfl) (by kernel_rfl)
theorem own : ownKnob Tryd.prog.godebug = none := by kernel_rfl
theorem reads (os : Os) {H : Type} (enc : TypeId × Value → H) : ∃ places, DataW.whole enc Tryd.prog ((laidWorld os).forCall (fun _ _ => 0) ⟨#[], #[Value.slice none 0 0, Value.agg ⟨[.int .i64 0, .int .i64 0, .int .i64 0, .int .i64 0, .slice none 0 0]⟩, Value.int .i64 0, Value.int .i64 0, Value.int .i64 0], []⟩).memory Tryd.f5.params.toList Rows.regexRightSpec.vars false (#[Value.slice none 0 0, Value.agg ⟨[.int .i64 0, .int .i64 0, .int .i64 0, .int .i64 0, .slice none 0 0]⟩, Value.int .i64 0, Value.int .i64 0, Value.int .i64 0] : Array Value).toList 8 = some ([.nil, .agg [.lit (.int .i64 0), .lit (.int .i64 0), .lit (.int .i64 0), .lit (.int .i64 0), .nil], .lit (.int .i64 0), .lit (.int .i64 0), .lit (.int .i64 0)], [], places) :=
  ⟨[], by kernel_rfl⟩
theorem lifted (os : Os) (started : os.Started) (H : Type) (enc : TypeId × Value → H) (F : Stop.Interp) :
    ReturnsInHanded {} Tryd.checked os 5 .any ((OpenSpec.ofChange Rows.regexRightSpec).preRow enc Tryd.prog Tryd.f5 Rows.regexRightRow.domain false Rows.regexRightRow.laid) (((OpenSpec.ofChange Rows.regexRightSpec).at F).post enc Tryd.prog Tryd.f5 false true false false) := by
  obtain ⟨places, hx⟩ := reads os enc
  refine returnsInHanded_of_row (C := Tryd.checked) (s := OpenSpec.ofChange Rows.regexRightSpec) own started (by kernel_rfl) Tryd.func5
    (witness_row_at (enc := enc) (C := Tryd.checked) false (laidWorld os) #[Value.slice none 0 0, Value.agg ⟨[.int .i64 0, .int .i64 0, .int .i64 0, .int .i64 0, .slice none 0 0]⟩, Value.int .i64 0, Value.int .i64 0, Value.int .i64 0] rfl (by kernel_rfl) (by kernel_rfl) (by kernel_rfl)
      (OpenSpec.preRow_of_cond 8 hx (by kernel_rfl) (fun k hk => by cases hk) (by kernel_rfl) (laid_met os _))) ?_
  intro W base args ds gs before hval hW _ _ _ _ _ _
  exact contract H enc W base args ds gs before hval hW
theorem said : Rows.RegexRightSaid :=
  OpenClaim.holds_of_cond 5 Tryd.f5 rfl rfl rfl rfl rfl rfl rfl ⟨rfl, rfl, rfl, rfl, rfl⟩ rfl rfl rfl rfl rfl (by kernel_rfl) Tryd.func5 (by kernel_rfl)
    (of_decide_eq_true (by kernel_rfl)) (by unfold Func.isWrapper; first | (rw [if_pos (by decide +kernel)]; kernel_rfl) | (rw [if_neg (by decide +kernel)]; exact ⟨rfl, rfl⟩))
    (fun os started H enc _ F => by rw [OpenClaim.pre_eq_preRow]; exact lifted os started H enc F)
theorem plain (f : FuncId) (fn : Func) (hf : Tryd.pinned.checked.prog.funcNamed "milestone/milestonelaw4.RegexRight" = some f) (hfn : Tryd.pinned.checked.prog.funcs[f]? = some fn) :
    false = Tryd.pinned.checked.prog.looks [] ∧ ∀ (j : Nat) t, fn.params[j]? = some t → Tryd.pinned.checked.prog.wantsStandIn t = false := by
  obtain rfl : f = 5 := Option.some.inj ((show Tryd.prog.funcNamed "milestone/milestonelaw4.RegexRight" = some 5 by kernel_rfl).symm.trans hf) |>.symm
  obtain rfl : fn = Tryd.f5 := (Option.some.inj (Tryd.func5.symm.trans hfn)).symm
  refine ⟨by kernel_rfl, fun j t ht => ?_⟩
  have hall : Tryd.f5.params.all (fun t => !Tryd.prog.wantsStandIn t) = true := by kernel_rfl
  have := (Array.all_eq_true_iff_forall_mem.1 hall) t (Array.mem_of_getElem? ht)
  exact (show Tryd.prog.wantsStandIn t = false by
    cases hw : Tryd.prog.wantsStandIn t with
    | false => rfl
    | true => rw [hw] at this; cases this)
theorem card : Rows.RegexRightCardSaid :=
  Claim7.holds_tied_plain_at .later [] _ _ _ _ said (fun _ h => by cases h) (by kernel_rfl) (fun _ h => by cases h) regexRight_row_tie rfl ⟨rfl, rfl⟩ (by kernel_rfl) rfl plain (by kernel_rfl)
#print axioms card
end Go.Proofs.YtlgkpnlppgihcaaDoor.regexRight
