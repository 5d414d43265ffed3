/-
  DfaRuns: where any state comes to by any word, whether a word is taken, are the document's
-/
import Derived.Test.YtepgijgmnijdpaaDoorGE7
import Derived.Test.YtepgijgmnijdpaaDoorGDT
import Derived.Stop.LaidErr
import Derived.Lib.LaidTab
import Derived.Test.YtepgijgmnijdpaaDoorCards
import Derived.Test.YtepgijgmnijdpaaDoorTie
import Derived.Test.YtepgijgmnijdpaaDoorChecked
open Go Go.Am Go.Proofs
namespace Go.Proofs.YtepgijgmnijdpaaDoor.dfaRuns
set_option maxRecDepth 100000
open Go.ChangeShapes Go.WideShapes Go.ChangeAt Go.RowKit
theorem law_all (x y from_ : Int) {a : Option Addr} {c : Nat} {l : List (List Int)} {aw : Option Addr} {cw : Nat} {lw : List (List Int)} {ra : Option Addr} {rc : Nat} {lr : List (List Int)} {e : TypeId} {M : Mem} (hM : MemOk M) (hT : M.get 0 = some (tabB e)) (hs : FlatAt 1 M (.slice a l.length c) l) (hw : FlatAt 1 M (.slice aw lw.length cw) lw) (hr : FlatAt 1 M (.slice ra lr.length rc) lr) :
    ∃ M', Ev Tryd.prog [0] 4 [i64 x, .slice a l.length c, i64 y, i64 from_, .slice aw lw.length cw, .slice ra lr.length rc] M (.bool true) M' := by
  obtain ⟨ns, rfl⟩ := ones hs.wide
  obtain ⟨ws, rfl⟩ := ones hw.wide
  obtain ⟨raw, rfl⟩ := ones hr.wide
  rw [List.length_map] at hs hw hr ⊢
  rw [List.length_map, List.length_map]
  have hwl3 : (Ww ws).length ≤ 1000 := by simp [Ww, wordI]; omega
  cases cc0 : decide (((raw.length : Nat) : Int) > (30 : Int)) with
  | true => exact w4_0 x a c ns y from_ aw cw ws ra rc raw e hM hT hs hw hr hwl3 (nN_le x) cc0
  | false => exact w4_1 x a c ns y from_ aw cw ws ra rc raw e hM hT hs hw hr hwl3 (nN_le x) cc0
theorem contract (H : Type) (enc : TypeId × Value → H) (W : World) (base : Nat) (args : Array Value) (ds gs : List (DataW H)) (before : List MemPlace)
    (hval : ∀ (j : Nat) t v, Tryd.f4.params[j]? = some t → args[j]? = some v → Value.okWide Tryd.prog W .any base t v)
    (hW : DataW.Whole enc Tryd.prog Tryd.f4.params.toList Rows.dfaRunsSpec.vars false W args.toList ds gs before) (hL : laidMet Tryd.prog Rows.dfaRunsRow.laid W) :
    Calls Tryd.prog 4 args W fun e W' => ∃ v, e = .returned v ∧ Rows.dfaRunsSpec.post enc Tryd.prog Tryd.f4 false true false false W args v W' := by
  have hW' := hW
  obtain ⟨p, q, hA0, hV, rfl, hfz, hnd⟩ := hW
  have hpar : Tryd.f4.params = #[3, 26, 3, 3, 26, 26] := by kernel_rfl
  have hA : DataW.TrodAll enc Tryd.prog W 0 (fun _ => true) true [3, 26, 3, 3, 26, 26] args.toList ds p := by rw [hpar] at hA0; exact hA0
  rw [hpar] at hval
  have hAll := hA
  obtain ⟨v0, vs0, d0, ds0, p0, q0, hargs, rfl, rfl, h0, r0⟩ := trodAll_cons hA
  obtain ⟨v1, vs1, d1, ds1, p1, q1, rfl, rfl, rfl, h1, r1⟩ := trodAll_cons r0
  obtain ⟨v2, vs2, d2, ds2, p2, q2, rfl, rfl, rfl, h2, r2⟩ := trodAll_cons r1
  obtain ⟨v3, vs3, d3, ds3, p3, q3, rfl, rfl, rfl, h3, r3⟩ := trodAll_cons r2
  obtain ⟨v4, vs4, d4, ds4, p4, q4, rfl, rfl, rfl, h4, r4⟩ := trodAll_cons r3
  obtain ⟨v5, vs5, d5, ds5, p5, q5, rfl, rfl, rfl, h5, r5⟩ := trodAll_cons r4
  obtain ⟨rfl, rfl, rfl⟩ := trodAll_nil r5
  obtain rfl : args = #[v0, v1, v2, v3, v4, v5] := by cases args; simp_all
  obtain ⟨rfl, rfl⟩ := trodVars_none hV
  obtain ⟨x0, rfl, _, _, _⟩ := open_int Tryd.underlying3 (hval 0 3 v0 rfl rfl) h0
  obtain ⟨x2, rfl, _, _, _⟩ := open_int Tryd.underlying3 (hval 2 3 v2 rfl rfl) h2
  obtain ⟨x3, rfl, _, _, _⟩ := open_int Tryd.underlying3 (hval 3 3 v3 rfl rfl) h3
  obtain ⟨e, kT⟩ := laidT hL
  obtain ⟨m1, bs1, φ1, l1, a1, c1, k11, k12, k13⟩ := open_flat ty26 (n := 1) (hval 1 26 v1 rfl rfl) h1
  have J1 := kT.join k11
  obtain ⟨m4, bs4, φ4, l4, a4, c4, k41, k42, k43⟩ := open_flat ty26 (n := m1) (hval 4 26 v4 rfl rfl) h4
  have J4 := J1.join k41
  obtain ⟨m5, bs5, φ5, l5, a5, c5, k51, k52, k53⟩ := open_flat ty26 (n := m4) (hval 5 26 v5 rfl rfl) h5
  have J5 := J4.join k51
  have hhas := J5.has
  have hT : (startMem _ m5).get 0 = some (tabB e) := hhas.left.left.left _ (List.mem_singleton.2 rfl)
  obtain ⟨M', hev⟩ := law_all x0 x2 x3 (MemOk.start _ _) hT (k13 _ hhas.left.left.right) (k43 _ hhas.left.right) (k53 _ hhas.right)
  have hlr : LRel (both (both (both φT φ1) φ4) φ5) [i64 x0, .slice a1 l1.length c1, i64 x2, i64 x3, .slice a4 l4.length c4, .slice a5 l5.length c5] [i64 x0, v1, i64 x2, i64 x3, v4, v5] := (.cons (.leaf rfl) (.cons (k12 _ (fun id ee hh => both_l (both (both φT φ1) φ4) φ5 id ee ((fun id ee hh => both_l (both φT φ1) φ4 id ee ((both_r kT k11) id ee hh)) id ee hh))) (.cons (.leaf rfl) (.cons (.leaf rfl) (.cons (k42 _ (fun id ee hh => both_l (both (both φT φ1) φ4) φ5 id ee ((both_r J1 k41) id ee hh))) (.cons (k52 _ (both_r J4 k51)) .nil))))))
  have hm1 : 1 ≤ m5 := by have := k11.le; have := k41.le; have := k51.le; omega
  refine (calls_ev (knowsA J5 hm1 (fun id ee hh => both_l (both (both φT φ1) φ4) φ5 id ee ((fun id ee hh => both_l (both φT φ1) φ4 id ee ((both_l φT φ1) id ee hh)) id ee hh))) hev hlr).mono fun e W' ⟨φ', v', he, hk, hv, _, _⟩ => ?_
  obtain rfl := hv.bool_inv
  refine ⟨_, he, post_of_kept (pv := []) hW' (fun _ _ _ => trodAll_cons_mk (shut_bool Tryd.underlying4 _) trodAll_mk0) (fun sp hsp => ?_) (fun _ _ => rfl) rfl hk (ok_one (by kernel_rfl) rfl (okWide_bool_mk Tryd.underlying4 _))⟩
  rw [hpar]
  exact trodAll_kept laidOut hk (readable (by kernel_rfl)) hAll (fun p hp => hW'.lt p (List.mem_append_left _ hp)) (fun p hp => hsp p (List.mem_append_left _ hp))
end Go.Proofs.YtepgijgmnijdpaaDoor.dfaRuns

open Go Go.Am Go.Proofs
namespace Go.Proofs.YtepgijgmnijdpaaDoor.dfaRuns
set_option maxRecDepth 100000
open Go.ChangeShapes Go.WideShapes Go.ChangeAt Go.RowKit
def flatD : Nat → DataW Unit → List Value
  | 0, _ => []
  | n + 1, .agg l => l.flatMap (flatD n)
  | _ + 1, .lit (.int k z) => [.int k z]
  | _, _ => []
def lay (c : List Value) : Obj → Obj
  | .cells _ t frozen => .cells c.toArray t frozen
  | o => o
noncomputable def laidWorld (os : Os) : World :=
  let w0 := World.holding Tryd.prog os ⟨#[], #[], []⟩
  { w0 with heap := (w0.heap.modify 0 (lay (flatD 3 Rows.laid_math_bits_deBruijn64tab))) }
theorem laid_met (os : Os) (args : Array Value) : laidMet Tryd.prog Rows.dfaRunsRow.laid ((laidWorld os).forCall (fun _ _ => 0) ⟨#[], args, []⟩).memory :=
  laidMet_of_run' 8 (by kernel_rfl) (by kernel_rfl)
theorem own : ownKnob Tryd.prog.godebug = none := by kernel_rfl
theorem reads (os : Os) {H : Type} (enc : TypeId × Value → H) : ∃ places, DataW.whole enc Tryd.prog ((laidWorld os).forCall (fun _ _ => 0) ⟨#[], #[Value.int .i64 0, Value.slice none 0 0, Value.int .i64 0, Value.int .i64 0, Value.slice none 0 0, Value.slice none 0 0], []⟩).memory Tryd.f4.params.toList Rows.dfaRunsSpec.vars false (#[Value.int .i64 0, Value.slice none 0 0, Value.int .i64 0, Value.int .i64 0, Value.slice none 0 0, Value.slice none 0 0] : Array Value).toList 8 = some ([.lit (.int .i64 0), .nil, .lit (.int .i64 0), .lit (.int .i64 0), .nil, .nil], [], places) :=
  ⟨[], by kernel_rfl⟩
theorem lifted (os : Os) (started : os.Started) (H : Type) (enc : TypeId × Value → H) (F : Stop.Interp) :
    ReturnsInHanded {} Tryd.checked os 4 .any ((OpenSpec.ofChange Rows.dfaRunsSpec).preRow enc Tryd.prog Tryd.f4 Rows.dfaRunsRow.domain false Rows.dfaRunsRow.laid) (((OpenSpec.ofChange Rows.dfaRunsSpec).at F).post enc Tryd.prog Tryd.f4 false true false false) := by
  obtain ⟨places, hx⟩ := reads os enc
  refine returnsInHanded_of_row (C := Tryd.checked) (s := OpenSpec.ofChange Rows.dfaRunsSpec) own started (by kernel_rfl) Tryd.func4
    (witness_row_at (enc := enc) (C := Tryd.checked) false (laidWorld os) #[Value.int .i64 0, Value.slice none 0 0, Value.int .i64 0, Value.int .i64 0, Value.slice none 0 0, Value.slice none 0 0] rfl (by kernel_rfl) (by kernel_rfl) (by kernel_rfl)
      (OpenSpec.preRow_of_cond 8 hx (by kernel_rfl) (fun k hk => by cases hk) (by kernel_rfl) (laid_met os _))) ?_
  intro W base args ds gs before hval hW _ _ _ hL _ _
  exact contract H enc W base args ds gs before hval hW hL
theorem said : Rows.DfaRunsSaid :=
  OpenClaim.holds_of_cond 4 Tryd.f4 rfl rfl rfl rfl rfl rfl rfl ⟨rfl, rfl, rfl, rfl, rfl⟩ rfl rfl rfl rfl rfl (by kernel_rfl) Tryd.func4 (by kernel_rfl)
    (of_decide_eq_true (by kernel_rfl)) (by unfold Func.isWrapper; first | (rw [if_pos (by decide +kernel)]; kernel_rfl) | (rw [if_neg (by decide +kernel)]; exact ⟨rfl, rfl⟩))
    (fun os started H enc _ F => by rw [OpenClaim.pre_eq_preRow]; exact lifted os started H enc F)
theorem plain (f : FuncId) (fn : Func) (hf : Tryd.pinned.checked.prog.funcNamed "milestone/milestonelaw7.DfaRuns" = some f) (hfn : Tryd.pinned.checked.prog.funcs[f]? = some fn) :
    false = Tryd.pinned.checked.prog.looks [] ∧ ∀ (j : Nat) t, fn.params[j]? = some t → Tryd.pinned.checked.prog.wantsStandIn t = false := by
  obtain rfl : f = 4 := Option.some.inj ((show Tryd.prog.funcNamed "milestone/milestonelaw7.DfaRuns" = some 4 by kernel_rfl).symm.trans hf) |>.symm
  obtain rfl : fn = Tryd.f4 := (Option.some.inj (Tryd.func4.symm.trans hfn)).symm
  refine ⟨by kernel_rfl, fun j t ht => ?_⟩
  have hall : Tryd.f4.params.all (fun t => !Tryd.prog.wantsStandIn t) = true := by kernel_rfl
  have := (Array.all_eq_true_iff_forall_mem.1 hall) t (Array.mem_of_getElem? ht)
  exact (show Tryd.prog.wantsStandIn t = false by
    cases hw : Tryd.prog.wantsStandIn t with
    | false => rfl
    | true => rw [hw] at this; cases this)
theorem card : Rows.DfaRunsCardSaid :=
  Claim7.holds_tied_plain_at .later [] _ _ _ _ said (fun _ h => by cases h) (by kernel_rfl) (fun _ h => by cases h) dfaRuns_row_tie rfl ⟨rfl, rfl⟩ (by kernel_rfl) rfl plain (by kernel_rfl)
#print axioms card
end Go.Proofs.YtepgijgmnijdpaaDoor.dfaRuns
