/-
  DfaFlat: with all states turned to accept what they did not a machine takes just what it did not
-/
import Derived.Test.YtepgijgmnijdpaaDoorGE7
import Derived.Test.YtepgijgmnijdpaaDoorGDT
import Derived.Stop.LaidErr
import Derived.Lib.LaidTab
import Derived.Test.YtepgijgmnijdpaaDoorCards
import Derived.Test.YtepgijgmnijdpaaDoorTie
import Derived.Test.YtepgijgmnijdpaaDoorChecked
open Go Go.Am Go.Proofs
namespace Go.Proofs.YtepgijgmnijdpaaDoor.dfaFlat
set_option maxRecDepth 100000
open Go.ChangeShapes Go.WideShapes Go.ChangeAt Go.RowKit
theorem flip_acc (l : List Bool) (s : Int) (h : noneB s ((l.length : Nat) : Int) = false) : accAt (l.map (!·)) s = !(accAt l s) := by
  obtain ⟨h1, h2⟩ := noneB_false h
  have hi : s.toNat < l.length := by omega
  simp only [accAt, List.getElem?_map, List.getElem?_eq_getElem hi, Option.map_some, Option.getD_some]
theorem law_all (x y bad : Int) {a : Option Addr} {c : Nat} {l : List (List Int)} {aw : Option Addr} {cw : Nat} {lw : List (List Int)} {e : TypeId} {M : Mem} (hM : MemOk M) (hT : M.get 0 = some (tabB e)) (hs : FlatAt 1 M (.slice a l.length c) l) (hw : FlatAt 1 M (.slice aw lw.length cw) lw) :
    ∃ M', Ev Tryd.prog [0] 11 [i64 x, .slice a l.length c, i64 y, .slice aw lw.length cw, i64 bad] M (.bool true) M' := by
  obtain ⟨ns, rfl⟩ := ones hs.wide
  obtain ⟨ws, rfl⟩ := ones hw.wide
  rw [List.length_map] at hs hw ⊢
  rw [List.length_map]
  have hg := mk_good x y ns
  have hwd := rowsI_wide (nOf x) ns y (nN x)
  have hn := nN_le x
  have hwl3 : (wordI 4 (ws.take 12)).length ≤ 1000 := by simp [wordI]; omega
  have h0 : noneB 0 (((rowsI (nOf x) ns y (nN x)).length : Nat) : Int) = false := by rw [rowsI_len]; simp [noneB]; omega
  have hxz : noneB (xz bad) (5 : Int) = true := by
    have h := modI_range (x := bad) (n := 9) (by decide)
    have h2 : xz bad = 5 + modI bad 9 := wr_small (by omega) (by omega)
    rw [h2]; simp [noneB]; omega
  have key : ∀ (u : List Int), okW u → (runF (rowsI (nOf x) ns y (nN x)) (accsI y (nN x)) u == !(runF (rowsI (nOf x) ns y (nN x)) ((accsI y (nN x)).map (!·)) u)) = true ∧
      runF (rowsI (nOf x) ns y (nN x)) (accsI y (nN x)) (u ++ [xz bad]) = false ∧ runF (rowsI (nOf x) ns y (nN x)) ((accsI y (nN x)).map (!·)) (u ++ [xz bad]) = false := by
    intro u hu
    obtain ⟨s1, g1, n1⟩ := go_all hg hwd u 0 hu h0
    have f1 := goF_some g1 n1
    have f3 : goF (rowsI (nOf x) ns y (nN x)) 0 (u ++ [xz bad]) = -1 := by
      unfold goF
      rw [goL_app u [xz bad] 0 s1 g1]
      simp [goL, hxz]
    have n2 : noneB s1 (((accsI y (nN x)).length : Nat) : Int) = false := by rw [accsI_len]; rw [rowsI_len] at n1; exact n1
    refine ⟨?_, ?_, ?_⟩
    · unfold runF
      rw [f1, List.length_map, n2, flip_acc _ _ n2]
      simp
    · unfold runF
      rw [f3]
      simp [noneB]
    · unfold runF
      rw [f3]
      simp [noneB]
  by_cases hwl : wordI 4 (ws.take 12) = []
  · obtain ⟨k1, k2, k3⟩ := key [] (fun z hz => by cases hz)
    exact w11_n x a c ns y aw cw ws bad e hM hT hs hw hwl hwl3 hn (by omega) k1 k2 k3
  · obtain ⟨k1, k2, k3⟩ := key (wordI 4 (ws.take 12)) (okW_word 4 (ws.take 12))
    exact w11_s x a c ns y aw cw ws bad e hM hT hs hw hwl hwl3 hn (by omega) k1 k2 k3
theorem contract (H : Type) (enc : TypeId × Value → H) (W : World) (base : Nat) (args : Array Value) (ds gs : List (DataW H)) (before : List MemPlace)
    (hval : ∀ (j : Nat) t v, Tryd.f11.params[j]? = some t → args[j]? = some v → Value.okWide Tryd.prog W .any base t v)
    (hW : DataW.Whole enc Tryd.prog Tryd.f11.params.toList Rows.dfaFlatSpec.vars false W args.toList ds gs before) (hL : laidMet Tryd.prog Rows.dfaFlatRow.laid W) :
    Calls Tryd.prog 11 args W fun e W' => ∃ v, e = .returned v ∧ Rows.dfaFlatSpec.post enc Tryd.prog Tryd.f11 false true false false W args v W' := by
  have hW' := hW
  obtain ⟨p, q, hA0, hV, rfl, hfz, hnd⟩ := hW
  have hpar : Tryd.f11.params = #[3, 26, 3, 26, 3] := by kernel_rfl
  have hA : DataW.TrodAll enc Tryd.prog W 0 (fun _ => true) true [3, 26, 3, 26, 3] args.toList ds p := by rw [hpar] at hA0; exact hA0
  rw [hpar] at hval
  have hAll := hA
  obtain ⟨v0, vs0, d0, ds0, p0, q0, hargs, rfl, rfl, h0, r0⟩ := trodAll_cons hA
  obtain ⟨v1, vs1, d1, ds1, p1, q1, rfl, rfl, rfl, h1, r1⟩ := trodAll_cons r0
  obtain ⟨v2, vs2, d2, ds2, p2, q2, rfl, rfl, rfl, h2, r2⟩ := trodAll_cons r1
  obtain ⟨v3, vs3, d3, ds3, p3, q3, rfl, rfl, rfl, h3, r3⟩ := trodAll_cons r2
  obtain ⟨v4, vs4, d4, ds4, p4, q4, rfl, rfl, rfl, h4, r4⟩ := trodAll_cons r3
  obtain ⟨rfl, rfl, rfl⟩ := trodAll_nil r4
  obtain rfl : args = #[v0, v1, v2, v3, v4] := by cases args; simp_all
  obtain ⟨rfl, rfl⟩ := trodVars_none hV
  obtain ⟨x0, rfl, _, _, _⟩ := open_int Tryd.underlying3 (hval 0 3 v0 rfl rfl) h0
  obtain ⟨x2, rfl, _, _, _⟩ := open_int Tryd.underlying3 (hval 2 3 v2 rfl rfl) h2
  obtain ⟨x4, rfl, _, _, _⟩ := open_int Tryd.underlying3 (hval 4 3 v4 rfl rfl) h4
  obtain ⟨e, kT⟩ := laidT hL
  obtain ⟨m1, bs1, φ1, l1, a1, c1, k11, k12, k13⟩ := open_flat ty26 (n := 1) (hval 1 26 v1 rfl rfl) h1
  have J1 := kT.join k11
  obtain ⟨m3, bs3, φ3, l3, a3, c3, k31, k32, k33⟩ := open_flat ty26 (n := m1) (hval 3 26 v3 rfl rfl) h3
  have J3 := J1.join k31
  have hhas := J3.has
  have hT : (startMem _ m3).get 0 = some (tabB e) := hhas.left.left _ (List.mem_singleton.2 rfl)
  obtain ⟨M', hev⟩ := law_all x0 x2 x4 (MemOk.start _ _) hT (k13 _ hhas.left.right) (k33 _ hhas.right)
  have hlr : LRel (both (both φT φ1) φ3) [i64 x0, .slice a1 l1.length c1, i64 x2, .slice a3 l3.length c3, i64 x4] [i64 x0, v1, i64 x2, v3, i64 x4] := (.cons (.leaf rfl) (.cons (k12 _ (fun id ee hh => both_l (both φT φ1) φ3 id ee ((both_r kT k11) id ee hh))) (.cons (.leaf rfl) (.cons (k32 _ (both_r J1 k31)) (.cons (.leaf rfl) .nil)))))
  have hm1 : 1 ≤ m3 := by have := k11.le; have := k31.le; omega
  refine (calls_ev (knowsA J3 hm1 (fun id ee hh => both_l (both φT φ1) φ3 id ee ((both_l φT φ1) id ee hh))) hev hlr).mono fun e W' ⟨φ', v', he, hk, hv, _, _⟩ => ?_
  obtain rfl := hv.bool_inv
  refine ⟨_, he, post_of_kept (pv := []) hW' (fun _ _ _ => trodAll_cons_mk (shut_bool Tryd.underlying4 _) trodAll_mk0) (fun sp hsp => ?_) (fun _ _ => rfl) rfl hk (ok_one (by kernel_rfl) rfl (okWide_bool_mk Tryd.underlying4 _))⟩
  rw [hpar]
  exact trodAll_kept laidOut hk (readable (by kernel_rfl)) hAll (fun p hp => hW'.lt p (List.mem_append_left _ hp)) (fun p hp => hsp p (List.mem_append_left _ hp))
end Go.Proofs.YtepgijgmnijdpaaDoor.dfaFlat

open Go Go.Am Go.Proofs
namespace Go.Proofs.YtepgijgmnijdpaaDoor.dfaFlat
set_option maxRecDepth 100000
open Go.ChangeShapes Go.WideShapes Go.ChangeAt Go.RowKit
def flatD : Nat → DataW Unit → List Value
  | 0, _ => []
  | n + 1, .agg l => l.flatMap (flatD n)
  | _ + 1, .lit (.int k z) => [.int k z]
  | _, _ => []
def lay (c : List Value) : Obj → Obj
  | .cells _ t frozen => .cells c.toArray t frozen
  | o => o
noncomputable def laidWorld (os : Os) : World :=
  let w0 := World.holding Tryd.prog os ⟨#[], #[], []⟩
  { w0 with heap := (w0.heap.modify 0 (lay (flatD 3 Rows.laid_math_bits_deBruijn64tab))) }
theorem laid_met (os : Os) (args : Array Value) : laidMet Tryd.prog Rows.dfaFlatRow.laid ((laidWorld os).forCall (fun _ _ => 0) ⟨#[], args, []⟩).memory :=
  laidMet_of_run' 8 (by kernel_rfl) (by kernel_rfl)
theorem own : ownKnob Tryd.prog.godebug = none := by kernel_rfl
theorem reads (os : Os) {H : Type} (enc : TypeId × Value → H) : ∃ places, DataW.whole enc Tryd.prog ((laidWorld os).forCall (fun _ _ => 0) ⟨#[], #[Value.int .i64 0, Value.slice none 0 0, Value.int .i64 0, Value.slice none 0 0, Value.int .i64 0], []⟩).memory Tryd.f11.params.toList Rows.dfaFlatSpec.vars false (#[Value.int .i64 0, Value.slice none 0 0, Value.int .i64 0, Value.slice none 0 0, Value.int .i64 0] : Array Value).toList 8 = some ([.lit (.int .i64 0), .nil, .lit (.int .i64 0), .nil, .lit (.int .i64 0)], [], places) :=
  ⟨[], by kernel_rfl⟩
theorem lifted (os : Os) (started : os.Started) (H : Type) (enc : TypeId × Value → H) (F : Stop.Interp) :
    ReturnsInHanded {} Tryd.checked os 11 .any ((OpenSpec.ofChange Rows.dfaFlatSpec).preRow enc Tryd.prog Tryd.f11 Rows.dfaFlatRow.domain false Rows.dfaFlatRow.laid) (((OpenSpec.ofChange Rows.dfaFlatSpec).at F).post enc Tryd.prog Tryd.f11 false true false false) := by
  obtain ⟨places, hx⟩ := reads os enc
  refine returnsInHanded_of_row (C := Tryd.checked) (s := OpenSpec.ofChange Rows.dfaFlatSpec) own started (by kernel_rfl) Tryd.func11
    (witness_row_at (enc := enc) (C := Tryd.checked) false (laidWorld os) #[Value.int .i64 0, Value.slice none 0 0, Value.int .i64 0, Value.slice none 0 0, Value.int .i64 0] rfl (by kernel_rfl) (by kernel_rfl) (by kernel_rfl)
      (OpenSpec.preRow_of_cond 8 hx (by kernel_rfl) (fun k hk => by cases hk) (by kernel_rfl) (laid_met os _))) ?_
  intro W base args ds gs before hval hW _ _ _ hL _ _
  exact contract H enc W base args ds gs before hval hW hL
theorem said : Rows.DfaFlatSaid :=
  OpenClaim.holds_of_cond 11 Tryd.f11 rfl rfl rfl rfl rfl rfl rfl ⟨rfl, rfl, rfl, rfl, rfl⟩ rfl rfl rfl rfl rfl (by kernel_rfl) Tryd.func11 (by kernel_rfl)
    (of_decide_eq_true (by kernel_rfl)) (by unfold Func.isWrapper; first | (rw [if_pos (by decide +kernel)]; kernel_rfl) | (rw [if_neg (by decide +kernel)]; exact ⟨rfl, rfl⟩))
    (fun os started H enc _ F => by rw [OpenClaim.pre_eq_preRow]; exact lifted os started H enc F)
theorem plain (f : FuncId) (fn : Func) (hf : Tryd.pinned.checked.prog.funcNamed "milestone/milestonelaw7.DfaFlat" = some f) (hfn : Tryd.pinned.checked.prog.funcs[f]? = some fn) :
    false = Tryd.pinned.checked.prog.looks [] ∧ ∀ (j : Nat) t, fn.params[j]? = some t → Tryd.pinned.checked.prog.wantsStandIn t = false := by
  obtain rfl : f = 11 := Option.some.inj ((show Tryd.prog.funcNamed "milestone/milestonelaw7.DfaFlat" = some 11 by kernel_rfl).symm.trans hf) |>.symm
  obtain rfl : fn = Tryd.f11 := (Option.some.inj (Tryd.func11.symm.trans hfn)).symm
  refine ⟨by kernel_rfl, fun j t ht => ?_⟩
  have hall : Tryd.f11.params.all (fun t => !Tryd.prog.wantsStandIn t) = true := by kernel_rfl
  have := (Array.all_eq_true_iff_forall_mem.1 hall) t (Array.mem_of_getElem? ht)
  exact (show Tryd.prog.wantsStandIn t = false by
    cases hw : Tryd.prog.wantsStandIn t with
    | false => rfl
    | true => rw [hw] at this; cases this)
theorem card : Rows.DfaFlatCardSaid :=
  Claim7.holds_tied_plain_at .later [] _ _ _ _ said (fun _ h => by cases h) (by kernel_rfl) (fun _ h => by cases h) dfaFlat_row_tie rfl ⟨rfl, rfl⟩ (by kernel_rfl) rfl plain (by kernel_rfl)
#print axioms card
end Go.Proofs.YtepgijgmnijdpaaDoor.dfaFlat
