/-
  What is proved: NfaChecks: whether any machine of many ways is allowed is what the document's own reading says; one that is made of numbers is; so is one with one thing of it turned. For every argument.
-/
import Derived.Test.YtnpalannikpfoaaGNA10
import Derived.Test.YtnpalannikpfoaaAmFlat2
import Derived.Deep.DeepHandedRow
import Derived.OpenShut
import Derived.ProofKit
import Derived.Test.YtnpalannikpfoaaRows
import Derived.Test.YtnpalannikpfoaaChecked
open Go Go.Am Go.Proofs
namespace Go.Proofs.Ytnpalannikpfoaa.nfaChecks
set_option maxRecDepth 100000
open Go.ChangeShapes Go.WideShapes Go.ChangeAt Go.RowKit
theorem row_of_cells {d : Nat} {cs : List Value} (hl : cs.length = d) (h : ∀ i, i < d → ∃ z : Int, (cs.drop i).take 1 = [i64 z]) : ∃ zs : List Int, zs.length = d ∧ cs = zs.map i64 := by
  refine ⟨(List.range d).map fun i => zOf cs[i]?, by simp, ?_⟩
  apply List.ext_getElem?
  intro i
  by_cases hi : i < d
  · obtain ⟨z, hz⟩ := h i hi
    have h1 : cs[i]? = some (i64 z) := by
      have : ((cs.drop i).take 1)[0]? = some (i64 z) := by rw [hz]; rfl
      rw [List.getElem?_take, if_pos (by omega), List.getElem?_drop] at this
      exact this
    rw [List.map_map, List.getElem?_map, List.getElem?_range hi, h1]
    simp only [Option.map_some, Function.comp_apply, h1, zOf_i64]
  · rw [List.getElem?_eq_none (by omega), List.getElem?_eq_none (by simp; omega)]
section
variable {H : Type} {enc : TypeId × Value → H}
theorem at1 {w : World} {base nf : Nat} {sp : Nat → Bool} {held : Bool} {t : TypeId} {cs : List Value} {y : DataW H × List MemPlace} (ht : Try.prog.underlying t = some (.int .i64)) (h : DataW.trod enc Try.prog w base sp held nf t cs = some y) : ∃ z : Int, cs = [i64 z] := by
  obtain ⟨z, h1, _⟩ := DataW.trod_int ht h
  exact ⟨z, h1⟩
theorem cells3 : Try.prog.cellsOf 3 = 1 := by kernel_rfl
def sf0 : Field := { name := "From", type := 3, offset := 0, embedded := false, tag := "", pkgPath := "", byteOffset := 0 }
def sf1 : Field := { name := "To", type := 3, offset := 1, embedded := false, tag := "", pkgPath := "", byteOffset := 8 }
def sf2 : Field := { name := "Set", type := 3, offset := 2, embedded := false, tag := "", pkgPath := "", byteOffset := 16 }
abbrev fsStep : Array Field := #[sf0, sf1, sf2]
theorem und48 : Try.prog.underlying 48 = some (.struct fsStep) := by kernel_rfl
theorem und49 : Try.prog.underlying 49 = some (.array 2 3) := by kernel_rfl
theorem und25 : Try.prog.underlying 25 = some (.slice 48) := by kernel_rfl
theorem und26 : Try.prog.underlying 26 = some (.slice 49) := by kernel_rfl
theorem und40 : Try.prog.underlying 40 = some (.slice 3) := by kernel_rfl
def nf_0 : Field := { name := "N", type := 3, offset := 0, embedded := false, tag := "", pkgPath := "", byteOffset := 0 }
def nf_1 : Field := { name := "Start", type := 3, offset := 1, embedded := false, tag := "", pkgPath := "", byteOffset := 8 }
def nf_2 : Field := { name := "End", type := 3, offset := 2, embedded := false, tag := "", pkgPath := "", byteOffset := 16 }
def nf_3 : Field := { name := "Steps", type := 25, offset := 3, embedded := false, tag := "", pkgPath := "", byteOffset := 24 }
def nf_4 : Field := { name := "Free", type := 26, offset := 4, embedded := false, tag := "", pkgPath := "", byteOffset := 48 }
abbrev fsNfa : Array Field := #[nf_0, nf_1, nf_2, nf_3, nf_4]
theorem und28 : Try.prog.underlying 28 = some (.struct fsNfa) := by kernel_rfl
theorem ty25 : FlatTy enc Try.prog 25 48 3 where
  us := und25
  cells := by kernel_rfl
  pos := by decide
  row := fun {w base nf held cs y} h => by
    obtain ⟨xs, nf', rfl, _, hl, hxl, hx⟩ := DataW.trod_struct und48 h
    rw [show Try.prog.cellsOf 48 = 3 by kernel_rfl] at hl
    refine row_of_cells hl fun i hi => ?_
    have hxs : ∀ i, i < 3 → ∃ y, xs[i]? = some y := fun i hi => ⟨xs[i]'(by rw [hxl]; exact hi), List.getElem?_eq_getElem _⟩
    obtain ⟨y, hy⟩ := hxs i hi
    match i, hi with
    | 0, _ => have k := hx 0 sf0 rfl; simp only [sf0, cells3] at k; rw [hy] at k; exact at1 Try.underlying3 k
    | 1, _ => have k := hx 1 sf1 rfl; simp only [sf1, cells3] at k; rw [hy] at k; exact at1 Try.underlying3 k
    | 2, _ => have k := hx 2 sf2 rfl; simp only [sf2, cells3] at k; rw [hy] at k; exact at1 Try.underlying3 k
theorem ty26 : FlatTy enc Try.prog 26 49 2 where
  us := und26
  cells := by kernel_rfl
  pos := by decide
  row := fun {w base nf held cs y} h => by
    obtain ⟨xs, m, rfl, _, hl, hxl, hx⟩ := DataW.trod_array und49 h
    rw [show Try.prog.cellsOf 49 = 2 by kernel_rfl] at hl
    refine row_of_cells hl fun i hi => ?_
    have k := hx i hi
    rw [cells3, Nat.mul_one, List.getElem?_eq_getElem (show i < xs.length by omega)] at k
    exact at1 Try.underlying3 k
theorem ty40 : FlatTy enc Try.prog 40 3 1 where
  us := und40
  cells := cells3
  pos := by decide
  row := fun {w base nf held cs y} h => by
    obtain ⟨z, rfl⟩ := at1 Try.underlying3 h
    exact ⟨[z], rfl, rfl⟩
theorem ones : ∀ {l : List (List Int)}, (∀ r ∈ l, r.length = 1) → ∃ ns : List Int, l = ns.map ([·])
  | [], _ => ⟨[], rfl⟩
  | r :: l, h => by
    obtain ⟨ns, hn⟩ := ones fun x hx => h x (List.mem_cons_of_mem _ hx)
    have h1 := h r (List.mem_cons_self ..)
    match r, h1 with
    | [z], _ => exact ⟨z :: ns, by rw [hn]; rfl⟩
theorem open_flat {w : World} {S E : TypeId} {d : Nat} {held : Bool} (hT : FlatTy enc Try.prog S E d) {r : Reach} {base n : Nat} {v : Value} {dt : DataW H} {p : List MemPlace} (hval : Value.okWide Try.prog w r base S v) (h : DataW.Trod enc Try.prog w 0 (fun _ => true) held S v dt p) :
    ∃ m bs φ0 l a c, Laid Try.prog w n m bs φ0 ∧ (∀ φ : Emb, φ0.le φ → VRel φ (.slice a l.length c) v) ∧ ∀ M, Has M bs → FlatAt d M (.slice a l.length c) l := by
  obtain ⟨fuel, h⟩ := h
  obtain ⟨u, hu, m, bs, φ0, l, a, c, h1, h2, h3⟩ := flat_out hT fuel n _ _ h
  refine ⟨m, bs, φ0, l, a, c, h1, fun φ hφ => ?_, h3⟩
  have hv : v = u := by
    unfold Value.okWide at hval
    rw [hT.us] at hval
    simp only at hval
    cases v with
    | agg cs =>
      exfalso
      unfold Cell.okWide at hval
      rw [hT.us] at hval
      simp only at hval
      unfold Cell.ok at hval
      rw [hT.us] at hval
      exact hval
    | _ => simp [Value.cells] at hu; exact hu
  rw [hv]
  exact h2 φ hφ
theorem open_raw {w : World} {held : Bool} {v : Value} {dt : DataW H} {p : List MemPlace} (h : DataW.Trod enc Try.prog w 0 (fun _ => true) held 28 v dt p) (n : Nat) :
    ∃ m bs φ0, ∃ N st en : Int, ∃ l1 l2 a1 c1 a2 c2, Laid Try.prog w n m bs φ0 ∧ (∀ φ : Emb, φ0.le φ → VRel φ (.agg ⟨[i64 N, i64 st, i64 en, .slice a1 l1.length c1, .slice a2 l2.length c2]⟩) v) ∧
      ∀ M, Has M bs → NfaAt M (.agg ⟨[i64 N, i64 st, i64 en, .slice a1 l1.length c1, .slice a2 l2.length c2]⟩) N st en l1 l2 := by
  obtain ⟨fuel, h⟩ := h
  obtain ⟨xs, nf, rfl, _, hl, hxl, hx⟩ := DataW.trod_struct und28 h
  rw [show Try.prog.cellsOf 28 = 5 by kernel_rfl] at hl
  have hxs : ∀ i, i < 5 → ∃ y, xs[i]? = some y := fun i hi => ⟨xs[i]'(by rw [hxl]; exact hi), List.getElem?_eq_getElem _⟩
  have k0 := hx 0 nf_0 rfl
  have k1 := hx 1 nf_1 rfl
  have k2 := hx 2 nf_2 rfl
  have k3 := hx 3 nf_3 rfl
  have k4 := hx 4 nf_4 rfl
  simp only [nf_0, nf_1, nf_2, nf_3, nf_4, cells3, show Try.prog.cellsOf 25 = 1 by kernel_rfl, show Try.prog.cellsOf 26 = 1 by kernel_rfl] at k0 k1 k2 k3 k4
  obtain ⟨y0, e0⟩ := hxs 0 (by decide)
  obtain ⟨y1, e1⟩ := hxs 1 (by decide)
  obtain ⟨y2, e2⟩ := hxs 2 (by decide)
  obtain ⟨y3, e3⟩ := hxs 3 (by decide)
  obtain ⟨y4, e4⟩ := hxs 4 (by decide)
  rw [e0] at k0
  rw [e1] at k1
  rw [e2] at k2
  rw [e3] at k3
  rw [e4] at k4
  obtain ⟨N, z0⟩ := at1 Try.underlying3 k0
  obtain ⟨st, z1⟩ := at1 Try.underlying3 k1
  obtain ⟨en, z2⟩ := at1 Try.underlying3 k2
  obtain ⟨u1, z3, m1, b1, φ1, l1, a1, c1, p1, p2, p3⟩ := flat_out ty25 nf n _ _ k3
  obtain ⟨u2, z4, m2, b2, φ2, l2, a2, c2, q1, q2, q3⟩ := flat_out ty26 nf m1 _ _ k4
  have hcs : v.cells.toList = [i64 N, i64 st, i64 en, u1, u2] := by
    match hc : v.cells.toList, hl with
    | [x0, x1, x2, x3, x4], _ =>
      rw [hc] at z0 z1 z2 z3 z4
      simp at z0 z1 z2 z3 z4
      rw [z0, z1, z2, z3, z4]
  have hv : v = .agg v.cells := by
    cases v with
    | agg cs => rfl
    | _ => simp [Value.cells] at hl
  refine ⟨m2, b1 ++ b2, both φ1 φ2, N, st, en, l1, l2, a1, c1, a2, c2, p1.join q1, fun φ hφ => ?_, fun M hM => ⟨_, _, rfl, p3 M hM.left, q3 M hM.right⟩⟩
  rw [hv]
  have hL : LRel φ [i64 N, i64 st, i64 en, .slice a1 l1.length c1, .slice a2 l2.length c2] v.cells.toList := by
    rw [hcs]
    exact .cons (.leaf rfl) (.cons (.leaf rfl) (.cons (.leaf rfl) (.cons (p2 φ fun i e hi => hφ i e (both_l φ1 φ2 i e hi)) (.cons (q2 φ fun i e hi => hφ i e (both_r p1 q1 i e hi)) .nil))))
  exact VRel.agg (x := [i64 N, i64 st, i64 en, .slice a1 l1.length c1, .slice a2 l2.length c2]) (x' := v.cells.toList) hL
end
end Go.Proofs.Ytnpalannikpfoaa.nfaChecks

open Go Go.Am Go.Proofs
namespace Go.Proofs.Ytnpalannikpfoaa.nfaChecks
set_option maxRecDepth 100000
open Go.ChangeShapes Go.WideShapes Go.ChangeAt Go.RowKit
theorem law_all {n st en : Int} {a1 : Option Addr} {c1 : Nat} {a2 : Option Addr} {c2 : Nat} {l1 l2 : List (List Int)} (x : Int) {a : Option Addr} {c : Nat} {l : List (List Int)} (y w v : Int) {M : Mem} (hM : MemOk M)
    (hr : NfaAt M (.agg ⟨[i64 n, i64 st, i64 en, .slice a1 l1.length c1, .slice a2 l2.length c2]⟩) n st en l1 l2) (hs : FlatAt 1 M (.slice a l.length c) l) :
    ∃ M', Ev Try.prog [] 5 [.agg ⟨[i64 n, i64 st, i64 en, .slice a1 l1.length c1, .slice a2 l2.length c2]⟩, i64 x, .slice a l.length c, i64 y, i64 w, i64 v] M (.bool true) M' := by
  obtain ⟨ns, rfl⟩ := ones hs.wide
  have hm := modI_range (x := w) (n := 7) (by decide)
  obtain ⟨j, hj⟩ : ∃ j : Nat, modI w 7 = (j : Int) := ⟨(modI w 7).toNat, by omega⟩
  rw [List.length_map] at hs ⊢
  cases cc0 : fewB l1 l2 with
  | true => exact w5_0 n st en a1 c1 a2 c2 l1 l2 x a c ns y w v j hM hr hs (by omega) hj cc0
  | false => exact w5_1 n st en a1 c1 a2 c2 l1 l2 x a c ns y w v j hM hr hs (by omega) hj cc0
theorem readable : ∀ t ∈ ([28, 3, 40, 3, 3, 3] : List TypeId), Try.prog.readableRec t = true ∧ t < Try.prog.types.size := by
  have h : ([28, 3, 40, 3, 3, 3] : List TypeId).all (fun t => Try.prog.readableRec t && Nat.blt t Try.prog.types.size) = true := by kernel_rfl
  intro t ht
  have := List.all_eq_true.1 h t ht
  simp only [Bool.and_eq_true] at this
  exact ⟨this.1, Nat.le_of_ble_eq_true this.2⟩
theorem contract (H : Type) (enc : TypeId × Value → H) (W : World) (base : Nat) (args : Array Value) (ds gs : List (DataW H)) (before : List MemPlace)
    (hval : ∀ (j : Nat) t v, Try.f5.params[j]? = some t → args[j]? = some v → Value.okWide Try.prog W .any base t v)
    (hW : DataW.Whole enc Try.prog Try.f5.params.toList Rows.nfaChecksSpec.vars false W args.toList ds gs before) :
    Calls Try.prog 5 args W fun e W' => ∃ v, e = .returned v ∧ Rows.nfaChecksSpec.post enc Try.prog Try.f5 false true false false W args v W' := by
  have hW' := hW
  obtain ⟨p, q, hA0, hV, rfl, hfz, hnd⟩ := hW
  have hpar : Try.f5.params = #[28, 3, 40, 3, 3, 3] := by kernel_rfl
  have hA : DataW.TrodAll enc Try.prog W 0 (fun _ => true) true [28, 3, 40, 3, 3, 3] args.toList ds p := by rw [hpar] at hA0; exact hA0
  rw [hpar] at hval
  have hAll := hA
  obtain ⟨v0, vs0, d0, ds0, p0, q0, hargs, rfl, rfl, h0, r0⟩ := trodAll_cons hA
  obtain ⟨v1, vs1, d1, ds1, p1, q1, rfl, rfl, rfl, h1, r1⟩ := trodAll_cons r0
  obtain ⟨v2, vs2, d2, ds2, p2, q2, rfl, rfl, rfl, h2, r2⟩ := trodAll_cons r1
  obtain ⟨v3, vs3, d3, ds3, p3, q3, rfl, rfl, rfl, h3, r3⟩ := trodAll_cons r2
  obtain ⟨v4, vs4, d4, ds4, p4, q4, rfl, rfl, rfl, h4, r4⟩ := trodAll_cons r3
  obtain ⟨v5, vs5, d5, ds5, p5, q5, rfl, rfl, rfl, h5, r5⟩ := trodAll_cons r4
  obtain ⟨rfl, rfl, rfl⟩ := trodAll_nil r5
  obtain rfl : args = #[v0, v1, v2, v3, v4, v5] := by cases args; simp_all
  obtain ⟨rfl, rfl⟩ := trodVars_none hV
  obtain ⟨x1, rfl, _, _, _⟩ := open_int Try.underlying3 (hval 1 3 v1 rfl rfl) h1
  obtain ⟨x3, rfl, _, _, _⟩ := open_int Try.underlying3 (hval 3 3 v3 rfl rfl) h3
  obtain ⟨x4, rfl, _, _, _⟩ := open_int Try.underlying3 (hval 4 3 v4 rfl rfl) h4
  obtain ⟨x5, rfl, _, _, _⟩ := open_int Try.underlying3 (hval 5 3 v5 rfl rfl) h5
  obtain ⟨m0, bs0, φ0, N, st, en, l1, l2, a1, c1, a2, c2, k1, k2, k3⟩ := open_raw h0 0
  obtain ⟨m1, bs1, φ1, l, a, c, e1, e2, e3⟩ := open_flat ty40 (n := m0) (hval 2 40 v2 rfl rfl) h2
  have hj := k1.join e1
  have hhas := hj.has
  obtain ⟨M', hev⟩ := law_all x1 x3 x4 x5 (MemOk.start _ _) (k3 _ hhas.left) (e3 _ hhas.right)
  have hlr : LRel (both φ0 φ1) [.agg ⟨[i64 N, i64 st, i64 en, .slice a1 l1.length c1, .slice a2 l2.length c2]⟩, i64 x1, .slice a l.length c, i64 x3, i64 x4, i64 x5] [v0, i64 x1, v2, i64 x3, i64 x4, i64 x5] :=
    .cons (k2 _ (both_l φ0 φ1)) (.cons (.leaf rfl) (.cons (e2 _ (both_r k1 e1)) (LRel.refl_flat _ _ rfl)))
  refine (calls_ev hj.knows hev hlr).mono fun e W' ⟨φ', v', he, hk, hv, _, _⟩ => ?_
  obtain rfl := hv.bool_inv
  refine ⟨_, he, post_of_kept (pv := []) hW' (fun _ _ _ => trodAll_cons_mk (shut_bool Try.underlying4 _) trodAll_mk0) (fun sp hsp => ?_) (fun _ _ => rfl) rfl hk (ok_one (by kernel_rfl) rfl (okWide_bool_mk Try.underlying4 _))⟩
  rw [hpar]
  exact trodAll_kept laidOut hk readable hAll (fun p hp => hW'.lt p (List.mem_append_left _ hp)) (fun p hp => hsp p (List.mem_append_left _ hp))
theorem lifted (os : Os) (started : os.Started) (H : Type) (enc : TypeId × Value → H) :
    ReturnsInHanded {} Try.checked os 5 .any (Rows.nfaChecksSpec.pre6 enc Try.prog Try.f5 Rows.nfaChecksRow.domain false) (Rows.nfaChecksSpec.post enc Try.prog Try.f5 false true false false) := by
  refine returnsInHanded_of_change (C := Try.checked) own' started (by kernel_rfl) Try.func5
    (ChangeSpec.witness6 (enc := enc) (C := Try.checked) false ⟨#[], #[.agg #[.int .i64 0, .int .i64 0, .int .i64 0, .slice none 0 0, .slice none 0 0], .int .i64 0, .slice none 0 0, .int .i64 0, .int .i64 0, .int .i64 0], []⟩ 8 (by kernel_rfl) (by kernel_rfl) (by kernel_rfl) (by kernel_rfl)) ?_
  intro W base args ds gs before hval hW _ _
  exact contract H enc W base args ds gs before hval hW
theorem holds : Rows.NfaChecksSaid :=
  OpenClaim.holds_of_wide 5 Try.f5 rfl rfl rfl rfl rfl rfl rfl ⟨rfl, rfl, rfl, rfl, rfl⟩ rfl rfl rfl rfl rfl (by kernel_rfl) Try.func5 (by kernel_rfl)
    (of_decide_eq_true (by kernel_rfl)) (by unfold Func.isWrapper; first | (rw [if_pos (by decide +kernel)]; kernel_rfl) | (rw [if_neg (by decide +kernel)]; exact ⟨rfl, rfl⟩))
    (fun os started H enc _ => lifted os started H enc)
#print axioms holds
end Go.Proofs.Ytnpalannikpfoaa.nfaChecks
