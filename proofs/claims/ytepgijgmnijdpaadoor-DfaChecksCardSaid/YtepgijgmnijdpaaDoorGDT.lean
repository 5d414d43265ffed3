/-
  DfaChecks: whether any machine is allowed is the document's
-/
import Derived.Test.YtepgijgmnijdpaaDoorDB
import Derived.Test.YtepgijgmnijdpaaDoorAmCall
import Derived.Test.YtepgijgmnijdpaaDoorAmStart
import Derived.Deep.DeepHandedRow
import Derived.OpenShut
import Derived.ProofKit
import Derived.Lib.LaidTab
import Derived.Test.YtepgijgmnijdpaaDoorRows
import Derived.Test.YtepgijgmnijdpaaDoorGD3
import Derived.Test.YtepgijgmnijdpaaDoorGAmFlat
import Derived.Stop.LaidErr
import Derived.Test.YtepgijgmnijdpaaDoorCards
import Derived.Test.YtepgijgmnijdpaaDoorTie
import Derived.Test.YtepgijgmnijdpaaDoorChecked
open Go Go.Am Go.Proofs
namespace Go.Proofs.YtepgijgmnijdpaaDoor
set_option maxRecDepth 100000
open Go.ChangeShapes Go.WideShapes Go.ChangeAt Go.RowKit
theorem heap_of_var {P : Program} {W : World} {n : String} {g : Nat} {cs : Array Value} (hg : P.globalNamed n = some g) (h : W.var? P n = some cs) : ∃ t fr, W.heap[g]? = some (.cells cs t fr) := by
  unfold World.var? at h
  rw [hg] at h
  simp only [Option.bind_some] at h
  split at h
  · rename_i c t fr hc
    cases h
    exact ⟨_, _, hc⟩
  · cases h
end Go.Proofs.YtepgijgmnijdpaaDoor

open Go Go.Am Go.Proofs
namespace Go.Proofs.YtepgijgmnijdpaaDoor
set_option maxRecDepth 100000
open Go.ChangeShapes Go.WideShapes Go.ChangeAt Go.RowKit
theorem row_of_cells {d : Nat} {cs : List Value} (hl : cs.length = d) (h : ∀ i, i < d → ∃ z : Int, (cs.drop i).take 1 = [i64 z]) : ∃ zs : List Int, zs.length = d ∧ cs = zs.map i64 := by
  refine ⟨(List.range d).map fun i => zOf cs[i]?, by simp, ?_⟩
  apply List.ext_getElem?
  intro i
  by_cases hi : i < d
  · obtain ⟨z, hz⟩ := h i hi
    have h1 : cs[i]? = some (i64 z) := by
      have : ((cs.drop i).take 1)[0]? = some (i64 z) := by rw [hz]; rfl
      rw [List.getElem?_take, if_pos (by omega), List.getElem?_drop] at this
      exact this
    rw [List.map_map, List.getElem?_map, List.getElem?_range hi, h1]
    simp only [Option.map_some, Function.comp_apply, h1, zOf_i64]
  · rw [List.getElem?_eq_none (by omega), List.getElem?_eq_none (by simp; omega)]
section
variable {H : Type} {enc : TypeId × Value → H}
theorem at1 {w : World} {base nf : Nat} {sp : Nat → Bool} {held : Bool} {t : TypeId} {cs : List Value} {y : DataW H × List MemPlace} (ht : Tryd.prog.underlying t = some (.int .i64)) (h : DataW.trod enc Tryd.prog w base sp held nf t cs = some y) : ∃ z : Int, cs = [i64 z] := by
  obtain ⟨z, h1, _⟩ := DataW.trod_int ht h
  exact ⟨z, h1⟩
theorem cells3 : Tryd.prog.cellsOf 3 = 1 := by kernel_rfl
theorem und31 : Tryd.prog.underlying 31 = some (.array 5 3) := by kernel_rfl
theorem und22 : Tryd.prog.underlying 22 = some (.slice 31) := by kernel_rfl
theorem und23 : Tryd.prog.underlying 23 = some (.slice 4) := by kernel_rfl
theorem und26 : Tryd.prog.underlying 26 = some (.slice 3) := by kernel_rfl
def df_0 : Field := { name := "Next", type := 22, offset := 0, embedded := false, tag := "", pkgPath := "", byteOffset := 0 }
def df_1 : Field := { name := "Accept", type := 23, offset := 1, embedded := false, tag := "", pkgPath := "", byteOffset := 24 }
abbrev fsDfa : Array Field := #[df_0, df_1]
theorem und25 : Tryd.prog.underlying 25 = some (.struct fsDfa) := by kernel_rfl
theorem ty22 : FlatTy enc Tryd.prog 22 31 5 where
  us := und22
  cells := by kernel_rfl
  pos := by decide
  row := fun {w base nf held cs y} h => by
    obtain ⟨xs, m, rfl, _, hl, hxl, hx⟩ := DataW.trod_array und31 h
    rw [show Tryd.prog.cellsOf 31 = 5 by kernel_rfl] at hl
    refine row_of_cells hl fun i hi => ?_
    have k := hx i hi
    rw [cells3, Nat.mul_one, List.getElem?_eq_getElem (show i < xs.length by omega)] at k
    exact at1 Tryd.underlying3 k
theorem ty23 : FlatTyG bRow enc Tryd.prog 23 4 1 where
  flat := fun _ => rfl
  us := und23
  cells := by kernel_rfl
  pos := by decide
  row := fun {w base nf held cs y} h => by
    obtain ⟨b, h1, _⟩ := DataW.trod_bool Tryd.underlying4 h
    exact ⟨b, rfl, h1⟩
theorem ty26 : FlatTy enc Tryd.prog 26 3 1 where
  us := und26
  cells := cells3
  pos := by decide
  row := fun {w base nf held cs y} h => by
    obtain ⟨z, rfl⟩ := at1 Tryd.underlying3 h
    exact ⟨[z], rfl, rfl⟩
theorem ones : ∀ {l : List (List Int)}, (∀ r ∈ l, r.length = 1) → ∃ ns : List Int, l = ns.map ([·])
  | [], _ => ⟨[], rfl⟩
  | r :: l, h => by
    obtain ⟨ns, hn⟩ := ones fun x hx => h x (List.mem_cons_of_mem _ hx)
    have h1 := h r (List.mem_cons_self ..)
    match r, h1 with
    | [z], _ => exact ⟨z :: ns, by rw [hn]; rfl⟩
theorem open_flat {w : World} {S E : TypeId} {d : Nat} {held : Bool} (hT : FlatTy enc Tryd.prog S E d) {r : Reach} {base n : Nat} {v : Value} {dt : DataW H} {p : List MemPlace} (hval : Value.okWide Tryd.prog w r base S v) (h : DataW.Trod enc Tryd.prog w 0 (fun _ => true) held S v dt p) :
    ∃ m bs φ0 l a c, Laid Tryd.prog w n m bs φ0 ∧ (∀ φ : Emb, φ0.le φ → VRel φ (.slice a l.length c) v) ∧ ∀ M, Has M bs → FlatAt d M (.slice a l.length c) l := by
  obtain ⟨fuel, h⟩ := h
  obtain ⟨u, hu, m, bs, φ0, l, a, c, h1, h2, h3⟩ := flat_out hT fuel n _ _ h
  refine ⟨m, bs, φ0, l, a, c, h1, fun φ hφ => ?_, h3⟩
  have hv : v = u := by
    unfold Value.okWide at hval
    rw [hT.us] at hval
    simp only at hval
    cases v with
    | agg cs =>
      exfalso
      unfold Cell.okWide at hval
      rw [hT.us] at hval
      simp only at hval
      unfold Cell.ok at hval
      rw [hT.us] at hval
      exact hval
    | _ => simp [Value.cells] at hu; exact hu
  rw [hv]
  exact h2 φ hφ
theorem open_raw {w : World} {held : Bool} {v : Value} {dt : DataW H} {p : List MemPlace} (h : DataW.Trod enc Tryd.prog w 0 (fun _ => true) held 25 v dt p) (n : Nat) :
    ∃ m bs φ0, ∃ l1 l2 a1 c1 a2 c2, Laid Tryd.prog w n m bs φ0 ∧ (∀ φ : Emb, φ0.le φ → VRel φ (.agg ⟨[.slice a1 l1.length c1, .slice a2 l2.length c2]⟩) v) ∧
      ∀ M, Has M bs → DfaAt M (.agg ⟨[.slice a1 l1.length c1, .slice a2 l2.length c2]⟩) l1 l2 := by
  obtain ⟨fuel, h⟩ := h
  obtain ⟨xs, nf, rfl, _, hl, hxl, hx⟩ := DataW.trod_struct und25 h
  rw [show Tryd.prog.cellsOf 25 = 2 by kernel_rfl] at hl
  have hxs : ∀ i, i < 2 → ∃ y, xs[i]? = some y := fun i hi => ⟨xs[i]'(by rw [hxl]; exact hi), List.getElem?_eq_getElem _⟩
  have k0 := hx 0 df_0 rfl
  have k1 := hx 1 df_1 rfl
  simp only [df_0, df_1, show Tryd.prog.cellsOf 22 = 1 by kernel_rfl, show Tryd.prog.cellsOf 23 = 1 by kernel_rfl] at k0 k1
  obtain ⟨y0, e0⟩ := hxs 0 (by decide)
  obtain ⟨y1, e1⟩ := hxs 1 (by decide)
  rw [e0] at k0
  rw [e1] at k1
  obtain ⟨u1, z0, m1, b1, φ1, l1, a1, c1, p1, p2, p3⟩ := flat_out ty22 nf n _ _ k0
  obtain ⟨u2, z1, m2, b2, φ2, l2, a2, c2, q1, q2, q3⟩ := flatG_out ty23 nf m1 _ _ k1
  have hcs : v.cells.toList = [u1, u2] := by
    match hc : v.cells.toList, hl with
    | [x0, x1], _ =>
      rw [hc] at z0 z1
      simp at z0 z1
      rw [z0, z1]
  have hv : v = .agg v.cells := by
    cases v with
    | agg cs => rfl
    | _ => simp [Value.cells] at hl
  refine ⟨m2, b1 ++ b2, both φ1 φ2, l1, l2, a1, c1, a2, c2, p1.join q1, fun φ hφ => ?_, fun M hM => ⟨_, _, rfl, p3 M hM.left, q3 M hM.right⟩⟩
  rw [hv]
  have hL : LRel φ [.slice a1 l1.length c1, .slice a2 l2.length c2] v.cells.toList := by
    rw [hcs]
    exact .cons (p2 φ fun i e hi => hφ i e (both_l φ1 φ2 i e hi)) (.cons (q2 φ fun i e hi => hφ i e (both_r p1 q1 i e hi)) .nil)
  exact VRel.agg (x := [.slice a1 l1.length c1, .slice a2 l2.length c2]) (x' := v.cells.toList) hL
end
def φT : Emb := fun id => if id = 0 then some ⟨0, 0, 64, 1⟩ else none
theorem laidT {W : World} (hL : laidMet Tryd.prog Rows.dfaChecksRow.laid W) : ∃ e, Laid Tryd.prog W 0 1 [(0, tabB e)] φT := by
  have g0 : Tryd.prog.globalNamed "math/bits.deBruijn64tab" = some 0 := by kernel_rfl
  have htab := Lib.tabIs_of_head (k := .u8) (zs := [0, 1, 56, 2, 57, 49, 28, 3, 61, 58, 42, 50, 38, 29, 17, 4, 62, 47, 59, 36, 45, 43, 51, 22, 53, 39, 33, 30, 24, 18, 12, 5, 63, 55, 48, 27, 60, 41, 37, 16, 46, 35, 44, 21, 52, 32, 23, 11, 54, 26, 40, 15, 34, 20, 31, 10, 25, 14, 19, 9, 13, 8, 7, 6]) g0 (by kernel_rfl) Tryd.underlying143 Tryd.underlying5 (by kernel_rfl) (by kernel_rfl) hL
  obtain ⟨t0, f0, h0⟩ := heap_of_var g0 htab
  refine ⟨t0, by decide, fun i e h => ?_, fun p hp => ?_, by simp, fun p hp => ?_, fun p hp => ?_⟩
  · unfold φT at h
    split at h
    · omega
    · cases h
  · rw [List.mem_singleton.1 hp]; simp
  · rw [List.mem_singleton.1 hp]; exact ⟨rfl, rfl⟩
  · rw [List.mem_singleton.1 hp]
    exact ⟨⟨0, 0, 64, 1⟩, rfl, fun φ _ => BRel.table h0 (LRel.refl_flat _ _ (by kernel_rfl))⟩
theorem knowsA {w : World} {m : Nat} {bs : List (Nat × ABlk)} {φ0 : Emb} (h : Laid Tryd.prog w 0 m bs φ0) (hm : 1 ≤ m) (hT : φT.le φ0) : Knows1 Tryd.prog [0] φ0 bs m w :=
  ⟨h.knows.blk, h.knows.ro, fun g hg => by
    simp only [List.mem_cons, List.not_mem_nil, or_false] at hg
    subst hg
    exact ⟨hm, _, hT 0 _ rfl, rfl, rfl⟩, h.knows.fresh⟩
theorem readable {ts : List TypeId} (h : ts.all (fun t => Tryd.prog.readableRec t && Nat.blt t Tryd.prog.types.size) = true) : ∀ t ∈ ts, Tryd.prog.readableRec t = true ∧ t < Tryd.prog.types.size := by
  intro t ht
  have := List.all_eq_true.1 h t ht
  simp only [Bool.and_eq_true] at this
  exact ⟨this.1, Nat.le_of_ble_eq_true this.2⟩
end Go.Proofs.YtepgijgmnijdpaaDoor

open Go Go.Am Go.Proofs
namespace Go.Proofs.YtepgijgmnijdpaaDoor.dfaChecks
set_option maxRecDepth 100000
open Go.ChangeShapes Go.WideShapes Go.ChangeAt Go.RowKit
theorem law_all {a1 : Option Addr} {c1 : Nat} {a2 : Option Addr} {c2 : Nat} {l1 : List (List Int)} {l2 : List Bool} (x : Int) {a : Option Addr} {c : Nat} {l : List (List Int)} (y w v : Int) {e : TypeId} {M : Mem} (hM : MemOk M) (hT : M.get 0 = some (tabB e))
    (hr : DfaAt M (.agg ⟨[.slice a1 l1.length c1, .slice a2 l2.length c2]⟩) l1 l2) (hs : FlatAt 1 M (.slice a l.length c) l) :
    ∃ M', Ev Tryd.prog [0] 3 [.agg ⟨[.slice a1 l1.length c1, .slice a2 l2.length c2]⟩, i64 x, .slice a l.length c, i64 y, i64 w, i64 v] M (.bool true) M' := by
  obtain ⟨ns, rfl⟩ := ones hs.wide
  have hm := modI_range (x := w) (n := 4) (by decide)
  obtain ⟨j, hj⟩ : ∃ j : Nat, modI w 4 = (j : Int) := ⟨(modI w 4).toNat, by omega⟩
  rw [List.length_map] at hs ⊢
  cases cc0 : fewB l1 l2 with
  | true => exact w3_0 a1 c1 a2 c2 l1 l2 x a c ns y w v j e hM hT hr hs (by omega) hj cc0
  | false => exact w3_1 a1 c1 a2 c2 l1 l2 x a c ns y w v j e hM hT hr hs (by omega) hj cc0
theorem contract (H : Type) (enc : TypeId × Value → H) (W : World) (base : Nat) (args : Array Value) (ds gs : List (DataW H)) (before : List MemPlace)
    (hval : ∀ (j : Nat) t v, Tryd.f3.params[j]? = some t → args[j]? = some v → Value.okWide Tryd.prog W .any base t v)
    (hW : DataW.Whole enc Tryd.prog Tryd.f3.params.toList Rows.dfaChecksSpec.vars false W args.toList ds gs before) (hL : laidMet Tryd.prog Rows.dfaChecksRow.laid W) :
    Calls Tryd.prog 3 args W fun e W' => ∃ v, e = .returned v ∧ Rows.dfaChecksSpec.post enc Tryd.prog Tryd.f3 false true false false W args v W' := by
  have hW' := hW
  obtain ⟨p, q, hA0, hV, rfl, hfz, hnd⟩ := hW
  have hpar : Tryd.f3.params = #[25, 3, 26, 3, 3, 3] := by kernel_rfl
  have hA : DataW.TrodAll enc Tryd.prog W 0 (fun _ => true) true [25, 3, 26, 3, 3, 3] args.toList ds p := by rw [hpar] at hA0; exact hA0
  rw [hpar] at hval
  have hAll := hA
  obtain ⟨v0, vs0, d0, ds0, p0, q0, hargs, rfl, rfl, h0, r0⟩ := trodAll_cons hA
  obtain ⟨v1, vs1, d1, ds1, p1, q1, rfl, rfl, rfl, h1, r1⟩ := trodAll_cons r0
  obtain ⟨v2, vs2, d2, ds2, p2, q2, rfl, rfl, rfl, h2, r2⟩ := trodAll_cons r1
  obtain ⟨v3, vs3, d3, ds3, p3, q3, rfl, rfl, rfl, h3, r3⟩ := trodAll_cons r2
  obtain ⟨v4, vs4, d4, ds4, p4, q4, rfl, rfl, rfl, h4, r4⟩ := trodAll_cons r3
  obtain ⟨v5, vs5, d5, ds5, p5, q5, rfl, rfl, rfl, h5, r5⟩ := trodAll_cons r4
  obtain ⟨rfl, rfl, rfl⟩ := trodAll_nil r5
  obtain rfl : args = #[v0, v1, v2, v3, v4, v5] := by cases args; simp_all
  obtain ⟨rfl, rfl⟩ := trodVars_none hV
  obtain ⟨x1, rfl, _, _, _⟩ := open_int Tryd.underlying3 (hval 1 3 v1 rfl rfl) h1
  obtain ⟨x3, rfl, _, _, _⟩ := open_int Tryd.underlying3 (hval 3 3 v3 rfl rfl) h3
  obtain ⟨x4, rfl, _, _, _⟩ := open_int Tryd.underlying3 (hval 4 3 v4 rfl rfl) h4
  obtain ⟨x5, rfl, _, _, _⟩ := open_int Tryd.underlying3 (hval 5 3 v5 rfl rfl) h5
  obtain ⟨e, kT⟩ := laidT hL
  obtain ⟨m0, bs0, φ0, l01, l02, a01, c01, a02, c02, k01, k02, k03⟩ := open_raw h0 1
  have J0 := kT.join k01
  obtain ⟨m2, bs2, φ2, l2, a2, c2, k21, k22, k23⟩ := open_flat ty26 (n := m0) (hval 2 26 v2 rfl rfl) h2
  have J2 := J0.join k21
  have hhas := J2.has
  have hT : (startMem _ m2).get 0 = some (tabB e) := hhas.left.left _ (List.mem_singleton.2 rfl)
  obtain ⟨M', hev⟩ := law_all x1 x3 x4 x5 (MemOk.start _ _) hT (k03 _ hhas.left.right) (k23 _ hhas.right)
  have hlr : LRel (both (both φT φ0) φ2) [.agg ⟨[.slice a01 l01.length c01, .slice a02 l02.length c02]⟩, i64 x1, .slice a2 l2.length c2, i64 x3, i64 x4, i64 x5] [v0, i64 x1, v2, i64 x3, i64 x4, i64 x5] := (.cons (k02 _ (fun id ee hh => both_l (both φT φ0) φ2 id ee ((both_r kT k01) id ee hh))) (.cons (.leaf rfl) (.cons (k22 _ (both_r J0 k21)) (.cons (.leaf rfl) (.cons (.leaf rfl) (.cons (.leaf rfl) .nil))))))
  have hm1 : 1 ≤ m2 := by have := k01.le; have := k21.le; omega
  refine (calls_ev (knowsA J2 hm1 (fun id ee hh => both_l (both φT φ0) φ2 id ee ((both_l φT φ0) id ee hh))) hev hlr).mono fun e W' ⟨φ', v', he, hk, hv, _, _⟩ => ?_
  obtain rfl := hv.bool_inv
  refine ⟨_, he, post_of_kept (pv := []) hW' (fun _ _ _ => trodAll_cons_mk (shut_bool Tryd.underlying4 _) trodAll_mk0) (fun sp hsp => ?_) (fun _ _ => rfl) rfl hk (ok_one (by kernel_rfl) rfl (okWide_bool_mk Tryd.underlying4 _))⟩
  rw [hpar]
  exact trodAll_kept laidOut hk (readable (by kernel_rfl)) hAll (fun p hp => hW'.lt p (List.mem_append_left _ hp)) (fun p hp => hsp p (List.mem_append_left _ hp))
end Go.Proofs.YtepgijgmnijdpaaDoor.dfaChecks

open Go Go.Am Go.Proofs
namespace Go.Proofs.YtepgijgmnijdpaaDoor.dfaChecks
set_option maxRecDepth 100000
open Go.ChangeShapes Go.WideShapes Go.ChangeAt Go.RowKit
def flatD : Nat → DataW Unit → List Value
  | 0, _ => []
  | n + 1, .agg l => l.flatMap (flatD n)
  | _ + 1, .lit (.int k z) => [.int k z]
  | _, _ => []
def lay (c : List Value) : Obj → Obj
  | .cells _ t frozen => .cells c.toArray t frozen
  | o => o
noncomputable def laidWorld (os : Os) : World :=
  let w0 := World.holding Tryd.prog os ⟨#[], #[], []⟩
  { w0 with heap := (w0.heap.modify 0 (lay (flatD 3 Rows.laid_math_bits_deBruijn64tab))) }
theorem laid_met (os : Os) (args : Array Value) : laidMet Tryd.prog Rows.dfaChecksRow.laid ((laidWorld os).forCall (fun _ _ => 0) ⟨#[], args, []⟩).memory :=
  laidMet_of_run' 8 (by kernel_rfl) (by kernel_rfl)
theorem own : ownKnob Tryd.prog.godebug = none := by kernel_rfl
theorem reads (os : Os) {H : Type} (enc : TypeId × Value → H) : ∃ places, DataW.whole enc Tryd.prog ((laidWorld os).forCall (fun _ _ => 0) ⟨#[], #[Value.agg ⟨[.slice none 0 0, .slice none 0 0]⟩, Value.int .i64 0, Value.slice none 0 0, Value.int .i64 0, Value.int .i64 0, Value.int .i64 0], []⟩).memory Tryd.f3.params.toList Rows.dfaChecksSpec.vars false (#[Value.agg ⟨[.slice none 0 0, .slice none 0 0]⟩, Value.int .i64 0, Value.slice none 0 0, Value.int .i64 0, Value.int .i64 0, Value.int .i64 0] : Array Value).toList 8 = some ([.agg [.nil, .nil], .lit (.int .i64 0), .nil, .lit (.int .i64 0), .lit (.int .i64 0), .lit (.int .i64 0)], [], places) :=
  ⟨[], by kernel_rfl⟩
theorem lifted (os : Os) (started : os.Started) (H : Type) (enc : TypeId × Value → H) (F : Stop.Interp) :
    ReturnsInHanded {} Tryd.checked os 3 .any ((OpenSpec.ofChange Rows.dfaChecksSpec).preRow enc Tryd.prog Tryd.f3 Rows.dfaChecksRow.domain false Rows.dfaChecksRow.laid) (((OpenSpec.ofChange Rows.dfaChecksSpec).at F).post enc Tryd.prog Tryd.f3 false true false false) := by
  obtain ⟨places, hx⟩ := reads os enc
  refine returnsInHanded_of_row (C := Tryd.checked) (s := OpenSpec.ofChange Rows.dfaChecksSpec) own started (by kernel_rfl) Tryd.func3
    (witness_row_at (enc := enc) (C := Tryd.checked) false (laidWorld os) #[Value.agg ⟨[.slice none 0 0, .slice none 0 0]⟩, Value.int .i64 0, Value.slice none 0 0, Value.int .i64 0, Value.int .i64 0, Value.int .i64 0] rfl (by kernel_rfl) (by kernel_rfl) (by kernel_rfl)
      (OpenSpec.preRow_of_cond 8 hx (by kernel_rfl) (fun k hk => by cases hk) (by kernel_rfl) (laid_met os _))) ?_
  intro W base args ds gs before hval hW _ _ _ hL _ _
  exact contract H enc W base args ds gs before hval hW hL
theorem said : Rows.DfaChecksSaid :=
  OpenClaim.holds_of_cond 3 Tryd.f3 rfl rfl rfl rfl rfl rfl rfl ⟨rfl, rfl, rfl, rfl, rfl⟩ rfl rfl rfl rfl rfl (by kernel_rfl) Tryd.func3 (by kernel_rfl)
    (of_decide_eq_true (by kernel_rfl)) (by unfold Func.isWrapper; first | (rw [if_pos (by decide +kernel)]; kernel_rfl) | (rw [if_neg (by decide +kernel)]; exact ⟨rfl, rfl⟩))
    (fun os started H enc _ F => by rw [OpenClaim.pre_eq_preRow]; exact lifted os started H enc F)
theorem plain (f : FuncId) (fn : Func) (hf : Tryd.pinned.checked.prog.funcNamed "milestone/milestonelaw7.DfaChecks" = some f) (hfn : Tryd.pinned.checked.prog.funcs[f]? = some fn) :
    false = Tryd.pinned.checked.prog.looks [] ∧ ∀ (j : Nat) t, fn.params[j]? = some t → Tryd.pinned.checked.prog.wantsStandIn t = false := by
  obtain rfl : f = 3 := Option.some.inj ((show Tryd.prog.funcNamed "milestone/milestonelaw7.DfaChecks" = some 3 by kernel_rfl).symm.trans hf) |>.symm
  obtain rfl : fn = Tryd.f3 := (Option.some.inj (Tryd.func3.symm.trans hfn)).symm
  refine ⟨by kernel_rfl, fun j t ht => ?_⟩
  have hall : Tryd.f3.params.all (fun t => !Tryd.prog.wantsStandIn t) = true := by kernel_rfl
  have := (Array.all_eq_true_iff_forall_mem.1 hall) t (Array.mem_of_getElem? ht)
  exact (show Tryd.prog.wantsStandIn t = false by
    cases hw : Tryd.prog.wantsStandIn t with
    | false => rfl
    | true => rw [hw] at this; cases this)
theorem card : Rows.DfaChecksCardSaid :=
  Claim7.holds_tied_plain_at .later [] _ _ _ _ said (fun _ h => by cases h) (by kernel_rfl) (fun _ h => by cases h) dfaChecks_row_tie rfl ⟨rfl, rfl⟩ (by kernel_rfl) rfl plain (by kernel_rfl)
#print axioms card
end Go.Proofs.YtepgijgmnijdpaaDoor.dfaChecks
