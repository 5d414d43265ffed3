/-
  THE ABSTRACT MACHINE: a law of integers, bools, rows of integers, from its run.
-/
import Derived.Test.YtchnlooenomfnaaGreatDoorAmLib
import Derived.Test.YtchnlooenomfnaaGreatDoorAmArgs
import Derived.Deep.DeepHandedRow
import Derived.OpenShut
import Derived.ProofKit
noncomputable section
namespace Go.Am
open Go Go.ChangeShapes Go.WideShapes Go.ChangeAt Go.RowKit

variable {P : Program} {GL : List Nat} {B : Bd}

inductive Arg where
  | int (z : Int)
  | bool (b : Bool)
  | none
  | row (zs : List Int) (elem : TypeId)

def argV (id : Nat) : Arg → Value
  | .int z => i64 z
  | .bool b => .bool b
  | .none => .slice .none 0 0
  | .row zs _ => sl id zs.length
def argB (id : Nat) : Arg → List (Nat × ABlk)
  | .row zs e => [(id, ro (ints zs) e 1)]
  | _ => []
def argVs : Nat → List Arg → List Value
  | _, [] => []
  | i, a :: l => argV i a :: argVs (i + 1) l
def argBs : Nat → List Arg → List (Nat × ABlk)
  | _, [] => []
  | i, a :: l => argB i a ++ argBs (i + 1) l

/- What a parameter's type says of its argument. -/
structure Kinds (P : Program) where
  int : TypeId
  bool : TypeId
  row : TypeId
  uint : P.underlying int = some (.int .i64)
  ubool : P.underlying bool = some .bool
  urow : P.underlying row = some (.slice int)
  cint : P.cellsOf int = 1

def Kinds.fits (K : Kinds P) (t : TypeId) : Arg → Prop
  | .int z => t = K.int ∧ (Lit.int .i64 z).wf = true
  | .bool _ => t = K.bool
  | .none => t = K.row
  | .row zs _ => t = K.row ∧ ∀ z ∈ zs, (Lit.int .i64 z).wf = true
def Kinds.fitsAll (K : Kinds P) : List TypeId → List Arg → Prop
  | [], [] => True
  | t :: ts, a :: l => K.fits t a ∧ K.fitsAll ts l
  | _, _ => False

structure ArgOk (P : Program) (w : World) (id : Nat) (a : Arg) (v : Value) (e : Option Ent) : Prop where
  blk : ∀ p ∈ argB id a, ∃ ent, e = some ent ∧ ∀ φ, BRel P w.heap.size φ w ent p.2
  val : ∀ φ : Emb, φ id = e → VRel φ (argV id a) v

section
variable {H : Type} {enc : TypeId × Value → H} {w : World} {held : Bool}

theorem arg_row (K : Kinds P) {r : Reach} {base id : Nat} {v : Value} {d : DataW H} {ps : List MemPlace} (hval : Value.okWide P w r base K.row v) (h : DataW.Trod enc P w 0 (fun _ => true) held K.row v d ps) :
    ∃ a e, K.fits K.row a ∧ ArgOk P w id a v e := by
  obtain ⟨fuel, h⟩ := h
  unfold Value.okWide at hval
  rw [K.urow] at hval
  simp only at hval
  have hone : ∀ x, v.cells.toList = [x] → (∀ cs, x ≠ .agg cs) → v = x := fun x hx hn => by
    cases v with
    | agg cs =>
      exfalso
      unfold Cell.okWide at hval
      rw [K.urow] at hval
      simp only at hval
      unfold Cell.ok at hval
      rw [K.urow] at hval
      exact hval
    | _ => simp [Value.cells] at hx; exact hx
  rcases open_ints K.urow K.uint K.cint h with ⟨k1, _⟩ | ⟨a, len, cap, zs, k1, _, k2, _, k3, _, k4, k5⟩
  · obtain rfl := hone _ k1 (fun cs h => by cases h)
    exact ⟨.none, Option.none, rfl, fun p hp => (by cases hp), fun φ _ => VRel.refl_flat _ _ rfl⟩
  · obtain rfl := hone _ k1 (fun cs h => by cases h)
    obtain ⟨hs, hsh⟩ := ok_slice K.urow hval
    simp only [if_true] at k3
    obtain ⟨ent, elem, q1, q2⟩ := arg_slice (esz := 1) (cs := ints zs) hs hsh k2 (by decide) (fun j u hu => by
      have hj : j < zs.length := by
        by_cases hh : j < zs.length
        · exact hh
        · rw [List.getElem?_eq_none (by rw [ints_len]; omega)] at hu; cases hu
      have := k4 j hj
      rw [addr_eta hs, add_norm] at this
      rw [this]
      simp only [ints, List.getElem?_map, List.getElem?_eq_getElem hj, Option.map_some] at hu
      rw [List.getD_eq_getElem?_getD, List.getElem?_eq_getElem hj]
      exact hu) (ints_flat zs) (by rw [ints_len, k3]; omega)
    have hlen : (zs.take len).length = len := by simp; omega
    refine ⟨.row (zs.take len) elem, some ent, ⟨rfl, fun z hz => k5 z (List.mem_of_mem_take hz)⟩, fun p hp => ?_, fun φ hφ => ?_⟩
    · rw [List.mem_singleton.1 hp]
      refine ⟨ent, rfl, fun φ => ?_⟩
      have := q1 φ
      rw [show (ints zs).take (len * 1) = ints (zs.take len) by simp [ints, List.map_take]] at this
      exact this
    · show VRel φ (sl id (zs.take len).length) _
      rw [hlen]
      exact q2 φ id hφ

theorem arg_one (K : Kinds P) {r : Reach} {base id t : Nat} {v : Value} {d : DataW H} {ps : List MemPlace} (ht : t = K.int ∨ t = K.bool ∨ t = K.row) (hval : Value.okWide P w r base t v) (h : DataW.Trod enc P w 0 (fun _ => true) held t v d ps) :
    ∃ a e, K.fits t a ∧ ArgOk P w id a v e := by
  rcases ht with rfl | rfl | rfl
  · obtain ⟨z, rfl, _, _, hw⟩ := open_int K.uint hval h
    exact ⟨.int z, Option.none, ⟨rfl, hw⟩, fun p hp => (by cases hp), fun φ _ => VRel.refl_flat _ _ rfl⟩
  · obtain ⟨b, rfl, _, _⟩ := open_bool K.ubool hval h
    exact ⟨.bool b, Option.none, rfl, fun p hp => (by cases hp), fun φ _ => VRel.refl_flat _ _ rfl⟩
  · exact arg_row K hval h

theorem args_all (K : Kinds P) {r : Reach} {base : Nat} : ∀ {ts : List TypeId} {vs : List Value} {ds : List (DataW H)} {ps : List MemPlace} {id : Nat}, (∀ t ∈ ts, t = K.int ∨ t = K.bool ∨ t = K.row) →
    (∀ (j : Nat) t v, ts[j]? = some t → vs[j]? = some v → Value.okWide P w r base t v) → DataW.TrodAll enc P w 0 (fun _ => true) held ts vs ds ps →
    ∃ (as : List Arg) (φ : Emb), K.fitsAll ts as ∧ (∀ i, i < id ∨ id + as.length ≤ i → φ i = none) ∧ (∀ p ∈ argBs id as, ∃ ent, φ p.1 = some ent ∧ ∀ φ, BRel P w.heap.size φ w ent p.2) ∧ (∀ p ∈ argBs id as, p.2.app = false ∧ p.2.wf = p.2.cs.length) ∧ ∀ ψ : Emb, (∀ i, id ≤ i → ψ i = φ i) → LRel ψ (argVs id as) vs
  | [], vs, ds, ps, id, _, _, h => by
    obtain ⟨rfl, rfl, rfl⟩ := trodAll_nil h
    exact ⟨[], fun _ => none, trivial, fun _ _ => rfl, fun p hp => (by cases hp), fun p hp => (by cases hp), fun _ _ => .nil⟩
  | t :: ts, vs, ds, ps, id, ht, hv, h => by
    obtain ⟨v, vs1, d, ds1, p, q, rfl, rfl, rfl, h1, h2⟩ := trodAll_cons h
    obtain ⟨a, e, f1, f2⟩ := arg_one K (id := id) (ht t (List.mem_cons_self ..)) (hv 0 t v rfl rfl) h1
    obtain ⟨as, φ, g1, g2, g3, g4, g5⟩ := args_all K (id := id + 1) (fun t h => ht t (List.mem_cons_of_mem _ h)) (fun j t v h1 h2 => hv (j + 1) t v (by simpa using h1) (by simpa using h2)) h2
    refine ⟨a :: as, fun i => if i = id then e else φ i, ⟨f1, g1⟩, fun i hi => ?_, fun p hp => ?_, fun p hp => ?_, fun ψ hψ => .cons (f2.val ψ ?_) (g5 ψ fun i hi => ?_)⟩
    · simp only [List.length_cons] at hi
      simp only
      rw [if_neg (by omega)]
      exact g2 i (by omega)
    · rcases List.mem_append.1 hp with hp | hp
      · obtain ⟨ent, k1, k2⟩ := f2.blk p hp
        have : p.1 = id := by
          unfold argB at hp
          split at hp
          · rw [List.mem_singleton.1 hp]
          · cases hp
        exact ⟨ent, by simp only; rw [if_pos this]; exact k1, k2⟩
      · obtain ⟨ent, k1, k2⟩ := g3 p hp
        refine ⟨ent, ?_, k2⟩
        simp only
        rw [if_neg ?_]
        · exact k1
        · intro he
          rw [he, g2 id (.inl (by omega))] at k1
          cases k1
    · rcases List.mem_append.1 hp with hp | hp
      · unfold argB at hp
        split at hp
        · rw [List.mem_singleton.1 hp]; exact ⟨rfl, rfl⟩
        · cases hp
      · exact g4 p hp
    · rw [hψ id (Nat.le_refl _)]; simp
    · rw [hψ i (by omega)]; simp only; rw [if_neg (by omega)]

/- The call, from the run of each way in which the arguments may lie. -/
theorem law_calls (hN : noNum P) (hm : P.follows .mixedOrders = true) (K : Kinds P) {f : FuncId} {ts : List TypeId} {args : Array Value} {ds : List (DataW H)} {ps : List MemPlace} {r : Reach} {base : Nat} (ht : ∀ t ∈ ts, t = K.int ∨ t = K.bool ∨ t = K.row)
    (hv : ∀ (j : Nat) t v, ts[j]? = some t → args[j]? = some v → Value.okWide P w r base t v) (h : DataW.TrodAll enc P w 0 (fun _ => true) held ts args.toList ds ps)
    (hrun : ∀ as, K.fitsAll ts as → ∃ SP n M', (∀ B, SpecsOk P [] B SP) ∧ Go.Am.arun P [] SP n f (argVs 0 as) (startMem (argBs 0 as) as.length) = some (.bool true, M')) :
    Calls P f args w fun e w' => e = .returned (.bool true) ∧ Kept w w' := by
  obtain ⟨as, φ, g1, g2, g3, g4, g5⟩ := args_all K (id := 0) ht (fun j t v h1 h2 => hv j t v h1 (by simpa using h2)) h
  obtain ⟨SP, n, M', hS, hr⟩ := hrun as g1
  have hK : Knows1 P [] φ (argBs 0 as) as.length w := ⟨fun p hp => by
    obtain ⟨ent, k1, k2⟩ := g3 p hp
    exact ⟨ent, k1, k2 _⟩, g4, fun g hg => (by cases hg), fun id hid => g2 id (.inr (by omega))⟩
  have hc := calls_start hN hm (hS _) hK hr (g5 φ fun _ _ => rfl)
  rw [show args.toList.toArray = args by simp] at hc
  refine hc.mono fun e w' ⟨φ', v', he, hk, hv, _⟩ => ?_
  obtain rfl := hv.bool_inv
  exact ⟨he, hk⟩
end
end Go.Am
namespace Go.Am
open Go
variable {P : Program}
theorem Kinds.fit_int (K : Kinds P) {t : TypeId} {a : Arg} (h1 : t ≠ K.bool) (h2 : t ≠ K.row) (h : K.fits t a) : ∃ z, a = .int z := by
  cases a with
  | int z => exact ⟨z, rfl⟩
  | bool b => exact absurd h h1
  | none => exact absurd h h2
  | row zs e => exact absurd h.1 h2
theorem Kinds.fit_row (K : Kinds P) {t : TypeId} {a : Arg} (h0 : t ≠ K.int) (h1 : t ≠ K.bool) (h : K.fits t a) : a = .none ∨ ∃ zs e, a = .row zs e ∧ ∀ z ∈ zs, (Lit.int .i64 z).wf = true := by
  cases a with
  | int z => exact absurd h.1 h0
  | bool b => exact absurd h h1
  | none => exact .inl rfl
  | row zs e => exact .inr ⟨zs, e, rfl, h.2⟩
theorem Kinds.fits_nil (K : Kinds P) {xs : List Arg} (h : K.fitsAll [] xs) : xs = [] := by
  cases xs with
  | nil => rfl
  | cons a l => exact h.elim
theorem Kinds.fits_cons (K : Kinds P) {t : TypeId} {ts : List TypeId} {xs : List Arg} (h : K.fitsAll (t :: ts) xs) : ∃ a l, xs = a :: l ∧ K.fits t a ∧ K.fitsAll ts l := by
  cases xs with
  | nil => exact h.elim
  | cons a l => exact ⟨a, l, rfl, h.1, h.2⟩
theorem Kinds.fits_iii (K : Kinds P) {t : TypeId} {xs : List Arg} (h1 : t ≠ K.bool) (h2 : t ≠ K.row) (h : K.fitsAll [t, t, t] xs) : ∃ a b c, xs = [.int a, .int b, .int c] := by
  obtain ⟨a, l, rfl, k1, h⟩ := K.fits_cons h
  obtain ⟨b, l, rfl, k2, h⟩ := K.fits_cons h
  obtain ⟨c, l, rfl, k3, h⟩ := K.fits_cons h
  obtain rfl := K.fits_nil h
  obtain ⟨a, rfl⟩ := K.fit_int h1 h2 k1
  obtain ⟨b, rfl⟩ := K.fit_int h1 h2 k2
  obtain ⟨c, rfl⟩ := K.fit_int h1 h2 k3
  exact ⟨a, b, c, rfl⟩
end Go.Am
end
