/-
  What is proved: MiniSteady: a machine of Make's is steady just if a letter twice is a letter once: for every x, y, every word. For every argument; one laid table (math/bits) is tied by the card.
-/
import Derived.Test.YtchnlooenomfnaaGreatDoorGAmRows
import Derived.Test.YtchnlooenomfnaaGreatDoorGAmXView
import Derived.Test.YtchnlooenomfnaaGreatDoorGAmStart
import Derived.Deep.DeepHandedRow
import Derived.OpenShut
import Derived.ProofKit
import Derived.Lib.LaidTab
import Derived.Test.YtchnlooenomfnaaGreatDoorRows
import Derived.Test.YtchnlooenomfnaaGreatDoorGS4
import Derived.Test.YtchnlooenomfnaaGreatDoorGAmFlat
set_option linter.unusedVariables false
set_option linter.unusedSimpArgs false
open Go Go.Am Go.Proofs
namespace Go.Proofs.YtchnlooenomfnaaGreatDoor
set_option maxRecDepth 100000
open Go.ChangeShapes Go.WideShapes Go.ChangeAt Go.RowKit
theorem heap_of_var {P : Program} {W : World} {n : String} {g : Nat} {cs : Array Value} (hg : P.globalNamed n = some g) (h : W.var? P n = some cs) : ∃ t fr, W.heap[g]? = some (.cells cs t fr) := by
  unfold World.var? at h
  rw [hg] at h
  simp only [Option.bind_some] at h
  split at h
  · rename_i c t fr hc
    cases h
    exact ⟨_, _, hc⟩
  · cases h
end Go.Proofs.YtchnlooenomfnaaGreatDoor

set_option linter.unusedVariables false
set_option linter.unusedSimpArgs false
open Go Go.Am Go.Proofs
namespace Go.Proofs.YtchnlooenomfnaaGreatDoor
set_option maxRecDepth 100000
open Go.ChangeShapes Go.WideShapes Go.ChangeAt Go.RowKit
section
variable {H : Type} {enc : TypeId × Value → H}
theorem at1 {w : World} {base nf : Nat} {sp : Nat → Bool} {held : Bool} {t : TypeId} {cs : List Value} {y : DataW H × List MemPlace} (ht : Tryz.prog.underlying t = some (.int .i64)) (h : DataW.trod enc Tryz.prog w base sp held nf t cs = some y) : ∃ z : Int, cs = [i64 z] := by
  obtain ⟨z, h1, _⟩ := DataW.trod_int ht h
  exact ⟨z, h1⟩
theorem cells3 : Tryz.prog.cellsOf 3 = 1 := by kernel_rfl
theorem und22 : Tryz.prog.underlying 22 = some (.slice 3) := by kernel_rfl
theorem ty22 : FlatTy enc Tryz.prog 22 3 1 where
  us := und22
  cells := cells3
  pos := by decide
  row := fun {w base nf held cs y} h => by
    obtain ⟨z, rfl⟩ := at1 Tryz.underlying3 h
    exact ⟨[z], rfl, rfl⟩
theorem ones : ∀ {l : List (List Int)}, (∀ r ∈ l, r.length = 1) → ∃ ns : List Int, l = ns.map ([·])
  | [], _ => ⟨[], rfl⟩
  | r :: l, h => by
    obtain ⟨ns, hn⟩ := ones fun x hx => h x (List.mem_cons_of_mem _ hx)
    have h1 := h r (List.mem_cons_self ..)
    match r, h1 with
    | [z], _ => exact ⟨z :: ns, by rw [hn]; rfl⟩
theorem open_flat {w : World} {S E : TypeId} {d : Nat} {held : Bool} (hT : FlatTy enc Tryz.prog S E d) {r : Reach} {base n : Nat} {v : Value} {dt : DataW H} {p : List MemPlace} (hval : Value.okWide Tryz.prog w r base S v) (h : DataW.Trod enc Tryz.prog w 0 (fun _ => true) held S v dt p) :
    ∃ m bs φ0 l a c, Laid Tryz.prog w n m bs φ0 ∧ (∀ φ : Emb, φ0.le φ → VRel φ (.slice a l.length c) v) ∧ ∀ M, Has M bs → FlatAt d M (.slice a l.length c) l := by
  obtain ⟨fuel, h⟩ := h
  obtain ⟨u, hu, m, bs, φ0, l, a, c, h1, h2, h3⟩ := flat_out hT fuel n _ _ h
  refine ⟨m, bs, φ0, l, a, c, h1, fun φ hφ => ?_, h3⟩
  have hv : v = u := by
    unfold Value.okWide at hval
    rw [hT.us] at hval
    simp only at hval
    cases v with
    | agg cs =>
      exfalso
      unfold Cell.okWide at hval
      rw [hT.us] at hval
      simp only at hval
      unfold Cell.ok at hval
      rw [hT.us] at hval
      exact hval
    | _ => simp [Value.cells] at hu; exact hu
  rw [hv]
  exact h2 φ hφ
end
def φT : Emb := fun id => if id = 0 then some ⟨0, 0, 64, 1⟩ else none
theorem laidT {W : World} (hL : laidMet Tryz.prog Rows.miniSteadyRow.laid W) : ∃ e, Laid Tryz.prog W 0 1 [(0, tabB e)] φT := by
  have g0 : Tryz.prog.globalNamed "math/bits.deBruijn64tab" = some 0 := by kernel_rfl
  have htab := Lib.tabIs_of_head (k := .u8) (zs := [0, 1, 56, 2, 57, 49, 28, 3, 61, 58, 42, 50, 38, 29, 17, 4, 62, 47, 59, 36, 45, 43, 51, 22, 53, 39, 33, 30, 24, 18, 12, 5, 63, 55, 48, 27, 60, 41, 37, 16, 46, 35, 44, 21, 52, 32, 23, 11, 54, 26, 40, 15, 34, 20, 31, 10, 25, 14, 19, 9, 13, 8, 7, 6]) g0 (by kernel_rfl) Tryz.underlying235 Tryz.underlying5 (by kernel_rfl) (by kernel_rfl) hL
  obtain ⟨t0, f0, h0⟩ := heap_of_var g0 htab
  refine ⟨t0, by decide, fun i e h => ?_, fun p hp => ?_, by simp, fun p hp => ?_, fun p hp => ?_⟩
  · unfold φT at h
    split at h
    · omega
    · cases h
  · rw [List.mem_singleton.1 hp]; simp
  · rw [List.mem_singleton.1 hp]; exact ⟨rfl, rfl⟩
  · rw [List.mem_singleton.1 hp]
    exact ⟨⟨0, 0, 64, 1⟩, rfl, fun φ _ => BRel.table h0 (LRel.refl_flat _ _ (by kernel_rfl))⟩
theorem knowsA {w : World} {m : Nat} {bs : List (Nat × ABlk)} {φ0 : Emb} (h : Laid Tryz.prog w 0 m bs φ0) (hm : 1 ≤ m) (hT : φT.le φ0) : Knows1 Tryz.prog [0] φ0 bs m w :=
  ⟨h.knows.blk, h.knows.ro, fun g hg => by
    simp only [List.mem_cons, List.not_mem_nil, or_false] at hg
    subst hg
    exact ⟨hm, _, hT 0 _ rfl, rfl, rfl⟩, h.knows.fresh⟩
theorem readable {ts : List TypeId} (h : ts.all (fun t => Tryz.prog.readableRec t && Nat.blt t Tryz.prog.types.size) = true) : ∀ t ∈ ts, Tryz.prog.readableRec t = true ∧ t < Tryz.prog.types.size := by
  intro t ht
  have := List.all_eq_true.1 h t ht
  simp only [Bool.and_eq_true] at this
  exact ⟨this.1, Nat.le_of_ble_eq_true this.2⟩
end Go.Proofs.YtchnlooenomfnaaGreatDoor
