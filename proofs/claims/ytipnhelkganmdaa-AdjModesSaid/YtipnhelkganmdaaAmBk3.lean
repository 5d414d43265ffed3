/-
  Package adj: each of its laws for every argument; no conditions. The last text states which.
-/
import Derived.Test.YtipnhelkganmdaaGAmBk
noncomputable section
set_option linter.unusedVariables false
set_option linter.unusedSimpArgs false
namespace Go.Am
open Go
theorem orI_bit {x y : Int} (hx : 0 ≤ x ∧ x < 32) (hy : 0 ≤ y ∧ y < 32) (k : Nat) : (orI x y).toNat.testBit k = (x.toNat.testBit k || y.toNat.testBit k) := by
  rw [(orI_lt hx hy).1, Int.toNat_natCast, Nat.testBit_or]
theorem union_bit {set : List Int} (hs : ∀ z ∈ set, 0 ≤ z ∧ z < 32) (es : List Int) (k : Nat) : (unionI set es).toNat.testBit k = es.any fun j => ((set[j.toNat]?).getD 0).toNat.testBit k := by
  unfold unionI
  have hz : ∀ e : Int, 0 ≤ ((set[e.toNat]?).getD 0) ∧ ((set[e.toNat]?).getD 0) < 32 := fun e => by
    cases hh : set[e.toNat]? with
    | none => simp
    | some z => exact hs z (List.mem_of_getElem? hh)
  have : ∀ (es : List Int) (s : Int), 0 ≤ s ∧ s < 32 → (es.foldl (fun s i => orI s ((set[i.toNat]?).getD 0)) s).toNat.testBit k = (s.toNat.testBit k || es.any fun j => ((set[j.toNat]?).getD 0).toNat.testBit k) := fun es => by
    induction es with
    | nil => intro s _; simp
    | cons e es ih =>
      intro s h
      rw [List.foldl_cons, ih _ (orI_lt h (hz e)).2, orI_bit h (hz e), List.any_cons, Bool.or_assoc]
  rw [this es 0 (by omega)]
  simp
end Go.Am
end
