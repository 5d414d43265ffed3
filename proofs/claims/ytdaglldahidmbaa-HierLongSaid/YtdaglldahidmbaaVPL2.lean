/-
  Package hier: each of its laws for every argument; no conditions. The last text states which.
-/
import Derived.Test.YtdaglldahidmbaaGVG
import Derived.Test.YtdaglldahidmbaaVQ2
set_option linter.unusedVariables false
set_option linter.unusedSimpArgs false
open Go Go.Am Go.Proofs
namespace Go.Proofs.Ytdaglldahidmbaa
set_option maxRecDepth 100000
noncomputable def B30 : Code := Try.f30.body.get!
theorem body30 : Try.f30.body = some B30 := by kernel_rfl
theorem run30 (f t m c e a b i : Int) : (xexec Try.prog [] noSpecs 60 B30 ⟨initT [.agg ⟨[i64 f, i64 t, i64 m, i64 c, i64 e, i64 a, i64 b]⟩, i64 i] 0 .nil, Try.f30.ntmps, startMem [] 0⟩ [tru 12, tru 14, tru 16, tru 18, tru 21, tru 24, tru 26, tru 28, tru 31, tru 34, tru 36, tru 38, tru 40, tru 43] 0).map (fun r => (r.1.1, (), aresults Try.prog Try.f30 r.1.2, r.2.2.2.map (view noDoors []))) =
    some (.ret, (), some (.bool (decide (b < i))), [.b (decide (a ≥ (0 : Int))) (.val (.bool true)), .b (decide (a ≥ (0 : Int))) (.val (.bool true)), .b (decide (a ≥ (0 : Int))) (.val (.bool true)), .b (decide (a ≥ (0 : Int))) (.val (.bool true)), .b (decide (a ≥ (0 : Int))) (.val (.bool true)), .b (decide (a < i)) (.val (.bool true)), .b (decide (a < i)) (.val (.bool true)), .b (decide (a < i)) (.val (.bool true)), .b (decide (a < i)) (.val (.bool true)), .b (decide (b ≥ (0 : Int))) (.val (.bool true)), .b (decide (b ≥ (0 : Int))) (.val (.bool true)), .b (decide (b ≥ (0 : Int))) (.val (.bool true)), .b (decide (b ≥ (0 : Int))) (.val (.bool true)), .b (decide (b ≥ (0 : Int))) (.val (.bool true))]) := by kernel_rfl
noncomputable def gParts : List Value → Mem → Option (Value × Mem) := fun args M =>
  match args with
  | [.agg ⟨[.int .i64 _, .int .i64 _, .int .i64 _, .int .i64 _, .int .i64 _, .int .i64 a, .int .i64 b]⟩, .int .i64 i] => bif decide (0 ≤ a) && decide (a < i) && decide (0 ≤ b) && decide (b < i) then some (.bool true, M) else none
  | _ => none
theorem okParts {GL : List Nat} (B : Bd) : SpecOk Try.prog GL B 30 gParts := SpecOk.ofMut noNumP mixedP fun args M v M' hg => by
  unfold gParts at hg
  split at hg
  · rename_i f t m c e a b i
    generalize hc : (decide (0 ≤ a) && decide (a < i) && decide (0 ≤ b) && decide (b < i)) = q at hg
    cases q with
    | false => cases hg
    | true =>
      simp only [cond_true, Option.some.injEq, Prod.mk.injEq] at hg
      obtain ⟨rfl, rfl⟩ := hg
      simp only [Bool.and_eq_true, decide_eq_true_eq] at hc
      obtain ⟨⟨⟨h1, h2⟩, h3⟩, h4⟩ := hc
      obtain ⟨M1, hr, _⟩ := xrun_of (look := fun _ => ()) Try.func30 body30 (by kernel_rfl) (run30 f t m c e a b i) (.inr rfl) (by
        intro p hp; simp only [List.mem_cons, List.not_mem_nil, or_false] at hp
        rcases hp with rfl | rfl | rfl | rfl | rfl | rfl | rfl | rfl | rfl | rfl | rfl | rfl | rfl | rfl
        · exact qd h1
        · exact qd h1
        · exact qd h1
        · exact qd h1
        · exact qd h1
        · exact qd h2
        · exact qd h2
        · exact qd h2
        · exact qd h2
        · exact qd h3
        · exact qd h3
        · exact qd h3
        · exact qd h3
        · exact qd h3)
      rw [decide_eq_true h4] at hr
      refine ⟨[], [], [], [], 60, noSpecs, [.agg ⟨[i64 f, i64 t, i64 m, i64 c, i64 e, i64 a, i64 b]⟩, i64 i], .bool true, M1, [], [], rfl, ⟨fun _ => SpecsOk.none, hr, rfl, ?_, rfl, ?_, ?_, ?_, ?_, ?_, ?_, rfl, rfl, ?_, rfl, ?_⟩⟩
      · intro p hp; cases hp
      · intro t _ ht; exact absurd ht (Nat.not_lt_zero _)
      · intro j x hj; simp at hj
      · intro x hx; cases hx
      · intro j hj; cases hj
      · intro x y hxy; cases hxy
      · intro i x hx; simp at hx
      · intro s hs; cases hs
      · intro x hx; cases hx
  · cases hg
noncomputable def SPN : Specs := specs [(30, gParts)]
theorem specsN (B : Bd) : SpecsOk Try.prog [] B SPN := specs_ok fun p hp => by
  simp only [List.mem_cons, List.not_mem_nil, or_false] at hp
  rcases hp with rfl
  exact okParts B
end Go.Proofs.Ytdaglldahidmbaa
