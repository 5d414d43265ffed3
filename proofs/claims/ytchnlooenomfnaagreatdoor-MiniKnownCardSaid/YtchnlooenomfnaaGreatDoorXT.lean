/-
  What is proved: MiniKnown: these sixteen texts' machines have just so many states, and are steady, or not. For every argument; one laid table (math/bits) is tied by the card.
-/
import Derived.Test.YtchnlooenomfnaaGreatDoorGX1
import Derived.Test.YtchnlooenomfnaaGreatDoorXQ
import Derived.Test.YtchnlooenomfnaaGreatDoorGAmMemo
open Go Go.Am Go.Proofs
namespace Go.Proofs.YtchnlooenomfnaaGreatDoor
set_option maxRecDepth 100000
/- known(), beside the table. -/
def tabEq (b : ABlk) : Bool := Nat.beq b.esz 1 && Nat.beq b.wf 64 && (b.app == false) && vsEq b.cs tab64
theorem tabEq_eq {b : ABlk} (h : tabEq b = true) : b = tabB b.elem := by
  unfold tabEq at h
  simp only [Bool.and_eq_true, Nat.beq_eq, beq_iff_eq] at h
  obtain ⟨cs, el, z, wf, ap⟩ := b
  obtain ⟨⟨⟨h1, h2⟩, h3⟩, h4⟩ := h
  simp only at h1 h2 h3 h4
  rw [h1, h2, h3, vsEq_eq _ _ h4]
  rfl
noncomputable def gKn : List Value → Mem → Option (Value × Mem) := fun args M => match args, M.get 0 with
  | [], some b => bif tabEq b then some (.bool true, M) else none
  | _, _ => none
theorem okKn (B : Bd) : SpecOk Tryz.prog [0] B 15 gKn := by
  have key : ∀ args M v M', gKn args M = some (v, M') → args = [] ∧ v = .bool true ∧ M' = M ∧ ∃ e, M.get 0 = some (tabB e) := fun args M v M' h => by
    unfold gKn at h
    split at h
    · rename_i b hb
      cases hq : tabEq b <;> simp only [hq, cond_true, cond_false] at h
      · cases h
      · cases h
        exact ⟨rfl, rfl, rfl, b.elem, by rw [hb]; exact congrArg some (tabEq_eq hq)⟩
    · cases h
  refine ⟨fun args M v M' h => ?_, fun args M v M' h => ?_⟩
  · obtain ⟨rfl, rfl, rfl, e, hM⟩ := key _ _ _ _ h
    exact (con15 hM).abs
  · obtain ⟨rfl, rfl, rfl, e, hM⟩ := key _ _ _ _ h
    exact (con15 hM).run B

/- within(at, n) -/
noncomputable def BW : Code := Tryz.f29.body.get!
theorem bodyW : Tryz.f29.body = some BW := by kernel_rfl
theorem runWa (x n : Int) (M : Mem) : (xexec Tryz.prog [] noSpecs 50 BW ⟨initT [i64 x, i64 n] 0 .nil, Tryz.f29.ntmps, M⟩ [tru 7, tru 14] 0).map (fun r => (r.1.1, r.1.2.M, aresults Tryz.prog Tryz.f29 r.1.2, r.2.2.2.map (view noDoors []))) =
    some (.ret, M, some (i64 (IntKind.wrap .i64 (x.tmod n + n))), [.nz n, .b (decide (x.tmod n < 0)) (.val (.bool true))]) := by kernel_rfl
theorem runWb (x n : Int) (M : Mem) : (xexec Tryz.prog [] noSpecs 50 BW ⟨initT [i64 x, i64 n] 0 .nil, Tryz.f29.ntmps, M⟩ [tru 7, fls 14] 0).map (fun r => (r.1.1, r.1.2.M, aresults Tryz.prog Tryz.f29 r.1.2, r.2.2.2.map (view noDoors []))) =
    some (.ret, M, some (i64 (x.tmod n)), [.nz n, .b (decide (x.tmod n < 0)) (.val (.bool false))]) := by kernel_rfl
theorem okMod (B : Bd) : SpecOk Tryz.prog [] B 29 gMod := SpecOk.mod (fun B x n M hn hn2 => by
  have hne : n ≠ 0 := by omega
  refine ⟨noSpecs, 50, SpecsOk.none, ?_⟩
  by_cases h : x.tmod n < 0
  · obtain ⟨M', h1, h2⟩ := xrun_of (look := fun M => M) Tryz.func29 bodyW (by kernel_rfl) (runWa x n M) (.inr rfl) (by
      intro p hp; simp only [List.mem_cons, List.not_mem_nil, or_false] at hp
      rcases hp with rfl | rfl
      · exact hne
      · exact qd h)
    rw [h1, h2, modI_neg hn hn2 h]
  · obtain ⟨M', h1, h2⟩ := xrun_of (look := fun M => M) Tryz.func29 bodyW (by kernel_rfl) (runWb x n M) (.inr rfl) (by
      intro p hp; simp only [List.mem_cons, List.not_mem_nil, or_false] at hp
      rcases hp with rfl | rfl
      · exact hne
      · exact qdn h)
    rw [h1, h2, ← modI_pos h]) noNumP mixedP
end Go.Proofs.YtchnlooenomfnaaGreatDoor
