/-
  THE ABSTRACT MACHINE: told calls from quick runs.
-/
import Derived.Test.YtibgnnjicplphaaAmMemo
import Derived.Test.YtibgnnjicplphaaAmQ
noncomputable section
namespace Go.Am
open Go
variable {P : Program} {GL : List Nat} {B : Bd}

def memoRunQ (P : Program) (SP : Specs) (qt : Tr QC) (n : Nat) (f : FuncId) (K : Memo) : Option (Value × List (Option ABlk) × Bool) :=
  (qrun P [] SP qt n f K.args0 (startMem (idxB 0 K.blks) K.blks.length)).map fun r => (r.1, K.newsS.map r.2.get, geAll K.blks.length r.2.log)
theorem SpecOk.memoQ (hN : noNum P) (hm : P.follows .mixedOrders = true) {f : FuncId} (K : Memo) {n : Nat} {SP : Specs} {qt : Tr QC} (hQ : QOk P qt) (hB : ∀ id, SP.blocks id = none) (hS : ∀ B, SpecsOk P [] B SP) (hst : memoSt K = true)
    (hrun : memoRunQ P SP qt n f K = some (K.v0, K.news.map some, true)) : SpecOk P GL B f (gMemo K) := by
  refine SpecOk.memo hN hm K hS hst (n := n) ?_
  unfold memoRunQ at hrun
  unfold memoRun
  cases hr : Go.Am.qrun P [] SP qt n f K.args0 (startMem (idxB 0 K.blks) K.blks.length) with
  | none => rw [hr] at hrun; cases hrun
  | some r =>
    rw [hr] at hrun
    rw [qrun_arun hN hm hQ hB hS hr]
    exact hrun

/- The one, else the other. -/
def orG (g1 g2 : List Value → Mem → Option (Value × Mem)) : List Value → Mem → Option (Value × Mem) := fun a M => match g1 a M with | some r => some r | none => g2 a M
def noG : List Value → Mem → Option (Value × Mem) := fun _ _ => none
theorem SpecOk.noG {f : FuncId} : SpecOk P GL B f Go.Am.noG := ⟨fun _ _ _ _ h => (by cases h), fun _ _ _ _ h => (by cases h)⟩
theorem SpecOk.orG {f : FuncId} {g1 g2 : List Value → Mem → Option (Value × Mem)} (h1 : SpecOk P GL B f g1) (h2 : SpecOk P GL B f g2) : SpecOk P GL B f (Go.Am.orG g1 g2) := by
  refine ⟨fun args M v M' h => ?_, fun args M v M' h => ?_⟩
  all_goals
    unfold Go.Am.orG at h
    split at h
    · rename_i r hr
      cases h
      first | exact h1.abs _ _ _ _ hr | exact h1.run _ _ _ _ hr
    · first | exact h2.abs _ _ _ _ h | exact h2.run _ _ _ _ h
end Go.Am
end
