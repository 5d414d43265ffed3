/-
  DfaFlat: with all states turned to accept what they did not a machine takes just what it did not
-/
import Derived.Test.YtepgijgmnijdpaaDoorAmLoop
import Derived.Test.YtepgijgmnijdpaaDoorAmTop
noncomputable section
namespace Go.Am
open Go
variable {P : Program} {GL : List Nat} {B : Bd}
def View (n0 nx : Nat) (mv : Moves) (keep L lg : List Nat) (s s2 : St) : Prop :=
  rebase n0 nx mv keep L lg s = some s2 ∧ ∀ l ∈ stills s.M mv, renL mv l = some l
def keepsOk (L : List Nat) (mv : Moves) (M : Mem) : Nat → Bool
  | 0 => true
  | n + 1 => (memN n L || mv.any (fun p => Nat.beq p.1 n && Nat.beq p.2.1 n && p.2.2) || ((M.blks.get n).isNone && !memN n (mv.map (·.1)))) && keepsOk L mv M n
structure Door where
  n0 : Nat
  nx : Nat
  mv : Moves
  keep : List Nat
  L : List Nat
  lg : List Nat
structure Door.At (D : Door) (s t : St) : Prop where
  next : s.M.next = D.n0
  log : s.M.log = D.lg
  view : View D.n0 D.nx D.mv D.keep D.L D.lg s t
  keeps : keepsOk D.L D.mv s.M D.n0 = true
def blkEnd (id : Nat) : AExit → AExit
  | .exit i => bif Nat.beq i id then .normal else .exit i
  | e => e
open Classical in
noncomputable def loopG (b0 : Code) (D : Door) (t : St) (r : AExit × St) : Code → St → Option (AExit × St) := fun b s =>
  if b = b0 ∧ D.At s t then some r else none
theorem loopG_eq {b0 : Code} {D : Door} {t s : St} {r : AExit × St} (h : D.At s t) : loopG b0 D t r b0 s = some r := if_pos ⟨rfl, h⟩
end Go.Am
end
