/-
  What is proved: MiniSteady: a machine of Make's is steady just if a letter twice is a letter once: for every x, y, every word. For every argument; one laid table (math/bits) is tied by the card.
-/
import Derived.Test.YtchnlooenomfnaaGreatDoorAmMem
import Derived.LoopN
import Derived.Test.YtchnlooenomfnaaGreatDoorGAmTop
set_option linter.unusedVariables false
set_option linter.unusedSimpArgs false
noncomputable section
namespace Go.Am
open Go
abbrev Moves := List (Nat × Nat × Bool)
def toTgt : Moves → Nat → Option Nat
  | [], _ => none
  | (t, s, _) :: l, n => bif Nat.beq s n then some t else toTgt l n
def renAddr (ρ : Moves) (a : Addr) : Option Addr :=
  match a.spot, toTgt ρ a.block with
  | none, some t => some ⟨t, a.off, none⟩
  | _, _ => none
mutual
def renV (ρ : Moves) : Value → Option Value
  | .pointer (some a) => match renAddr ρ a with | some a => some (.pointer (some a)) | none => none
  | .slice (some a) l c => match renAddr ρ a with | some a => some (.slice (some a) l c) | none => none
  | .func fn first captured => bif isYield fn then none else match renA ρ first, renA ρ captured with | some x, some y => some (.func fn ⟨x⟩ ⟨y⟩) | _, _ => none
  | .iface t v => match renV ρ v with | some v => some (.iface t v) | none => none
  | .agg cs => match renA ρ cs with | some x => some (.agg ⟨x⟩) | none => none
  | .tuple vs => match renA ρ vs with | some x => some (.tuple ⟨x⟩) | none => none
  | v => bif leaf v then some v else none
def renA (ρ : Moves) : Array Value → Option (List Value)
  | ⟨l⟩ => renL ρ l
def renL (ρ : Moves) : List Value → Option (List Value)
  | [] => some []
  | v :: l => match renV ρ v, renL ρ l with | some v, some l => some (v :: l) | _, _ => none
end
variable {P : Program} {GL : List Nat} {B : Bd}
theorem renAddr_rel {ρ : Moves} {φ ψ : Emb} (h : ∀ s t, toTgt ρ s = some t → ∀ e, φ s = some e → ψ t = some e) {a b : Addr} (hr : renAddr ρ a = some b) :
    b.spot = none ∧ b.off = a.off ∧ ∀ e, φ a.block = some e → ψ b.block = some e := by
  unfold renAddr at hr
  split at hr
  · rename_i t hs ht
    cases hr
    exact ⟨rfl, rfl, h _ _ ht⟩
  · cases hr
theorem renV_leaf (ρ : Moves) : ∀ v, leaf v = true → renV ρ v = some v
  | .bool _, _ => rfl
  | .int _ _, _ => rfl
  | .float _ _, _ => rfl
  | .complex _ _ _, _ => rfl
  | .string _, _ => rfl
  | .pointer none, _ => rfl
  | .pointer (some _), h => by simp [leaf] at h
  | .slice none 0 0, _ => rfl
  | .slice none (_ + 1) _, h => by simp [leaf] at h
  | .slice none 0 (_ + 1), h => by simp [leaf] at h
  | .slice (some _) _ _, h => by simp [leaf] at h
  | .map none, _ => rfl
  | .map (some _), h => by simp [leaf] at h
  | .chan none, _ => rfl
  | .chan (some _), h => by simp [leaf] at h
  | .func _ _ _, h => by simp [leaf] at h
  | .nilFunc, _ => rfl
  | .iface _ _, h => by simp [leaf] at h
  | .nilIface, _ => rfl
  | .agg _, h => by simp [leaf] at h
  | .tuple _, h => by simp [leaf] at h
mutual
theorem renV_rel {ρ : Moves} {φ ψ : Emb} (h : ∀ s t, toTgt ρ s = some t → ∀ e, φ s = some e → ψ t = some e) : ∀ {v v' u : Value}, VRel φ v v' → renV ρ v = some u → VRel ψ u v'
  | v, _, u, .leaf hl, hr => by
    rw [renV_leaf ρ v hl] at hr
    cases hr; exact .leaf hl
  | _, _, u, .ptr ha, hr => by
    simp only [renV] at hr
    split at hr
    · rename_i b hb
      cases hr
      obtain ⟨h1, h2, h3⟩ := renAddr_rel h hb
      obtain ⟨k1, k2, e, k3, k4, k5⟩ := ha
      exact .ptr ⟨h1, k2, e, h3 e k3, k4, by rw [h2]; exact k5⟩
    · cases hr
  | _, _, u, .slice hs, hr => by
    simp only [renV] at hr
    split at hr
    · rename_i b hb
      cases hr
      obtain ⟨h1, h2, h3⟩ := renAddr_rel h hb
      obtain ⟨k1, k2, k3, k4, e, k5, k6⟩ := hs
      exact .slice ⟨h1, k2, k3, k4, e, h3 e k5, by rw [h2]; exact k6⟩
    · cases hr
  | _, _, u, .hollow hs, hr => by
    simp only [renV, renAddr] at hr
    split at hr
    · rename_i b hb
      split at hb
      · rename_i h0 _
        exact absurd h0 hs
      · cases hb
    · cases hr
  | _, _, u, .func hf hx hy, hr => by
    simp only [renV, renA, hf, cond_false] at hr
    split at hr
    · rename_i x y h1 h2
      cases hr
      exact .func hf (renL_rel h hx h1) (renL_rel h hy h2)
    · cases hr
  | _, _, u, .yld _, hr => by
    simp only [renV, isYield, cond_true] at hr
    cases hr
  | _, _, u, .iface hv, hr => by
    simp only [renV] at hr
    split at hr
    · rename_i x h1
      cases hr
      exact .iface (renV_rel h hv h1)
    · cases hr
  | _, _, u, .agg hl, hr => by
    simp only [renV, renA] at hr
    split at hr
    · rename_i x h1
      cases hr
      exact .agg (renL_rel h hl h1)
    · cases hr
  | _, _, u, .tuple hl, hr => by
    simp only [renV, renA] at hr
    split at hr
    · rename_i x h1
      cases hr
      exact .tuple (renL_rel h hl h1)
    · cases hr
theorem renL_rel {ρ : Moves} {φ ψ : Emb} (h : ∀ s t, toTgt ρ s = some t → ∀ e, φ s = some e → ψ t = some e) : ∀ {l l' k : List Value}, LRel φ l l' → renL ρ l = some k → LRel ψ k l'
  | _, _, k, .nil, hr => by
    simp only [renL, Option.some.injEq] at hr
    subst hr; exact .nil
  | _, _, k, .cons hv hl, hr => by
    simp only [renL] at hr
    split at hr
    · rename_i x y h1 h2
      cases hr
      exact .cons (renV_rel h hv h1) (renL_rel h hl h2)
    · cases hr
end
def rebT (ρ : Moves) (T : Tr Value) : List Nat → Option (Tr Value)
  | [] => some .nil
  | t :: l => match T.get t, rebT ρ T l with
    | some v, some R => match renV ρ v with
      | some u => some (R.set t (some u))
      | none => none
    | _, _ => none
def rebB (ρ : Moves) (M : Mem) : Moves → Option (Tr ABlk)
  | [] => some .nil
  | (t, s, fl) :: l => match M.get s, rebB ρ M l with
    | some b, some R => bif fl then some (R.set t (some b)) else match renL ρ b.cs with
      | some cs => some (R.set t (some { b with cs }))
      | none => none
    | _, _ => none
def stills (M : Mem) : Moves → List (List Value)
  | [] => []
  | (_, s, fl) :: l => bif fl then match M.get s with | some b => b.cs :: stills M l | none => stills M l else stills M l
def memN (n : Nat) : List Nat → Bool
  | [] => false
  | x :: l => Nat.beq n x || memN n l
def distinct : List Nat → Bool
  | [] => true
  | x :: l => !memN x l && distinct l
def movesOk (n0 nx : Nat) (L : List Nat) : Moves → Bool
  | [] => true
  | (t, s, _) :: l => Nat.blt t nx && (bif Nat.blt t n0 then Nat.beq t s else (!Nat.blt s n0 || memN s L)) && movesOk n0 nx L l
def logOk (n0 : Nat) (L : List Nat) : List Nat → Bool
  | [] => true
  | t :: l => (!Nat.blt t n0 || memN t L) && logOk n0 L l
def allLt (n0 : Nat) : List Nat → Bool
  | [] => true
  | t :: l => Nat.blt t n0 && allLt n0 l
def rebase (n0 nx : Nat) (mv : Moves) (keep L lg : List Nat) (s : St) : Option St :=
  match s.M.hide with
  | [] =>
    bif Nat.ble n0 nx && distinct (mv.map (·.1)) && distinct (mv.map (·.2.1)) && movesOk n0 nx L mv && logOk n0 L s.M.log && allLt n0 L then
      match rebT mv s.T keep, rebB mv s.M mv with
      | some T, some R => some ⟨T, s.n, ⟨R, nx, [], L ++ lg⟩⟩
      | _, _ => none
    else none
  | _ => none
end Go.Am
end

set_option linter.unusedVariables false
set_option linter.unusedSimpArgs false
noncomputable section
namespace Go.Am
open Go
variable {P : Program} {GL : List Nat} {B : Bd}
def View (n0 nx : Nat) (mv : Moves) (keep L lg : List Nat) (s s2 : St) : Prop :=
  rebase n0 nx mv keep L lg s = some s2 ∧ ∀ l ∈ stills s.M mv, renL mv l = some l
def keepsOk (L : List Nat) (mv : Moves) (M : Mem) : Nat → Bool
  | 0 => true
  | n + 1 => (memN n L || mv.any (fun p => Nat.beq p.1 n && Nat.beq p.2.1 n && p.2.2) || ((M.blks.get n).isNone && !memN n (mv.map (·.1)))) && keepsOk L mv M n
structure Door where
  n0 : Nat
  nx : Nat
  mv : Moves
  keep : List Nat
  L : List Nat
  lg : List Nat
structure Door.At (D : Door) (s t : St) : Prop where
  next : s.M.next = D.n0
  log : s.M.log = D.lg
  view : View D.n0 D.nx D.mv D.keep D.L D.lg s t
  keeps : keepsOk D.L D.mv s.M D.n0 = true
def blkEnd (id : Nat) : AExit → AExit
  | .exit i => bif Nat.beq i id then .normal else .exit i
  | e => e
open Classical in
noncomputable def loopG (b0 : Code) (D : Door) (t : St) (r : AExit × St) : Code → St → Option (AExit × St) := fun b s =>
  if b = b0 ∧ D.At s t then some r else none
theorem loopG_eq {b0 : Code} {D : Door} {t s : St} {r : AExit × St} (h : D.At s t) : loopG b0 D t r b0 s = some r := if_pos ⟨rfl, h⟩
end Go.Am
end
