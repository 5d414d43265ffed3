/-
  DfaFlat: with all states turned to accept what they did not a machine takes just what it did not
-/
import Derived.Test.YtepgijgmnijdpaaDoorAmXView
import Derived.Test.YtepgijgmnijdpaaDoorAmKit
import Derived.Test.YtepgijgmnijdpaaDoorAmMut
import Derived.IntWalk
import Derived.KernelRfl
noncomputable section
namespace Go.Am
open Go
variable {P : Program} {GL : List Nat} {B : Bd}
def noDoors : Nat → Door := fun _ => ⟨0, 0, [], [], [], []⟩
abbrev i64 (z : Int) : Value := .int .i64 z
abbrev pt (b o : Nat) : Value := .pointer (some ⟨b, o, none⟩)
def tru (pt : Nat) : Fact := ⟨pt, .bool true, ansB true⟩
def fls (pt : Nat) : Fact := ⟨pt, .bool true, ansB false⟩
def onto (pt : Nat) (old : List Value) : Fact := ⟨pt, .bool true, (3, .val (.agg ⟨old⟩), noMem)⟩
abbrev sl (id n : Nat) : Value := .slice (some ⟨id, 0, none⟩) n n
abbrev ro (cs : List Value) (elem esz : Nat) : ABlk := ⟨cs, elem, esz, cs.length, false⟩
abbrev own (cs : List Value) (elem esz : Nat) : ABlk := ⟨cs, elem, esz, 0, true⟩
def modI (x n : Int) : Int := if x.tmod n < 0 then x.tmod n + n else x.tmod n
theorem modI_range {x n : Int} (hn : 0 < n) : 0 ≤ modI x n ∧ modI x n < n := by
  have hlt : x.tmod n < n := Int.tmod_lt_of_pos x hn
  have hgt : -n < x.tmod n := Int.lt_tmod_of_pos x hn
  unfold modI
  split <;> omega
theorem modI_neg {x n : Int} (hn : 0 < n) (hn2 : n < 2 ^ 62) (h : x.tmod n < 0) : IntKind.wrap .i64 (x.tmod n + n) = modI x n := by
  have hgt : -n < x.tmod n := Int.lt_tmod_of_pos x hn
  rw [IntWalk.i64_in _ (by omega)]
  unfold modI; rw [if_pos h]
theorem modI_pos {x n : Int} (h : ¬ x.tmod n < 0) : x.tmod n = modI x n := by
  unfold modI; rw [if_neg h]
theorem SpecOk.sub {f : FuncId} {g g' : List Value → Mem → Option (Value × Mem)} (h : SpecOk P GL B f g) (hs : ∀ args M r, g' args M = some r → g args M = some r) : SpecOk P GL B f g' :=
  ⟨fun args M v M' hg => h.abs args M v M' (hs _ _ _ hg), fun args M v M' hg => h.run args M v M' (hs _ _ _ hg)⟩
def gMod (args : List Value) (M : Mem) : Option (Value × Mem) :=
  match args with
  | [.int .i64 x, .int .i64 n] => bif decide (0 < n) && decide (n < 2 ^ 62) then some (i64 (modI x n), M) else none
  | _ => none
theorem SpecOk.mod {f : FuncId} (hr : ∀ B, ∀ (x n : Int) (M : Mem), 0 < n → n < 2 ^ 62 → ∃ SP k, SpecsOk P GL B SP ∧ Go.Am.arun P GL SP k f [i64 x, i64 n] M = some (i64 (modI x n), M))
    (hN : noNum P) (hm : P.follows .mixedOrders = true) : SpecOk P GL B f gMod := by
  have key : ∀ args M v M', gMod args M = some (v, M') → ∃ SP k, SpecsOk P GL B SP ∧ Go.Am.arun P GL SP k f args M = some (v, M') := fun args M v M' h => by
    unfold gMod at h
    split at h
    · rename_i x n
      cases hb : (decide (0 < n) && decide (n < 2 ^ 62)) <;> rw [hb] at h <;> simp only [cond_true, cond_false] at h
      · cases h
      · cases h
        simp only [Bool.and_eq_true, decide_eq_true_eq] at hb
        exact hr B x n M hb.1 hb.2
    · cases h
  refine ⟨fun args M v M' h => ?_, fun args M v M' h => ?_⟩
  · obtain ⟨SP, k, hS, h1⟩ := key args M v M' h
    exact (SpecOk.arun hN hm hS k f).abs args M v M' h1
  · obtain ⟨SP, k, hS, h1⟩ := key args M v M' h
    exact (SpecOk.arun hN hm hS k f).run args M v M' h1
theorem qd {SP : Specs} {D : Nat → Door} {ids : List Nat} {p : Prop} [Decidable p] (h : p) : (QV.b (decide p) (.val (.bool true))).holds P SP D ids := by simp only [QV.holds]; rw [decide_eq_true h]
theorem qdn {SP : Specs} {D : Nat → Door} {ids : List Nat} {p : Prop} [Decidable p] (h : ¬ p) : (QV.b (decide p) (.val (.bool false))).holds P SP D ids := by simp only [QV.holds]; rw [decide_eq_false h]
def up (s : St) (k : Nat) : St := { s with M := { s.M with next := k } }
end Go.Am
namespace Go.Am
open Go
end Go.Am
end
