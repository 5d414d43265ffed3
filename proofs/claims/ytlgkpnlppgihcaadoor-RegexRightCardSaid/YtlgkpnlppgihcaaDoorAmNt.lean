/-
  What is proved: RegexRight: whether any expression is right is what the document's own reading says, and so is one of which one thing was turned. For every argument; the tables are as the program lays them.
-/
import Derived.Test.YtlgkpnlppgihcaaDoorAmTree
noncomputable section
namespace Go.Am
open Go
variable {M M' A B C : Mem} {H : List (Nat × Nat)} {t : DT} {v : Value} {x y : Nat}
theorem nt_ext (E : Go.Am.Ext M M') (h : NodeAt 5 (hidx H M) t v) : NodeAt 5 (hidx H M') t v := NodeAt.ext (fun _ _ k => hidx_ext E k) _ _ h
theorem nt_new (e : M.next = x) (E : Go.Am.Ext M M') (h : NodeAt 5 (hidx H M) t v) : NodeAt 5 (hidx ((x, x + 1) :: H) M') t v := NodeAt.ext (fun _ _ k => hidx_new e E k) _ _ h
theorem nt_keep (x : Nat) (kp : ∀ id, id ≠ x → M'.get id = M.get id) (hx : ∀ id, ¬ hidden H id = true → id ≠ x) (h : NodeAt 5 (hidx H M) t v) : NodeAt 5 (hidx H M') t v := NodeAt.ext (fun _ _ k => hidx_keep (fun id h _ => kp id h) hx k) _ _ h
theorem nt_grow (x : Nat) (kp : ∀ id, id ≠ x → id < M.next → M'.get id = M.get id) (e : M.next = y) (hx : ∀ id, ¬ hidden H id = true → id ≠ x) (h : NodeAt 5 (hidx H M) t v) : NodeAt 5 (hidx ((y, y + 1) :: H) M') t v := NodeAt.ext (fun _ _ k => hidx_grow kp e hx k) _ _ h
theorem mk_eq {A' : Mem} (h1 : Go.Am.Ext A B) (h2 : Go.Am.Ext A' C) (h : A.hide = A'.hide := by rfl) : Mem.mk C.blks C.next B.hide C.log = C := by rw [h1.hide.trans (h.trans h2.hide.symm)]
theorem mk_hides {d : Nat} {l : List Done} (h : hides d l = []) (h1 : Go.Am.Ext A B) (h2 : Go.Am.Ext A C) : Mem.mk C.blks C.next (hides d l ++ B.hide) C.log = C := by rw [h, h1.hide.trans h2.hide.symm]; rfl
theorem ne_new {b n : Nat} {k : ABlk} (h : M.get b = some k) (e : M.next = n) : b ≠ n := by have := Mem.lt_of_get h; omega
theorem nb_of {n : Nat} (e : M.next = n) (E : Go.Am.Ext A M) : A.next ≤ n := e ▸ E.next
theorem sK {P : Program} {l : List (FuncId × (List Value → Mem → Option (Value × Mem)))} (h : ∀ B, ∀ p ∈ l, SpecOk P [] B p.1 p.2) : ∀ B, SpecsOk P [] B (specsB l []) := fun B => specsB_ok (k := []) (h B) (fun p hp => by cases hp)
end Go.Am
end
