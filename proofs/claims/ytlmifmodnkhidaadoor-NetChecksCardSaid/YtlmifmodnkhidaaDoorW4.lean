/-
  P101, NetChecks: for every network, every number, every row of numbers that is handed in the law answers true, and its arguments read as they did. No condition but the row's own.
-/
import Derived.Test.YtlmifmodnkhidaaDoorW3
import Derived.Test.YtlmifmodnkhidaaDoorAmStart
open Go Go.Am Go.Proofs
namespace Go.Proofs.YtlmifmodnkhidaaDoor
set_option maxRecDepth 10000

def door24 : Door := ⟨3, 4, mv24 [], keep24, [], []⟩
noncomputable def SPb24 (t : St) (r : AExit × St) : Specs := specsB [(38, g38)] [(0, loopG (.loop loop24) door24 t r)]
def args24 (N fr tt : Int) (ne nl : Nat) : List Value := [.agg ⟨[i64 N, sl 0 ne]⟩, i64 fr, i64 tt, sl 1 nl]
def mem24 (e0 e1 : Nat) (ec lc : List Value) : Mem := startMem [(0, ro ec e0 4), (1, ro lc e1 1)] 2
noncomputable def run24 (SP : Specs) (N fr tt : Int) (ne nl e0 e1 : Nat) (ec lc : List Value) (F : List Fact) (k : Nat) :=
  (hexec Tryd.prog [] SP 60 B24 ⟨initT (args24 N fr tt ne nl) 0 .nil, Tryd.f24.ntmps, mem24 e0 e1 ec lc⟩ F 0).map (fun r => (r.1.1, r.1.2.M.get k, aresults Tryd.prog Tryd.f24 r.1.2, r.2.2.2.map (view (fun _ => door24) [])))
def noWalk : Value := .tuple ⟨[i64 0, .slice none 0 0, .bool false]⟩
variable (N fr tt at' cost : Int) (ne nl nw e0 e1 : Nat) (ec lc wc : List Value) (t : St) (r : AExit × St)
theorem run24a : run24 (SPb24 t r) N fr tt ne nl e0 e1 ec lc [got 15 (.bool false)] 3 = some (.ret, none, some noWalk, [.cr 38 [i64 fr, i64 N] [] (.val (.bool false))]) := by kernel_rfl
theorem run24b : run24 (SPb24 t r) N fr tt ne nl e0 e1 ec lc [got 15 (.bool true), got 27 (.bool false)] 3 = some (.ret, none, some noWalk, [.cr 38 [i64 fr, i64 N] [] (.val (.bool true)), .cr 38 [i64 tt, i64 N] [] (.val (.bool false))]) := by kernel_rfl
noncomputable def qIn (e : AExit) (s : St) : List QV := [.cr 38 [i64 fr, i64 N] [] (.val (.bool true)), .cr 38 [i64 tt, i64 N] [] (.val (.bool true)), .bk 0 (.loop loop24) 3 [] (some (I24 N tt ne nl e0 e1 ec lc fr 0 0 (.slice none 0 0) [])) [ec, lc, boxC N ne] true e s]
theorem run24c : run24 (SPb24 t r) N fr tt ne nl e0 e1 ec lc [got 15 (.bool true), got 27 (.bool true), past 43 .ret (bad24 N ne e0 e1 ec lc)] 3 =
    some (.ret, none, some noWalk, qIn N fr tt ne nl e0 e1 ec lc .ret (bad24 N ne e0 e1 ec lc)) := by kernel_rfl
theorem run24d (wv : Value) (wb : List (Nat × ABlk)) (hw : (wv = .slice none 0 0 ∧ wb = []) ∨ (wv = sl 3 nw ∧ wb = [(3, own wc 3 1)])) : run24 (SPb24 t r) N fr tt ne nl e0 e1 ec lc [got 15 (.bool true), got 27 (.bool true), past 43 .normal (fin24 N tt ne e0 e1 ec lc at' cost wv wb), tru 50] 4 =
    some (.ret, none, some noWalk, qIn N fr tt ne nl e0 e1 ec lc .normal (fin24 N tt ne e0 e1 ec lc at' cost wv wb) ++ [.b (at' != tt) (.val (.bool true))]) := by
  rcases hw with ⟨rfl, rfl⟩ | ⟨rfl, rfl⟩ <;> kernel_rfl
theorem run24e : run24 (SPb24 t r) N fr tt ne nl e0 e1 ec lc [got 15 (.bool true), got 27 (.bool true), past 43 .normal (fin24 N tt ne e0 e1 ec lc at' cost (.slice none 0 0) []), fls 50] 3 =
    some (.ret, none, some (.tuple ⟨[i64 cost, .slice none 0 0, .bool true]⟩), qIn N fr tt ne nl e0 e1 ec lc .normal (fin24 N tt ne e0 e1 ec lc at' cost (.slice none 0 0) []) ++ [.b (at' != tt) (.val (.bool false))]) := by kernel_rfl
theorem run24f : run24 (SPb24 t r) N fr tt ne nl e0 e1 ec lc [got 15 (.bool true), got 27 (.bool true), past 43 .normal (fin24 N tt ne e0 e1 ec lc at' cost (sl 3 nw) [(3, own wc 3 1)]), fls 50] 3 =
    some (.ret, some (own wc 3 1), some (.tuple ⟨[i64 cost, sl 3 nw, .bool true]⟩), qIn N fr tt ne nl e0 e1 ec lc .normal (fin24 N tt ne e0 e1 ec lc at' cost (sl 3 nw) [(3, own wc 3 1)]) ++ [.b (at' != tt) (.val (.bool false))]) := by kernel_rfl
end Go.Proofs.YtlmifmodnkhidaaDoor
