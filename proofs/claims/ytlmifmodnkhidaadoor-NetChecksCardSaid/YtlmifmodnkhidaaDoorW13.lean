/-
  P101, NetChecks: for every network, every number, every row of numbers that is handed in the law answers true, and its arguments read as they did. No condition but the row's own.
-/
import Derived.Test.YtlmifmodnkhidaaDoorW12
open Go Go.Am Go.Proofs
namespace Go.Proofs.YtlmifmodnkhidaaDoor
set_option maxRecDepth 10000

/- May an edge, a network be? -/
def fitsP (n : Int) (e : E) : Prop := 0 ≤ e.f ∧ e.f < n ∧ 0 ≤ e.t ∧ e.t < n ∧ 0 ≤ e.m ∧ e.m < 5 ∧ 0 ≤ e.c ∧ e.c ≤ 2147483647
instance (n : Int) (e : E) : Decidable (fitsP n e) := by unfold fitsP; infer_instance
def g28 (args : List Value) (M : Mem) : Option (Value × Mem) :=
  match args with
  | [.int .i64 n] => some (.bool (decide (1 ≤ n ∧ n ≤ 60)), M)
  | _ => none
def g29 (args : List Value) (M : Mem) : Option (Value × Mem) :=
  match args with
  | [.agg ⟨[.int .i64 f, .int .i64 t, .int .i64 m, .int .i64 c]⟩, .int .i64 n] => some (.bool (decide (fitsP n ⟨f, t, m, c⟩)), M)
  | _ => none
def g30 (args : List Value) (M : Mem) : Option (Value × Mem) := g29 args M

/- net.Check, ref.Check -/
noncomputable def B16 : Code := Tryd.f16.body.get!
theorem body16 : Tryd.f16.body = some B16 := by kernel_rfl
noncomputable def loop16 : Code := unloop ((inner 0 100 B16).get!)
noncomputable def B17 : Code := Tryd.f17.body.get!
theorem body17 : Tryd.f17.body = some B17 := by kernel_rfl
noncomputable def loop17 : Code := unloop ((inner 0 100 B17).get!)
def blks16 (N : Int) (ne e0 : Nat) (ec : List Value) : List (Nat × ABlk) := [(0, ro ec e0 4), (1, own [i64 N, sl 0 ne] 24 2)]
def I16 (N : Int) (ne e0 : Nat) (ec : List Value) (iv : Int) : St :=
  ⟨tabT [(1, .pointer (some ⟨1, 0, none⟩)), (2, .bool false), (16, sl 0 ne), (17, i64 ne), (18, i64 iv)], 28, ⟨blkTree (blks16 N ne e0 ec), 2, [], []⟩⟩
def I17 (N : Int) (ne e0 : Nat) (ec : List Value) (iv : Int) : St :=
  ⟨tabT [(1, .pointer (some ⟨1, 0, none⟩)), (2, .bool false), (3, i64 iv)], 34, ⟨blkTree (blks16 N ne e0 ec), 2, [], []⟩⟩
def fin16 (N : Int) (ne e0 : Nat) (ec : List Value) : St := ⟨tabT [(2, .bool false)], 28, ⟨blkTree (blks16 N ne e0 ec), 6, [], []⟩⟩
def fin17 (N : Int) (ne e0 : Nat) (ec : List Value) : St := ⟨tabT [(2, .bool false)], 34, ⟨blkTree (blks16 N ne e0 ec), 6, [], []⟩⟩
def mv16 : Moves := [(0, 0, true), (1, 1, true)]
noncomputable def rnd16 (s : St) (F : List Fact) (nx : Nat) (keep : List Nat) :=
  (hexec Tryd.prog [] (specs [(28, g28), (29, g29)]) 60 loop16 s F 0).map (fun r => (r.1.1, rebase 2 nx mv16 keep [] [] r.1.2, stills r.1.2.M mv16, Nat.ble r.1.2.M.next 6, r.2.2.2.map (view noDoors [])))
noncomputable def rnd17 (s : St) (F : List Fact) (nx : Nat) (keep : List Nat) :=
  (hexec Tryd.prog [] (specs [(30, g30)]) 60 loop17 s F 0).map (fun r => (r.1.1, rebase 2 nx mv16 keep [] [] r.1.2, stills r.1.2.M mv16, Nat.ble r.1.2.M.next 6, r.2.2.2.map (view noDoors [])))
def door16 : Nat → Door := fun _ => ⟨2, 2, mv16, [1, 2, 16, 17, 18], [], []⟩
def door17 : Nat → Door := fun _ => ⟨2, 2, mv16, [1, 2, 3], [], []⟩
noncomputable def run16 (N : Int) (ev : Value) (l : List (Nat × ABlk)) (n : Nat) (SP : Specs) (F : List Fact) :=
  (hexec Tryd.prog [] SP 60 B16 ⟨initT [.agg ⟨[i64 N, ev]⟩] 0 .nil, Tryd.f16.ntmps, startMem l n⟩ F 0).map (fun r => (r.1.1, (), aresults Tryd.prog Tryd.f16 r.1.2, r.2.2.2.map (view door16 [])))
noncomputable def run17 (N : Int) (ev : Value) (l : List (Nat × ABlk)) (n : Nat) (SP : Specs) (F : List Fact) :=
  (hexec Tryd.prog [] SP 60 B17 ⟨initT [.agg ⟨[i64 N, ev]⟩] 0 .nil, Tryd.f17.ntmps, startMem l n⟩ F 0).map (fun r => (r.1.1, (), aresults Tryd.prog Tryd.f17 r.1.2, r.2.2.2.map (view door17 [])))
variable (N iv f t m c : Int) (ne e0 : Nat) (ec : List Value)
theorem st16 : rnd16 (I16 N ne e0 ec iv) [tru 2, tru 4, got 6 (edgeV f t m c), got 18 (.bool true)] 2 [1, 2, 16, 17, 18] =
    some (.normal, some (I16 N ne e0 ec (IntKind.wrap .i64 (iv + 1))), [ec, boxC N ne], true, [.b (decide (iv < (ne : Int))) (.val (.bool true)), .ib iv ne, .ld 31 (0 + iv.toNat * 4) (some (ro ec e0 4)) (.val (edgeV f t m c)), .cr 29 [edgeV f t m c, i64 N] [] (.val (.bool true))]) := by kernel_rfl
theorem st16b : rnd16 (I16 N ne e0 ec iv) [tru 2, tru 4, got 6 (edgeV f t m c), got 18 (.bool false)] 6 [2] =
    some (.ret, some (fin16 N ne e0 ec), [ec, boxC N ne], true, [.b (decide (iv < (ne : Int))) (.val (.bool true)), .ib iv ne, .ld 31 (0 + iv.toNat * 4) (some (ro ec e0 4)) (.val (edgeV f t m c)), .cr 29 [edgeV f t m c, i64 N] [] (.val (.bool false))]) := by kernel_rfl
theorem st16e : rnd16 (I16 N ne e0 ec iv) [fls 2] 6 [2] =
    some (.exit 0, some (fin16 N ne e0 ec), [ec, boxC N ne], true, [.b (decide (iv < (ne : Int))) (.val (.bool false))]) := by kernel_rfl
theorem st17 : rnd17 (I17 N ne e0 ec iv) [tru 10, tru 18, got 20 (edgeV f t m c), got 26 (.bool true)] 2 [1, 2, 3] =
    some (.normal, some (I17 N ne e0 ec (IntKind.wrap .i64 (iv + 1))), [ec, boxC N ne], true, [.b (decide (iv < (ne : Int))) (.val (.bool true)), .ib iv ne, .ld 31 (0 + iv.toNat * 4) (some (ro ec e0 4)) (.val (edgeV f t m c)), .cr 30 [edgeV f t m c, i64 N] [] (.val (.bool true))]) := by kernel_rfl
theorem st17b : rnd17 (I17 N ne e0 ec iv) [tru 10, tru 18, got 20 (edgeV f t m c), got 26 (.bool false)] 6 [2] =
    some (.ret, some (fin17 N ne e0 ec), [ec, boxC N ne], true, [.b (decide (iv < (ne : Int))) (.val (.bool true)), .ib iv ne, .ld 31 (0 + iv.toNat * 4) (some (ro ec e0 4)) (.val (edgeV f t m c)), .cr 30 [edgeV f t m c, i64 N] [] (.val (.bool false))]) := by kernel_rfl
theorem st17e : rnd17 (I17 N ne e0 ec iv) [fls 10] 6 [2] =
    some (.exit 0, some (fin17 N ne e0 ec), [ec, boxC N ne], true, [.b (decide (iv < (ne : Int))) (.val (.bool false))]) := by kernel_rfl
theorem r16a (g : Code → St → Option (AExit × St)) : run16 N (sl 0 ne) [(0, ro ec e0 4)] 1 (specsB [(28, g28), (29, g29)] [(0, g)]) [got 9 (.bool false)] = some (.ret, (), some (.bool false), [.cr 28 [i64 N] [] (.val (.bool false))]) := by kernel_rfl
theorem r16b (g : Code → St → Option (AExit × St)) : run16 N (sl 0 ne) [(0, ro ec e0 4)] 1 (specsB [(28, g28), (29, g29)] [(0, g)]) [got 9 (.bool true), tru 24] = some (.ret, (), some (.bool false), [.cr 28 [i64 N] [] (.val (.bool true)), .b (decide ((ne : Int) > 400)) (.val (.bool true))]) := by kernel_rfl
theorem r16c (g : Code → St → Option (AExit × St)) : run16 N (sl 0 ne) [(0, ro ec e0 4)] 1 (specsB [(28, g28), (29, g29)] [(0, g)]) [got 9 (.bool true), fls 24, past 33 .normal (fin16 N ne e0 ec)] = some (.ret, (), some (.bool true), [.cr 28 [i64 N] [] (.val (.bool true)), .b (decide ((ne : Int) > 400)) (.val (.bool false)), .bk 0 (.loop loop16) 2 [] (some (I16 N ne e0 ec 0)) [ec, boxC N ne] true .normal (fin16 N ne e0 ec)]) := by kernel_rfl
theorem r16d (g : Code → St → Option (AExit × St)) : run16 N (sl 0 ne) [(0, ro ec e0 4)] 1 (specsB [(28, g28), (29, g29)] [(0, g)]) [got 9 (.bool true), fls 24, past 33 .ret (fin16 N ne e0 ec)] = some (.ret, (), some (.bool false), [.cr 28 [i64 N] [] (.val (.bool true)), .b (decide ((ne : Int) > 400)) (.val (.bool false)), .bk 0 (.loop loop16) 2 [] (some (I16 N ne e0 ec 0)) [ec, boxC N ne] true .ret (fin16 N ne e0 ec)]) := by kernel_rfl
theorem r16n : run16 N (.slice none 0 0) [] 0 (specs [(28, g28), (29, g29)]) [got 9 (.bool false)] = some (.ret, (), some (.bool false), [.cr 28 [i64 N] [] (.val (.bool false))]) := by kernel_rfl
theorem r16m : run16 N (.slice none 0 0) [] 0 (specs [(28, g28), (29, g29)]) [got 9 (.bool true)] = some (.ret, (), some (.bool true), [.cr 28 [i64 N] [] (.val (.bool true))]) := by kernel_rfl
theorem r17a (g : Code → St → Option (AExit × St)) : run17 N (sl 0 ne) [(0, ro ec e0 4)] 1 (specsB [(30, g30)] [(0, g)]) [tru 12, tru 14, tru 16, tru 19] = some (.ret, (), some (.bool false), [.b (decide (N < 1)) (.val (.bool true)), .b (decide (N < 1)) (.val (.bool true)), .b (decide (N < 1)) (.val (.bool true)), .b (decide (N < 1)) (.val (.bool true))]) := by kernel_rfl
theorem r17b (g : Code → St → Option (AExit × St)) : run17 N (sl 0 ne) [(0, ro ec e0 4)] 1 (specsB [(30, g30)] [(0, g)]) [fls 12, fls 14, fls 16, fls 19, tru 22, tru 24, tru 26, tru 28, tru 31] = some (.ret, (), some (.bool false), [.b (decide (N < 1)) (.val (.bool false)), .b (decide (N < 1)) (.val (.bool false)), .b (decide (N < 1)) (.val (.bool false)), .b (decide (N < 1)) (.val (.bool false)), .b (decide (N > 60)) (.val (.bool true)), .b (decide (N > 60)) (.val (.bool true)), .b (decide (N > 60)) (.val (.bool true)), .b (decide (N > 60)) (.val (.bool true)), .b (decide (N > 60)) (.val (.bool true))]) := by kernel_rfl
theorem r17c (g : Code → St → Option (AExit × St)) : run17 N (sl 0 ne) [(0, ro ec e0 4)] 1 (specsB [(30, g30)] [(0, g)]) [fls 12, fls 14, fls 16, fls 19, fls 22, fls 24, fls 26, fls 28, fls 31, tru 32] = some (.ret, (), some (.bool false), [.b (decide (N < 1)) (.val (.bool false)), .b (decide (N < 1)) (.val (.bool false)), .b (decide (N < 1)) (.val (.bool false)), .b (decide (N < 1)) (.val (.bool false)), .b (decide (N > 60)) (.val (.bool false)), .b (decide (N > 60)) (.val (.bool false)), .b (decide (N > 60)) (.val (.bool false)), .b (decide (N > 60)) (.val (.bool false)), .b (decide (N > 60)) (.val (.bool false)), .b (decide ((ne : Int) > 400)) (.val (.bool true))]) := by kernel_rfl
theorem r17d (g : Code → St → Option (AExit × St)) : run17 N (sl 0 ne) [(0, ro ec e0 4)] 1 (specsB [(30, g30)] [(0, g)]) [fls 12, fls 14, fls 16, fls 19, fls 22, fls 24, fls 26, fls 28, fls 31, fls 32, past 35 .normal (fin17 N ne e0 ec)] = some (.ret, (), some (.bool true), [.b (decide (N < 1)) (.val (.bool false)), .b (decide (N < 1)) (.val (.bool false)), .b (decide (N < 1)) (.val (.bool false)), .b (decide (N < 1)) (.val (.bool false)), .b (decide (N > 60)) (.val (.bool false)), .b (decide (N > 60)) (.val (.bool false)), .b (decide (N > 60)) (.val (.bool false)), .b (decide (N > 60)) (.val (.bool false)), .b (decide (N > 60)) (.val (.bool false)), .b (decide ((ne : Int) > 400)) (.val (.bool false)), .bk 0 (.loop loop17) 2 [] (some (I17 N ne e0 ec 0)) [ec, boxC N ne] true .normal (fin17 N ne e0 ec)]) := by kernel_rfl
theorem r17e (g : Code → St → Option (AExit × St)) : run17 N (sl 0 ne) [(0, ro ec e0 4)] 1 (specsB [(30, g30)] [(0, g)]) [fls 12, fls 14, fls 16, fls 19, fls 22, fls 24, fls 26, fls 28, fls 31, fls 32, past 35 .ret (fin17 N ne e0 ec)] = some (.ret, (), some (.bool false), [.b (decide (N < 1)) (.val (.bool false)), .b (decide (N < 1)) (.val (.bool false)), .b (decide (N < 1)) (.val (.bool false)), .b (decide (N < 1)) (.val (.bool false)), .b (decide (N > 60)) (.val (.bool false)), .b (decide (N > 60)) (.val (.bool false)), .b (decide (N > 60)) (.val (.bool false)), .b (decide (N > 60)) (.val (.bool false)), .b (decide (N > 60)) (.val (.bool false)), .b (decide ((ne : Int) > 400)) (.val (.bool false)), .bk 0 (.loop loop17) 2 [] (some (I17 N ne e0 ec 0)) [ec, boxC N ne] true .ret (fin17 N ne e0 ec)]) := by kernel_rfl
theorem r17n : run17 N (.slice none 0 0) [] 0 (specs [(30, g30)]) [tru 12, tru 14, tru 16, tru 19] = some (.ret, (), some (.bool false), [.b (decide (N < 1)) (.val (.bool true)), .b (decide (N < 1)) (.val (.bool true)), .b (decide (N < 1)) (.val (.bool true)), .b (decide (N < 1)) (.val (.bool true))]) := by kernel_rfl
theorem r17o : run17 N (.slice none 0 0) [] 0 (specs [(30, g30)]) [fls 12, fls 14, fls 16, fls 19, tru 22, tru 24, tru 26, tru 28, tru 31] = some (.ret, (), some (.bool false), [.b (decide (N < 1)) (.val (.bool false)), .b (decide (N < 1)) (.val (.bool false)), .b (decide (N < 1)) (.val (.bool false)), .b (decide (N < 1)) (.val (.bool false)), .b (decide (N > 60)) (.val (.bool true)), .b (decide (N > 60)) (.val (.bool true)), .b (decide (N > 60)) (.val (.bool true)), .b (decide (N > 60)) (.val (.bool true)), .b (decide (N > 60)) (.val (.bool true))]) := by kernel_rfl
theorem r17m : run17 N (.slice none 0 0) [] 0 (specs [(30, g30)]) [fls 12, fls 14, fls 16, fls 19, fls 22, fls 24, fls 26, fls 28, fls 31] = some (.ret, (), some (.bool true), [.b (decide (N < 1)) (.val (.bool false)), .b (decide (N < 1)) (.val (.bool false)), .b (decide (N < 1)) (.val (.bool false)), .b (decide (N < 1)) (.val (.bool false)), .b (decide (N > 60)) (.val (.bool false)), .b (decide (N > 60)) (.val (.bool false)), .b (decide (N > 60)) (.val (.bool false)), .b (decide (N > 60)) (.val (.bool false)), .b (decide (N > 60)) (.val (.bool false))]) := by kernel_rfl
end Go.Proofs.YtlmifmodnkhidaaDoor
