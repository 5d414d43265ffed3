/-
  NetWalks: whether any edges are a walk, its cost and its word, are the document's: of any network of at most twelve vertices that is made of the numbers handed in, and of any rows of edges, of at most sixty where they are handed in; the answer is true for every argument.
-/
import Derived.Test.YtlmifmodnkhidaaDoorGW10
open Go Go.Am Go.Proofs
namespace Go.Proofs.YtlmifmodnkhidaaDoor
set_option maxRecDepth 10000
theorem r28a (N : Int) : (hexec Tryd.prog [] (specs [(38, g38)]) 60 (Tryd.f28.body.get!) ⟨initT [i64 N] 0 .nil, Tryd.f28.ntmps, startMem [] 0⟩ [tru 8, tru 10, tru 13] 0).map (fun r => (r.1.1, (), aresults Tryd.prog Tryd.f28 r.1.2, r.2.2.2.map (view noDoors []))) =
    some (.ret, (), some (.bool (decide (N ≤ 60))), [.b (decide (N ≥ 1)) (.val (.bool true)), .b (decide (N ≥ 1)) (.val (.bool true)), .b (decide (N ≥ 1)) (.val (.bool true))]) := by kernel_rfl
theorem r28b (N : Int) : (hexec Tryd.prog [] (specs [(38, g38)]) 60 (Tryd.f28.body.get!) ⟨initT [i64 N] 0 .nil, Tryd.f28.ntmps, startMem [] 0⟩ [fls 8, fls 10, fls 13] 0).map (fun r => (r.1.1, (), aresults Tryd.prog Tryd.f28 r.1.2, r.2.2.2.map (view noDoors []))) =
    some (.ret, (), some (.bool false), [.b (decide (N ≥ 1)) (.val (.bool false)), .b (decide (N ≥ 1)) (.val (.bool false)), .b (decide (N ≥ 1)) (.val (.bool false))]) := by kernel_rfl
theorem r30_0 (f t m c n : Int) : (hexec Tryd.prog [] (specs [(38, g38)]) 60 (Tryd.f30.body.get!) ⟨initT [edgeV f t m c, i64 n] 0 .nil, Tryd.f30.ntmps, startMem [] 0⟩ [fls 12, fls 14, fls 16, fls 18, fls 21] 0).map (fun r => (r.1.1, (), aresults Tryd.prog Tryd.f30 r.1.2, r.2.2.2.map (view noDoors []))) =
    some (.ret, (), some (.bool false), [.b (decide (f ≥ 0)) (.val (.bool false)), .b (decide (f ≥ 0)) (.val (.bool false)), .b (decide (f ≥ 0)) (.val (.bool false)), .b (decide (f ≥ 0)) (.val (.bool false)), .b (decide (f ≥ 0)) (.val (.bool false))]) := by kernel_rfl
theorem r30_1 (f t m c n : Int) : (hexec Tryd.prog [] (specs [(38, g38)]) 60 (Tryd.f30.body.get!) ⟨initT [edgeV f t m c, i64 n] 0 .nil, Tryd.f30.ntmps, startMem [] 0⟩ [tru 12, tru 14, tru 16, tru 18, tru 21, fls 24, fls 26, fls 28, fls 31] 0).map (fun r => (r.1.1, (), aresults Tryd.prog Tryd.f30 r.1.2, r.2.2.2.map (view noDoors []))) =
    some (.ret, (), some (.bool false), [.b (decide (f ≥ 0)) (.val (.bool true)), .b (decide (f ≥ 0)) (.val (.bool true)), .b (decide (f ≥ 0)) (.val (.bool true)), .b (decide (f ≥ 0)) (.val (.bool true)), .b (decide (f ≥ 0)) (.val (.bool true)), .b (decide (f < n)) (.val (.bool false)), .b (decide (f < n)) (.val (.bool false)), .b (decide (f < n)) (.val (.bool false)), .b (decide (f < n)) (.val (.bool false))]) := by kernel_rfl
theorem r30_2 (f t m c n : Int) : (hexec Tryd.prog [] (specs [(38, g38)]) 60 (Tryd.f30.body.get!) ⟨initT [edgeV f t m c, i64 n] 0 .nil, Tryd.f30.ntmps, startMem [] 0⟩ [tru 12, tru 14, tru 16, tru 18, tru 21, tru 24, tru 26, tru 28, tru 31, fls 34, fls 36, fls 38, fls 40, fls 43] 0).map (fun r => (r.1.1, (), aresults Tryd.prog Tryd.f30 r.1.2, r.2.2.2.map (view noDoors []))) =
    some (.ret, (), some (.bool false), [.b (decide (f ≥ 0)) (.val (.bool true)), .b (decide (f ≥ 0)) (.val (.bool true)), .b (decide (f ≥ 0)) (.val (.bool true)), .b (decide (f ≥ 0)) (.val (.bool true)), .b (decide (f ≥ 0)) (.val (.bool true)), .b (decide (f < n)) (.val (.bool true)), .b (decide (f < n)) (.val (.bool true)), .b (decide (f < n)) (.val (.bool true)), .b (decide (f < n)) (.val (.bool true)), .b (decide (t ≥ 0)) (.val (.bool false)), .b (decide (t ≥ 0)) (.val (.bool false)), .b (decide (t ≥ 0)) (.val (.bool false)), .b (decide (t ≥ 0)) (.val (.bool false)), .b (decide (t ≥ 0)) (.val (.bool false))]) := by kernel_rfl
theorem r30_3 (f t m c n : Int) : (hexec Tryd.prog [] (specs [(38, g38)]) 60 (Tryd.f30.body.get!) ⟨initT [edgeV f t m c, i64 n] 0 .nil, Tryd.f30.ntmps, startMem [] 0⟩ [tru 12, tru 14, tru 16, tru 18, tru 21, tru 24, tru 26, tru 28, tru 31, tru 34, tru 36, tru 38, tru 40, tru 43, fls 46, fls 48, fls 50, fls 53] 0).map (fun r => (r.1.1, (), aresults Tryd.prog Tryd.f30 r.1.2, r.2.2.2.map (view noDoors []))) =
    some (.ret, (), some (.bool false), [.b (decide (f ≥ 0)) (.val (.bool true)), .b (decide (f ≥ 0)) (.val (.bool true)), .b (decide (f ≥ 0)) (.val (.bool true)), .b (decide (f ≥ 0)) (.val (.bool true)), .b (decide (f ≥ 0)) (.val (.bool true)), .b (decide (f < n)) (.val (.bool true)), .b (decide (f < n)) (.val (.bool true)), .b (decide (f < n)) (.val (.bool true)), .b (decide (f < n)) (.val (.bool true)), .b (decide (t ≥ 0)) (.val (.bool true)), .b (decide (t ≥ 0)) (.val (.bool true)), .b (decide (t ≥ 0)) (.val (.bool true)), .b (decide (t ≥ 0)) (.val (.bool true)), .b (decide (t ≥ 0)) (.val (.bool true)), .b (decide (t < n)) (.val (.bool false)), .b (decide (t < n)) (.val (.bool false)), .b (decide (t < n)) (.val (.bool false)), .b (decide (t < n)) (.val (.bool false))]) := by kernel_rfl
theorem r30_4 (f t m c n : Int) : (hexec Tryd.prog [] (specs [(38, g38)]) 60 (Tryd.f30.body.get!) ⟨initT [edgeV f t m c, i64 n] 0 .nil, Tryd.f30.ntmps, startMem [] 0⟩ [tru 12, tru 14, tru 16, tru 18, tru 21, tru 24, tru 26, tru 28, tru 31, tru 34, tru 36, tru 38, tru 40, tru 43, tru 46, tru 48, tru 50, tru 53, fls 56, fls 58, fls 60, fls 63] 0).map (fun r => (r.1.1, (), aresults Tryd.prog Tryd.f30 r.1.2, r.2.2.2.map (view noDoors []))) =
    some (.ret, (), some (.bool false), [.b (decide (f ≥ 0)) (.val (.bool true)), .b (decide (f ≥ 0)) (.val (.bool true)), .b (decide (f ≥ 0)) (.val (.bool true)), .b (decide (f ≥ 0)) (.val (.bool true)), .b (decide (f ≥ 0)) (.val (.bool true)), .b (decide (f < n)) (.val (.bool true)), .b (decide (f < n)) (.val (.bool true)), .b (decide (f < n)) (.val (.bool true)), .b (decide (f < n)) (.val (.bool true)), .b (decide (t ≥ 0)) (.val (.bool true)), .b (decide (t ≥ 0)) (.val (.bool true)), .b (decide (t ≥ 0)) (.val (.bool true)), .b (decide (t ≥ 0)) (.val (.bool true)), .b (decide (t ≥ 0)) (.val (.bool true)), .b (decide (t < n)) (.val (.bool true)), .b (decide (t < n)) (.val (.bool true)), .b (decide (t < n)) (.val (.bool true)), .b (decide (t < n)) (.val (.bool true)), .b (decide (m ≥ 0)) (.val (.bool false)), .b (decide (m ≥ 0)) (.val (.bool false)), .b (decide (m ≥ 0)) (.val (.bool false)), .b (decide (m ≥ 0)) (.val (.bool false))]) := by kernel_rfl
theorem r30_5 (f t m c n : Int) : (hexec Tryd.prog [] (specs [(38, g38)]) 60 (Tryd.f30.body.get!) ⟨initT [edgeV f t m c, i64 n] 0 .nil, Tryd.f30.ntmps, startMem [] 0⟩ [tru 12, tru 14, tru 16, tru 18, tru 21, tru 24, tru 26, tru 28, tru 31, tru 34, tru 36, tru 38, tru 40, tru 43, tru 46, tru 48, tru 50, tru 53, tru 56, tru 58, tru 60, tru 63, fls 66, fls 68, fls 70, fls 73] 0).map (fun r => (r.1.1, (), aresults Tryd.prog Tryd.f30 r.1.2, r.2.2.2.map (view noDoors []))) =
    some (.ret, (), some (.bool false), [.b (decide (f ≥ 0)) (.val (.bool true)), .b (decide (f ≥ 0)) (.val (.bool true)), .b (decide (f ≥ 0)) (.val (.bool true)), .b (decide (f ≥ 0)) (.val (.bool true)), .b (decide (f ≥ 0)) (.val (.bool true)), .b (decide (f < n)) (.val (.bool true)), .b (decide (f < n)) (.val (.bool true)), .b (decide (f < n)) (.val (.bool true)), .b (decide (f < n)) (.val (.bool true)), .b (decide (t ≥ 0)) (.val (.bool true)), .b (decide (t ≥ 0)) (.val (.bool true)), .b (decide (t ≥ 0)) (.val (.bool true)), .b (decide (t ≥ 0)) (.val (.bool true)), .b (decide (t ≥ 0)) (.val (.bool true)), .b (decide (t < n)) (.val (.bool true)), .b (decide (t < n)) (.val (.bool true)), .b (decide (t < n)) (.val (.bool true)), .b (decide (t < n)) (.val (.bool true)), .b (decide (m ≥ 0)) (.val (.bool true)), .b (decide (m ≥ 0)) (.val (.bool true)), .b (decide (m ≥ 0)) (.val (.bool true)), .b (decide (m ≥ 0)) (.val (.bool true)), .b (decide (m < 5)) (.val (.bool false)), .b (decide (m < 5)) (.val (.bool false)), .b (decide (m < 5)) (.val (.bool false)), .b (decide (m < 5)) (.val (.bool false))]) := by kernel_rfl
theorem r30_6 (f t m c n : Int) : (hexec Tryd.prog [] (specs [(38, g38)]) 60 (Tryd.f30.body.get!) ⟨initT [edgeV f t m c, i64 n] 0 .nil, Tryd.f30.ntmps, startMem [] 0⟩ [tru 12, tru 14, tru 16, tru 18, tru 21, tru 24, tru 26, tru 28, tru 31, tru 34, tru 36, tru 38, tru 40, tru 43, tru 46, tru 48, tru 50, tru 53, tru 56, tru 58, tru 60, tru 63, tru 66, tru 68, tru 70, tru 73, fls 76, fls 78, fls 80, fls 83] 0).map (fun r => (r.1.1, (), aresults Tryd.prog Tryd.f30 r.1.2, r.2.2.2.map (view noDoors []))) =
    some (.ret, (), some (.bool false), [.b (decide (f ≥ 0)) (.val (.bool true)), .b (decide (f ≥ 0)) (.val (.bool true)), .b (decide (f ≥ 0)) (.val (.bool true)), .b (decide (f ≥ 0)) (.val (.bool true)), .b (decide (f ≥ 0)) (.val (.bool true)), .b (decide (f < n)) (.val (.bool true)), .b (decide (f < n)) (.val (.bool true)), .b (decide (f < n)) (.val (.bool true)), .b (decide (f < n)) (.val (.bool true)), .b (decide (t ≥ 0)) (.val (.bool true)), .b (decide (t ≥ 0)) (.val (.bool true)), .b (decide (t ≥ 0)) (.val (.bool true)), .b (decide (t ≥ 0)) (.val (.bool true)), .b (decide (t ≥ 0)) (.val (.bool true)), .b (decide (t < n)) (.val (.bool true)), .b (decide (t < n)) (.val (.bool true)), .b (decide (t < n)) (.val (.bool true)), .b (decide (t < n)) (.val (.bool true)), .b (decide (m ≥ 0)) (.val (.bool true)), .b (decide (m ≥ 0)) (.val (.bool true)), .b (decide (m ≥ 0)) (.val (.bool true)), .b (decide (m ≥ 0)) (.val (.bool true)), .b (decide (m < 5)) (.val (.bool true)), .b (decide (m < 5)) (.val (.bool true)), .b (decide (m < 5)) (.val (.bool true)), .b (decide (m < 5)) (.val (.bool true)), .b (decide (c ≥ 0)) (.val (.bool false)), .b (decide (c ≥ 0)) (.val (.bool false)), .b (decide (c ≥ 0)) (.val (.bool false)), .b (decide (c ≥ 0)) (.val (.bool false))]) := by kernel_rfl
theorem r30_7 (f t m c n : Int) : (hexec Tryd.prog [] (specs [(38, g38)]) 60 (Tryd.f30.body.get!) ⟨initT [edgeV f t m c, i64 n] 0 .nil, Tryd.f30.ntmps, startMem [] 0⟩ [tru 12, tru 14, tru 16, tru 18, tru 21, tru 24, tru 26, tru 28, tru 31, tru 34, tru 36, tru 38, tru 40, tru 43, tru 46, tru 48, tru 50, tru 53, tru 56, tru 58, tru 60, tru 63, tru 66, tru 68, tru 70, tru 73, tru 76, tru 78, tru 80, tru 83] 0).map (fun r => (r.1.1, (), aresults Tryd.prog Tryd.f30 r.1.2, r.2.2.2.map (view noDoors []))) =
    some (.ret, (), some (.bool (decide (c ≤ 2147483647))), [.b (decide (f ≥ 0)) (.val (.bool true)), .b (decide (f ≥ 0)) (.val (.bool true)), .b (decide (f ≥ 0)) (.val (.bool true)), .b (decide (f ≥ 0)) (.val (.bool true)), .b (decide (f ≥ 0)) (.val (.bool true)), .b (decide (f < n)) (.val (.bool true)), .b (decide (f < n)) (.val (.bool true)), .b (decide (f < n)) (.val (.bool true)), .b (decide (f < n)) (.val (.bool true)), .b (decide (t ≥ 0)) (.val (.bool true)), .b (decide (t ≥ 0)) (.val (.bool true)), .b (decide (t ≥ 0)) (.val (.bool true)), .b (decide (t ≥ 0)) (.val (.bool true)), .b (decide (t ≥ 0)) (.val (.bool true)), .b (decide (t < n)) (.val (.bool true)), .b (decide (t < n)) (.val (.bool true)), .b (decide (t < n)) (.val (.bool true)), .b (decide (t < n)) (.val (.bool true)), .b (decide (m ≥ 0)) (.val (.bool true)), .b (decide (m ≥ 0)) (.val (.bool true)), .b (decide (m ≥ 0)) (.val (.bool true)), .b (decide (m ≥ 0)) (.val (.bool true)), .b (decide (m < 5)) (.val (.bool true)), .b (decide (m < 5)) (.val (.bool true)), .b (decide (m < 5)) (.val (.bool true)), .b (decide (m < 5)) (.val (.bool true)), .b (decide (c ≥ 0)) (.val (.bool true)), .b (decide (c ≥ 0)) (.val (.bool true)), .b (decide (c ≥ 0)) (.val (.bool true)), .b (decide (c ≥ 0)) (.val (.bool true))]) := by kernel_rfl
theorem r29_0 (f t m c n : Int) : (hexec Tryd.prog [] (specs [(38, g38)]) 60 (Tryd.f29.body.get!) ⟨initT [edgeV f t m c, i64 n] 0 .nil, Tryd.f29.ntmps, startMem [] 0⟩ [got 11 (.bool false)] 0).map (fun r => (r.1.1, (), aresults Tryd.prog Tryd.f29 r.1.2, r.2.2.2.map (view noDoors []))) =
    some (.ret, (), some (.bool false), [.cr 38 [i64 f, i64 n] [] (.val (.bool false))]) := by kernel_rfl
theorem r29_1 (f t m c n : Int) : (hexec Tryd.prog [] (specs [(38, g38)]) 60 (Tryd.f29.body.get!) ⟨initT [edgeV f t m c, i64 n] 0 .nil, Tryd.f29.ntmps, startMem [] 0⟩ [got 11 (.bool true), got 21 (.bool false)] 0).map (fun r => (r.1.1, (), aresults Tryd.prog Tryd.f29 r.1.2, r.2.2.2.map (view noDoors []))) =
    some (.ret, (), some (.bool false), [.cr 38 [i64 f, i64 n] [] (.val (.bool true)), .cr 38 [i64 t, i64 n] [] (.val (.bool false))]) := by kernel_rfl
theorem r29_2 (f t m c n : Int) : (hexec Tryd.prog [] (specs [(38, g38)]) 60 (Tryd.f29.body.get!) ⟨initT [edgeV f t m c, i64 n] 0 .nil, Tryd.f29.ntmps, startMem [] 0⟩ [got 11 (.bool true), got 21 (.bool true), got 31 (.bool false)] 0).map (fun r => (r.1.1, (), aresults Tryd.prog Tryd.f29 r.1.2, r.2.2.2.map (view noDoors []))) =
    some (.ret, (), some (.bool false), [.cr 38 [i64 f, i64 n] [] (.val (.bool true)), .cr 38 [i64 t, i64 n] [] (.val (.bool true)), .cr 38 [i64 m, i64 5] [] (.val (.bool false))]) := by kernel_rfl
theorem r29_3 (f t m c n : Int) : (hexec Tryd.prog [] (specs [(38, g38)]) 60 (Tryd.f29.body.get!) ⟨initT [edgeV f t m c, i64 n] 0 .nil, Tryd.f29.ntmps, startMem [] 0⟩ [got 11 (.bool true), got 21 (.bool true), got 31 (.bool true), fls 46, fls 48, fls 50, fls 53] 0).map (fun r => (r.1.1, (), aresults Tryd.prog Tryd.f29 r.1.2, r.2.2.2.map (view noDoors []))) =
    some (.ret, (), some (.bool false), [.cr 38 [i64 f, i64 n] [] (.val (.bool true)), .cr 38 [i64 t, i64 n] [] (.val (.bool true)), .cr 38 [i64 m, i64 5] [] (.val (.bool true)), .b (decide (c ≥ 0)) (.val (.bool false)), .b (decide (c ≥ 0)) (.val (.bool false)), .b (decide (c ≥ 0)) (.val (.bool false)), .b (decide (c ≥ 0)) (.val (.bool false))]) := by kernel_rfl
theorem r29_4 (f t m c n : Int) : (hexec Tryd.prog [] (specs [(38, g38)]) 60 (Tryd.f29.body.get!) ⟨initT [edgeV f t m c, i64 n] 0 .nil, Tryd.f29.ntmps, startMem [] 0⟩ [got 11 (.bool true), got 21 (.bool true), got 31 (.bool true), tru 46, tru 48, tru 50, tru 53] 0).map (fun r => (r.1.1, (), aresults Tryd.prog Tryd.f29 r.1.2, r.2.2.2.map (view noDoors []))) =
    some (.ret, (), some (.bool (decide (c ≤ 2147483647))), [.cr 38 [i64 f, i64 n] [] (.val (.bool true)), .cr 38 [i64 t, i64 n] [] (.val (.bool true)), .cr 38 [i64 m, i64 5] [] (.val (.bool true)), .b (decide (c ≥ 0)) (.val (.bool true)), .b (decide (c ≥ 0)) (.val (.bool true)), .b (decide (c ≥ 0)) (.val (.bool true)), .b (decide (c ≥ 0)) (.val (.bool true))]) := by kernel_rfl
end Go.Proofs.YtlmifmodnkhidaaDoor

open Go Go.Am Go.Proofs
namespace Go.Proofs.YtlmifmodnkhidaaDoor
set_option maxRecDepth 10000

/- May an edge, a network be? -/
def fitsP (n : Int) (e : E) : Prop := 0 ≤ e.f ∧ e.f < n ∧ 0 ≤ e.t ∧ e.t < n ∧ 0 ≤ e.m ∧ e.m < 5 ∧ 0 ≤ e.c ∧ e.c ≤ 2147483647
instance (n : Int) (e : E) : Decidable (fitsP n e) := by unfold fitsP; infer_instance
def g28 (args : List Value) (M : Mem) : Option (Value × Mem) :=
  match args with
  | [.int .i64 n] => some (.bool (decide (1 ≤ n ∧ n ≤ 60)), M)
  | _ => none
def g29 (args : List Value) (M : Mem) : Option (Value × Mem) :=
  match args with
  | [.agg ⟨[.int .i64 f, .int .i64 t, .int .i64 m, .int .i64 c]⟩, .int .i64 n] => some (.bool (decide (fitsP n ⟨f, t, m, c⟩)), M)
  | _ => none
def g30 (args : List Value) (M : Mem) : Option (Value × Mem) := g29 args M

/- net.Check, ref.Check -/
noncomputable def B16 : Code := Tryd.f16.body.get!
theorem body16 : Tryd.f16.body = some B16 := by kernel_rfl
noncomputable def loop16 : Code := unloop ((inner 0 100 B16).get!)
noncomputable def B17 : Code := Tryd.f17.body.get!
theorem body17 : Tryd.f17.body = some B17 := by kernel_rfl
noncomputable def loop17 : Code := unloop ((inner 0 100 B17).get!)
def blks16 (N : Int) (ne e0 : Nat) (ec : List Value) : List (Nat × ABlk) := [(0, ro ec e0 4), (1, own [i64 N, sl 0 ne] 24 2)]
def I16 (N : Int) (ne e0 : Nat) (ec : List Value) (iv : Int) : St :=
  ⟨tabT [(1, .pointer (some ⟨1, 0, none⟩)), (2, .bool false), (16, sl 0 ne), (17, i64 ne), (18, i64 iv)], 28, ⟨blkTree (blks16 N ne e0 ec), 2, [], []⟩⟩
def I17 (N : Int) (ne e0 : Nat) (ec : List Value) (iv : Int) : St :=
  ⟨tabT [(1, .pointer (some ⟨1, 0, none⟩)), (2, .bool false), (3, i64 iv)], 34, ⟨blkTree (blks16 N ne e0 ec), 2, [], []⟩⟩
def fin16 (N : Int) (ne e0 : Nat) (ec : List Value) : St := ⟨tabT [(2, .bool false)], 28, ⟨blkTree (blks16 N ne e0 ec), 6, [], []⟩⟩
def fin17 (N : Int) (ne e0 : Nat) (ec : List Value) : St := ⟨tabT [(2, .bool false)], 34, ⟨blkTree (blks16 N ne e0 ec), 6, [], []⟩⟩
def mv16 : Moves := [(0, 0, true), (1, 1, true)]
noncomputable def rnd16 (s : St) (F : List Fact) (nx : Nat) (keep : List Nat) :=
  (hexec Tryd.prog [] (specs [(28, g28), (29, g29)]) 60 loop16 s F 0).map (fun r => (r.1.1, rebase 2 nx mv16 keep [] [] r.1.2, stills r.1.2.M mv16, Nat.ble r.1.2.M.next 6, r.2.2.2.map (view noDoors [])))
noncomputable def rnd17 (s : St) (F : List Fact) (nx : Nat) (keep : List Nat) :=
  (hexec Tryd.prog [] (specs [(30, g30)]) 60 loop17 s F 0).map (fun r => (r.1.1, rebase 2 nx mv16 keep [] [] r.1.2, stills r.1.2.M mv16, Nat.ble r.1.2.M.next 6, r.2.2.2.map (view noDoors [])))
def door16 : Nat → Door := fun _ => ⟨2, 2, mv16, [1, 2, 16, 17, 18], [], []⟩
def door17 : Nat → Door := fun _ => ⟨2, 2, mv16, [1, 2, 3], [], []⟩
noncomputable def run16 (N : Int) (ev : Value) (l : List (Nat × ABlk)) (n : Nat) (SP : Specs) (F : List Fact) :=
  (hexec Tryd.prog [] SP 60 B16 ⟨initT [.agg ⟨[i64 N, ev]⟩] 0 .nil, Tryd.f16.ntmps, startMem l n⟩ F 0).map (fun r => (r.1.1, (), aresults Tryd.prog Tryd.f16 r.1.2, r.2.2.2.map (view door16 [])))
noncomputable def run17 (N : Int) (ev : Value) (l : List (Nat × ABlk)) (n : Nat) (SP : Specs) (F : List Fact) :=
  (hexec Tryd.prog [] SP 60 B17 ⟨initT [.agg ⟨[i64 N, ev]⟩] 0 .nil, Tryd.f17.ntmps, startMem l n⟩ F 0).map (fun r => (r.1.1, (), aresults Tryd.prog Tryd.f17 r.1.2, r.2.2.2.map (view door17 [])))
variable (N iv f t m c : Int) (ne e0 : Nat) (ec : List Value)
theorem st16 : rnd16 (I16 N ne e0 ec iv) [tru 2, tru 4, got 6 (edgeV f t m c), got 18 (.bool true)] 2 [1, 2, 16, 17, 18] =
    some (.normal, some (I16 N ne e0 ec (IntKind.wrap .i64 (iv + 1))), [ec, boxC N ne], true, [.b (decide (iv < (ne : Int))) (.val (.bool true)), .ib iv ne, .ld 31 (0 + iv.toNat * 4) (some (ro ec e0 4)) (.val (edgeV f t m c)), .cr 29 [edgeV f t m c, i64 N] [] (.val (.bool true))]) := by kernel_rfl
theorem st16b : rnd16 (I16 N ne e0 ec iv) [tru 2, tru 4, got 6 (edgeV f t m c), got 18 (.bool false)] 6 [2] =
    some (.ret, some (fin16 N ne e0 ec), [ec, boxC N ne], true, [.b (decide (iv < (ne : Int))) (.val (.bool true)), .ib iv ne, .ld 31 (0 + iv.toNat * 4) (some (ro ec e0 4)) (.val (edgeV f t m c)), .cr 29 [edgeV f t m c, i64 N] [] (.val (.bool false))]) := by kernel_rfl
theorem st16e : rnd16 (I16 N ne e0 ec iv) [fls 2] 6 [2] =
    some (.exit 0, some (fin16 N ne e0 ec), [ec, boxC N ne], true, [.b (decide (iv < (ne : Int))) (.val (.bool false))]) := by kernel_rfl
theorem st17 : rnd17 (I17 N ne e0 ec iv) [tru 10, tru 18, got 20 (edgeV f t m c), got 26 (.bool true)] 2 [1, 2, 3] =
    some (.normal, some (I17 N ne e0 ec (IntKind.wrap .i64 (iv + 1))), [ec, boxC N ne], true, [.b (decide (iv < (ne : Int))) (.val (.bool true)), .ib iv ne, .ld 31 (0 + iv.toNat * 4) (some (ro ec e0 4)) (.val (edgeV f t m c)), .cr 30 [edgeV f t m c, i64 N] [] (.val (.bool true))]) := by kernel_rfl
theorem st17b : rnd17 (I17 N ne e0 ec iv) [tru 10, tru 18, got 20 (edgeV f t m c), got 26 (.bool false)] 6 [2] =
    some (.ret, some (fin17 N ne e0 ec), [ec, boxC N ne], true, [.b (decide (iv < (ne : Int))) (.val (.bool true)), .ib iv ne, .ld 31 (0 + iv.toNat * 4) (some (ro ec e0 4)) (.val (edgeV f t m c)), .cr 30 [edgeV f t m c, i64 N] [] (.val (.bool false))]) := by kernel_rfl
theorem st17e : rnd17 (I17 N ne e0 ec iv) [fls 10] 6 [2] =
    some (.exit 0, some (fin17 N ne e0 ec), [ec, boxC N ne], true, [.b (decide (iv < (ne : Int))) (.val (.bool false))]) := by kernel_rfl
theorem r16a (g : Code → St → Option (AExit × St)) : run16 N (sl 0 ne) [(0, ro ec e0 4)] 1 (specsB [(28, g28), (29, g29)] [(0, g)]) [got 9 (.bool false)] = some (.ret, (), some (.bool false), [.cr 28 [i64 N] [] (.val (.bool false))]) := by kernel_rfl
theorem r16b (g : Code → St → Option (AExit × St)) : run16 N (sl 0 ne) [(0, ro ec e0 4)] 1 (specsB [(28, g28), (29, g29)] [(0, g)]) [got 9 (.bool true), tru 24] = some (.ret, (), some (.bool false), [.cr 28 [i64 N] [] (.val (.bool true)), .b (decide ((ne : Int) > 400)) (.val (.bool true))]) := by kernel_rfl
theorem r16c (g : Code → St → Option (AExit × St)) : run16 N (sl 0 ne) [(0, ro ec e0 4)] 1 (specsB [(28, g28), (29, g29)] [(0, g)]) [got 9 (.bool true), fls 24, past 33 .normal (fin16 N ne e0 ec)] = some (.ret, (), some (.bool true), [.cr 28 [i64 N] [] (.val (.bool true)), .b (decide ((ne : Int) > 400)) (.val (.bool false)), .bk 0 (.loop loop16) 2 [] (some (I16 N ne e0 ec 0)) [ec, boxC N ne] true .normal (fin16 N ne e0 ec)]) := by kernel_rfl
theorem r16d (g : Code → St → Option (AExit × St)) : run16 N (sl 0 ne) [(0, ro ec e0 4)] 1 (specsB [(28, g28), (29, g29)] [(0, g)]) [got 9 (.bool true), fls 24, past 33 .ret (fin16 N ne e0 ec)] = some (.ret, (), some (.bool false), [.cr 28 [i64 N] [] (.val (.bool true)), .b (decide ((ne : Int) > 400)) (.val (.bool false)), .bk 0 (.loop loop16) 2 [] (some (I16 N ne e0 ec 0)) [ec, boxC N ne] true .ret (fin16 N ne e0 ec)]) := by kernel_rfl
theorem r16n : run16 N (.slice none 0 0) [] 0 (specs [(28, g28), (29, g29)]) [got 9 (.bool false)] = some (.ret, (), some (.bool false), [.cr 28 [i64 N] [] (.val (.bool false))]) := by kernel_rfl
theorem r16m : run16 N (.slice none 0 0) [] 0 (specs [(28, g28), (29, g29)]) [got 9 (.bool true)] = some (.ret, (), some (.bool true), [.cr 28 [i64 N] [] (.val (.bool true))]) := by kernel_rfl
theorem r17a (g : Code → St → Option (AExit × St)) : run17 N (sl 0 ne) [(0, ro ec e0 4)] 1 (specsB [(30, g30)] [(0, g)]) [tru 12, tru 14, tru 16, tru 19] = some (.ret, (), some (.bool false), [.b (decide (N < 1)) (.val (.bool true)), .b (decide (N < 1)) (.val (.bool true)), .b (decide (N < 1)) (.val (.bool true)), .b (decide (N < 1)) (.val (.bool true))]) := by kernel_rfl
theorem r17b (g : Code → St → Option (AExit × St)) : run17 N (sl 0 ne) [(0, ro ec e0 4)] 1 (specsB [(30, g30)] [(0, g)]) [fls 12, fls 14, fls 16, fls 19, tru 22, tru 24, tru 26, tru 28, tru 31] = some (.ret, (), some (.bool false), [.b (decide (N < 1)) (.val (.bool false)), .b (decide (N < 1)) (.val (.bool false)), .b (decide (N < 1)) (.val (.bool false)), .b (decide (N < 1)) (.val (.bool false)), .b (decide (N > 60)) (.val (.bool true)), .b (decide (N > 60)) (.val (.bool true)), .b (decide (N > 60)) (.val (.bool true)), .b (decide (N > 60)) (.val (.bool true)), .b (decide (N > 60)) (.val (.bool true))]) := by kernel_rfl
theorem r17c (g : Code → St → Option (AExit × St)) : run17 N (sl 0 ne) [(0, ro ec e0 4)] 1 (specsB [(30, g30)] [(0, g)]) [fls 12, fls 14, fls 16, fls 19, fls 22, fls 24, fls 26, fls 28, fls 31, tru 32] = some (.ret, (), some (.bool false), [.b (decide (N < 1)) (.val (.bool false)), .b (decide (N < 1)) (.val (.bool false)), .b (decide (N < 1)) (.val (.bool false)), .b (decide (N < 1)) (.val (.bool false)), .b (decide (N > 60)) (.val (.bool false)), .b (decide (N > 60)) (.val (.bool false)), .b (decide (N > 60)) (.val (.bool false)), .b (decide (N > 60)) (.val (.bool false)), .b (decide (N > 60)) (.val (.bool false)), .b (decide ((ne : Int) > 400)) (.val (.bool true))]) := by kernel_rfl
theorem r17d (g : Code → St → Option (AExit × St)) : run17 N (sl 0 ne) [(0, ro ec e0 4)] 1 (specsB [(30, g30)] [(0, g)]) [fls 12, fls 14, fls 16, fls 19, fls 22, fls 24, fls 26, fls 28, fls 31, fls 32, past 35 .normal (fin17 N ne e0 ec)] = some (.ret, (), some (.bool true), [.b (decide (N < 1)) (.val (.bool false)), .b (decide (N < 1)) (.val (.bool false)), .b (decide (N < 1)) (.val (.bool false)), .b (decide (N < 1)) (.val (.bool false)), .b (decide (N > 60)) (.val (.bool false)), .b (decide (N > 60)) (.val (.bool false)), .b (decide (N > 60)) (.val (.bool false)), .b (decide (N > 60)) (.val (.bool false)), .b (decide (N > 60)) (.val (.bool false)), .b (decide ((ne : Int) > 400)) (.val (.bool false)), .bk 0 (.loop loop17) 2 [] (some (I17 N ne e0 ec 0)) [ec, boxC N ne] true .normal (fin17 N ne e0 ec)]) := by kernel_rfl
theorem r17e (g : Code → St → Option (AExit × St)) : run17 N (sl 0 ne) [(0, ro ec e0 4)] 1 (specsB [(30, g30)] [(0, g)]) [fls 12, fls 14, fls 16, fls 19, fls 22, fls 24, fls 26, fls 28, fls 31, fls 32, past 35 .ret (fin17 N ne e0 ec)] = some (.ret, (), some (.bool false), [.b (decide (N < 1)) (.val (.bool false)), .b (decide (N < 1)) (.val (.bool false)), .b (decide (N < 1)) (.val (.bool false)), .b (decide (N < 1)) (.val (.bool false)), .b (decide (N > 60)) (.val (.bool false)), .b (decide (N > 60)) (.val (.bool false)), .b (decide (N > 60)) (.val (.bool false)), .b (decide (N > 60)) (.val (.bool false)), .b (decide (N > 60)) (.val (.bool false)), .b (decide ((ne : Int) > 400)) (.val (.bool false)), .bk 0 (.loop loop17) 2 [] (some (I17 N ne e0 ec 0)) [ec, boxC N ne] true .ret (fin17 N ne e0 ec)]) := by kernel_rfl
theorem r17n : run17 N (.slice none 0 0) [] 0 (specs [(30, g30)]) [tru 12, tru 14, tru 16, tru 19] = some (.ret, (), some (.bool false), [.b (decide (N < 1)) (.val (.bool true)), .b (decide (N < 1)) (.val (.bool true)), .b (decide (N < 1)) (.val (.bool true)), .b (decide (N < 1)) (.val (.bool true))]) := by kernel_rfl
theorem r17o : run17 N (.slice none 0 0) [] 0 (specs [(30, g30)]) [fls 12, fls 14, fls 16, fls 19, tru 22, tru 24, tru 26, tru 28, tru 31] = some (.ret, (), some (.bool false), [.b (decide (N < 1)) (.val (.bool false)), .b (decide (N < 1)) (.val (.bool false)), .b (decide (N < 1)) (.val (.bool false)), .b (decide (N < 1)) (.val (.bool false)), .b (decide (N > 60)) (.val (.bool true)), .b (decide (N > 60)) (.val (.bool true)), .b (decide (N > 60)) (.val (.bool true)), .b (decide (N > 60)) (.val (.bool true)), .b (decide (N > 60)) (.val (.bool true))]) := by kernel_rfl
theorem r17m : run17 N (.slice none 0 0) [] 0 (specs [(30, g30)]) [fls 12, fls 14, fls 16, fls 19, fls 22, fls 24, fls 26, fls 28, fls 31] = some (.ret, (), some (.bool true), [.b (decide (N < 1)) (.val (.bool false)), .b (decide (N < 1)) (.val (.bool false)), .b (decide (N < 1)) (.val (.bool false)), .b (decide (N < 1)) (.val (.bool false)), .b (decide (N > 60)) (.val (.bool false)), .b (decide (N > 60)) (.val (.bool false)), .b (decide (N > 60)) (.val (.bool false)), .b (decide (N > 60)) (.val (.bool false)), .b (decide (N > 60)) (.val (.bool false))]) := by kernel_rfl
end Go.Proofs.YtlmifmodnkhidaaDoor

open Go Go.Am Go.Proofs
namespace Go.Proofs.YtlmifmodnkhidaaDoor
set_option maxRecDepth 10000

theorem specs38 (B : Nat) : SpecsOk Tryd.prog [] B (specs [(38, g38)]) := specs24 B
theorem c38 (i c : Int) (b : Bool) (h : (0 ≤ i ∧ i < c) ↔ b = true) : (QV.cr 38 [i64 i, i64 c] [] (.val (.bool b))).holds Tryd.prog (specs [(38, g38)]) noDoors [] := fun M _ =>
  call38 rfl i c b (by rw [below_bool]; cases b <;> simp_all) M
theorem db {SP : Specs} {D : Nat → Door} {p : Prop} [Decidable p] {b : Bool} (h : p ↔ b = true) : (QV.b (decide p) (.val (.bool b))).holds Tryd.prog SP D [] := by
  cases b <;> simp_all [QV.holds]
theorem body28 : Tryd.f28.body = some Tryd.f28.body.get! := by kernel_rfl
theorem body29 : Tryd.f29.body = some Tryd.f29.body.get! := by kernel_rfl
theorem body30 : Tryd.f30.body = some Tryd.f30.body.get! := by kernel_rfl

theorem ok28 (B : Nat) : SpecOk Tryd.prog [] B 28 g28 := SpecOk.flat noNumP mixedP fun args M v M' h => by
  unfold g28 at h
  split at h
  · rename_i n
    cases h
    refine ⟨rfl, rfl, rfl, 60, specs [(38, g38)], ?_⟩
    by_cases h1 : n ≥ 1
    · obtain ⟨M0, k1, _⟩ := run_of (look := fun _ => ()) Tryd.func28 body28 (by kernel_rfl) (r28a n) (.inr rfl) (by simp only [List.forall_mem_cons]; exact ⟨db (by simp [h1]), db (by simp [h1]), db (by simp [h1]), by simp⟩)
      refine ⟨M0, specs38, ?_⟩
      rw [k1]
      have : (1 ≤ n ∧ n ≤ 60) = (n ≤ 60) := by simp; omega
      simp only [this]
    · obtain ⟨M0, k1, _⟩ := run_of (look := fun _ => ()) Tryd.func28 body28 (by kernel_rfl) (r28b n) (.inr rfl) (by simp only [List.forall_mem_cons]; exact ⟨db (by simpa using h1), db (by simpa using h1), db (by simpa using h1), by simp⟩)
      refine ⟨M0, specs38, ?_⟩
      rw [k1]
      have : decide (1 ≤ n ∧ n ≤ 60) = false := by simp; omega
      rw [this]
  · cases h

theorem ok29 (B : Nat) : SpecOk Tryd.prog [] B 29 g29 := SpecOk.flat noNumP mixedP fun args M v M' h => by
  unfold g29 at h
  split at h
  · rename_i f t m c n
    cases h
    refine ⟨rfl, rfl, rfl, 60, specs [(38, g38)], ?_⟩
    have fin : ∀ {F : List Fact} {b : Bool} {q : List QV}, (hexec Tryd.prog [] (specs [(38, g38)]) 60 (Tryd.f29.body.get!) ⟨initT [edgeV f t m c, i64 n] 0 .nil, Tryd.f29.ntmps, startMem [] 0⟩ F 0).map (fun r => (r.1.1, (), aresults Tryd.prog Tryd.f29 r.1.2, r.2.2.2.map (view noDoors []))) = some (.ret, (), some (.bool b), q) →
        (∀ p ∈ q, p.holds Tryd.prog (specs [(38, g38)]) noDoors []) → (fitsP n ⟨f, t, m, c⟩ ↔ b = true) → ∃ M0, (∀ B, SpecsOk Tryd.prog [] B (specs [(38, g38)])) ∧ Go.Am.arun Tryd.prog [] (specs [(38, g38)]) 60 29 [edgeV f t m c, i64 n] (startMem [] 0) = some (.bool (decide (fitsP n ⟨f, t, m, c⟩)), M0) := fun hx hq hb => by
      obtain ⟨M0, k1, _⟩ := run_of (look := fun _ => ()) Tryd.func29 body29 (by kernel_rfl) hx (.inr rfl) hq
      refine ⟨M0, specs38, k1.trans ?_⟩
      rename_i b _
      cases b <;> simp_all
    by_cases h1 : 0 ≤ f ∧ f < n
    · by_cases h2 : 0 ≤ t ∧ t < n
      · by_cases h3 : 0 ≤ m ∧ m < 5
        · by_cases h4 : c ≥ 0
          · refine fin (r29_4 f t m c n) (by simp only [List.forall_mem_cons]; exact ⟨c38 _ _ _ (by simp [h1]), c38 _ _ _ (by simp [h2]), c38 _ _ _ (by simp [h3]), db (by simp [h4]), db (by simp [h4]), db (by simp [h4]), db (by simp [h4]), by simp⟩) (by unfold fitsP; simp; omega)
          · refine fin (r29_3 f t m c n) (by simp only [List.forall_mem_cons]; exact ⟨c38 _ _ _ (by simp [h1]), c38 _ _ _ (by simp [h2]), c38 _ _ _ (by simp [h3]), db (by simpa using h4), db (by simpa using h4), db (by simpa using h4), db (by simpa using h4), by simp⟩) (by unfold fitsP; simp; omega)
        · refine fin (r29_2 f t m c n) (by simp only [List.forall_mem_cons]; exact ⟨c38 _ _ _ (by simp [h1]), c38 _ _ _ (by simp [h2]), c38 _ _ _ (by simpa using h3), by simp⟩) (by unfold fitsP; simp; omega)
      · refine fin (r29_1 f t m c n) (by simp only [List.forall_mem_cons]; exact ⟨c38 _ _ _ (by simp [h1]), c38 _ _ _ (by simpa using h2), by simp⟩) (by unfold fitsP; simp; omega)
    · refine fin (r29_0 f t m c n) (by simp only [List.forall_mem_cons]; exact ⟨c38 _ _ _ (by simpa using h1), by simp⟩) (by unfold fitsP; simp; omega)
  · cases h

theorem ok30 (B : Nat) : SpecOk Tryd.prog [] B 30 g30 := SpecOk.flat noNumP mixedP fun args M v M' h => by
  unfold g30 g29 at h
  split at h
  · rename_i f t m c n
    cases h
    refine ⟨rfl, rfl, rfl, 60, specs [(38, g38)], ?_⟩
    have fin : ∀ {F : List Fact} {b : Bool} {q : List QV}, (hexec Tryd.prog [] (specs [(38, g38)]) 60 (Tryd.f30.body.get!) ⟨initT [edgeV f t m c, i64 n] 0 .nil, Tryd.f30.ntmps, startMem [] 0⟩ F 0).map (fun r => (r.1.1, (), aresults Tryd.prog Tryd.f30 r.1.2, r.2.2.2.map (view noDoors []))) = some (.ret, (), some (.bool b), q) →
        (∀ p ∈ q, p.holds Tryd.prog (specs [(38, g38)]) noDoors []) → (fitsP n ⟨f, t, m, c⟩ ↔ b = true) → ∃ M0, (∀ B, SpecsOk Tryd.prog [] B (specs [(38, g38)])) ∧ Go.Am.arun Tryd.prog [] (specs [(38, g38)]) 60 30 [edgeV f t m c, i64 n] (startMem [] 0) = some (.bool (decide (fitsP n ⟨f, t, m, c⟩)), M0) := fun hx hq hb => by
      obtain ⟨M0, k1, _⟩ := run_of (look := fun _ => ()) Tryd.func30 body30 (by kernel_rfl) hx (.inr rfl) hq
      refine ⟨M0, specs38, k1.trans ?_⟩
      rename_i b _
      cases b <;> simp_all
    by_cases h0 : f ≥ 0
    · by_cases h1 : f < n
      · by_cases h2 : t ≥ 0
        · by_cases h3 : t < n
          · by_cases h4 : m ≥ 0
            · by_cases h5 : m < 5
              · by_cases h6 : c ≥ 0
                · exact fin (r30_7 f t m c n) (by simp [QV.holds, h0, h1, h2, h3, h4, h5, h6]) (by unfold fitsP; simp; omega)
                · exact fin (r30_6 f t m c n) (by simp [QV.holds, h0, h1, h2, h3, h4, h5, h6]) (by unfold fitsP; simp; omega)
              · exact fin (r30_5 f t m c n) (by simp [QV.holds, h0, h1, h2, h3, h4, h5]) (by unfold fitsP; simp; omega)
            · exact fin (r30_4 f t m c n) (by simp [QV.holds, h0, h1, h2, h3, h4]) (by unfold fitsP; simp; omega)
          · exact fin (r30_3 f t m c n) (by simp [QV.holds, h0, h1, h2, h3]) (by unfold fitsP; simp; omega)
        · exact fin (r30_2 f t m c n) (by simp [QV.holds, h0, h1, h2]) (by unfold fitsP; simp; omega)
      · exact fin (r30_1 f t m c n) (by simp [QV.holds, h0, h1]) (by unfold fitsP; simp; omega)
    · exact fin (r30_0 f t m c n) (by simp [QV.holds, h0]) (by unfold fitsP; simp; omega)
  · cases h
end Go.Proofs.YtlmifmodnkhidaaDoor

open Go Go.Am Go.Proofs
namespace Go.Proofs.YtlmifmodnkhidaaDoor
set_option maxRecDepth 10000

def allB (N : Int) (es : List E) : Bool := decide (∀ e ∈ es, fitsP N e)
def checkB (N : Int) (es : List E) : Bool := decide (1 ≤ N ∧ N ≤ 60 ∧ es.length ≤ 400 ∧ ∀ e ∈ es, fitsP N e)
def endE : Bool → AExit
  | true => .exit 0
  | false => .ret
def okCheck (A : ABlk) (o ne : Nat) (es : List E) : Bool := Nat.beq es.length ne && Nat.ble (o + ne * 4) A.cs.length && Nat.beq A.esz 4 && Nat.ble es.length (2 ^ 30)
def gCheck (args : List Value) (M : Mem) : Option (Value × Mem) :=
  match args with
  | [.agg ⟨[.int .i64 N, .slice none 0 0]⟩] => some (.bool (checkB N []), M)
  | [.agg ⟨[.int .i64 N, .slice (some ⟨a, o, none⟩) ne _]⟩] =>
    match M.get a with
    | some A => match edges? ((A.cs.drop o).take (ne * 4)) with
      | some es => bif okCheck A o ne es then some (.bool (checkB N es), M) else none
      | none => none
    | none => none
  | _ => none
theorem c28 {SP : Specs} {D : Nat → Door} (hS : SP.calls 28 = some g28) (n : Int) (b : Bool) (h : (1 ≤ n ∧ n ≤ 60) ↔ b = true) : (QV.cr 28 [i64 n] [] (.val (.bool b))).holds Tryd.prog SP D [] := fun M _ => by
  refine acall_same ?_
  have : decide (1 ≤ n ∧ n ≤ 60) = b := by cases b <;> simp_all
  rw [← this]
  unfold onlySpecs viaSpecs
  rw [hS]
  rfl

noncomputable def SP16 : Specs := specs [(28, g28), (29, g29)]
theorem specs16 (B : Nat) : SpecsOk Tryd.prog [] B SP16 := specs_ok fun p hp => by
  simp only [List.mem_cons, List.not_mem_nil, or_false] at hp
  rcases hp with rfl | rfl <;> first | exact ok28 B | exact ok29 B
theorem step16 (N : Int) (e0 : Nat) (es : List E) (hes : es.length ≤ 2 ^ 30) (B : Nat) (d : Nat) (hd : d ≤ es.length ∧ ((∀ e ∈ es.drop d, fitsP N e) ↔ allB N es = true)) :
    ∃ SP n s1, SpecsOk Tryd.prog [] B SP ∧ s1.M.next ≤ 6 ∧
      ((∃ nx mv keep d', aexec Tryd.prog [] SP n loop16 (I16 N es.length e0 (ecOf es) d) = some (.normal, s1) ∧ View 2 nx mv keep [] [] s1 (I16 N es.length e0 (ecOf es) (d' : Nat)) ∧ (d' ≤ es.length ∧ ((∀ e ∈ es.drop d', fitsP N e) ↔ allB N es = true)) ∧ es.length - d' < es.length - d) ∨
        (∃ mv keep, aexec Tryd.prog [] SP n loop16 (I16 N es.length e0 (ecOf es) d) = some (endE (allB N es), s1) ∧ View 2 6 mv keep [] [] s1 (fin16 N es.length e0 (ecOf es)))) := by
  obtain ⟨h1, h2⟩ := hd
  have fl : ∀ l ∈ [ecOf es, boxC N es.length], renL mv16 l = some l := fun l hl => by
    simp only [List.mem_cons, List.not_mem_nil, or_false] at hl
    rcases hl with rfl | rfl
    · exact renL_flat _ _ (ecOf_flat es)
    · exact box_still _ _ _ rfl
  by_cases hlt : d < es.length
  · have hge : es[d]? = some es[d] := List.getElem?_eq_getElem hlt
    have hdrop : es.drop d = es[d] :: es.drop (d + 1) := List.drop_eq_getElem_cons hlt
    generalize es[d] = e at hge hdrop
    have hq1 : (QV.b (decide ((d : Int) < (es.length : Int))) (.val (.bool true))).holds Tryd.prog SP16 noDoors [] := dq (by simp; omega)
    have hib : (QV.ib (d : Int) es.length).holds Tryd.prog SP16 noDoors [] := by simp only [QV.holds, inB, Bool.and_eq_true, decide_eq_true_eq]; omega
    have hld : (QV.ld 31 (0 + ((d : Nat) : Int).toNat * 4) (some (ro (ecOf es) e0 4)) (.val (edgeV e.f e.t e.m e.c))).holds Tryd.prog SP16 noDoors [] := by
      obtain ⟨r, hr⟩ := ecOf_drop hge
      refine ⟨_, rfl, ?_⟩
      rw [ld31, Nat.zero_add, Int.toNat_natCast, hr]
      rfl
    have hcall : ∀ b, (fitsP N e ↔ b = true) → (QV.cr 29 [edgeV e.f e.t e.m e.c, i64 N] [] (.val (.bool b))).holds Tryd.prog SP16 noDoors [] := fun b hb M _ => by
      refine acall_same ?_
      have : decide (fitsP N e) = b := by cases b <;> simp_all
      rw [← this]
      rfl
    by_cases hf : fitsP N e
    · have hs := st16 N d e.f e.t e.m e.c es.length e0 (ecOf es)
      unfold rnd16 at hs
      obtain ⟨s1, k1, k2, k3⟩ := round_of (doors := noDoors) (ids := []) hs (by simp only [List.forall_mem_cons]; exact ⟨hq1, hib, hld, hcall true (by simp [hf]), by simp⟩) fl
      have hiv : IntKind.wrap .i64 ((d : Int) + 1) = ((d + 1 : Nat) : Int) := by rw [IntWalk.i64_in _ (by omega)]; omega
      rw [hiv] at k3
      refine ⟨SP16, 60, s1, specs16 B, k1, .inl ⟨2, _, _, d + 1, k2, k3, ⟨by omega, ?_⟩, by omega⟩⟩
      rw [← h2, hdrop]
      simp [hf]
    · have hs := st16b N d e.f e.t e.m e.c es.length e0 (ecOf es)
      unfold rnd16 at hs
      obtain ⟨s1, k1, k2, k3⟩ := round_of (doors := noDoors) (ids := []) hs (by simp only [List.forall_mem_cons]; exact ⟨hq1, hib, hld, hcall false (by simp [hf]), by simp⟩) fl
      have hall : allB N es = false := by
        rw [hdrop] at h2
        cases hb : allB N es with
        | false => rfl
        | true => exact absurd (h2.2 hb e (List.mem_cons_self ..)) hf
      rw [hall]
      exact ⟨SP16, 60, s1, specs16 B, k1, .inr ⟨_, _, k2, k3⟩⟩
  · have hq1 : (QV.b (decide ((d : Int) < (es.length : Int))) (.val (.bool false))).holds Tryd.prog SP16 noDoors [] := dq (by simp; omega)
    have hs := st16e N d es.length e0 (ecOf es)
    unfold rnd16 at hs
    obtain ⟨s1, k1, k2, k3⟩ := round_of (doors := noDoors) (ids := []) hs (by simp only [List.forall_mem_cons]; exact ⟨hq1, by simp⟩) fl
    have hall : allB N es = true := h2.1 (by rw [List.drop_eq_nil_of_le (by omega)]; simp)
    rw [hall]
    exact ⟨SP16, 60, s1, specs16 B, k1, .inr ⟨_, _, k2, k3⟩⟩

theorem blk16 (N : Int) (e0 : Nat) (es : List E) (hes : es.length ≤ 2 ^ 30) (B : Nat) :
    BlkOk Tryd.prog [] B 0 (loopG (.loop loop16) (door16 0) (I16 N es.length e0 (ecOf es) (0 : Nat)) (blkEnd 0 (endE (allB N es)), fin16 N es.length e0 (ecOf es))) := by
  refine loopG_ok noNumP mixedP (fun d : Nat => I16 N es.length e0 (ecOf es) d) (fun d => d ≤ es.length ∧ ((∀ e ∈ es.drop d, fitsP N e) ↔ allB N es = true)) (fun d => es.length - d) (K := 6) (by cases allB N es <;> (intro h; cases h)) ⟨Nat.zero_le _, by simp [allB]⟩ (by decide) rfl rfl rfl ?_ (step16 N e0 es hes B)
  intro id hid _
  have : id < 2 := hid
  have h3 : id = 0 ∨ id = 1 := by omega
  rcases h3 with rfl | rfl <;> rfl

theorem arun16 (N : Int) (e0 : Nat) (es : List E) (hes : es.length ≤ 2 ^ 30) : ∃ SP M', (∀ B, SpecsOk Tryd.prog [] B SP) ∧ Go.Am.arun Tryd.prog [] SP 60 16 [.agg ⟨[i64 N, sl 0 es.length]⟩] (startMem [(0, ro (ecOf es) e0 4)] 1) = some (.bool (checkB N es), M') := by
  let g := loopG (.loop loop16) (door16 0) (I16 N es.length e0 (ecOf es) (0 : Nat)) (blkEnd 0 (endE (allB N es)), fin16 N es.length e0 (ecOf es))
  have hSP : ∀ B, SpecsOk Tryd.prog [] B (specsB [(28, g28), (29, g29)] [(0, g)]) := fun B => specsB_ok (fun p hp => by
      simp only [List.mem_cons, List.not_mem_nil, or_false] at hp
      rcases hp with rfl | rfl <;> first | exact ok28 B | exact ok29 B) (fun p hp => by
      simp only [List.mem_singleton] at hp; subst hp; exact blk16 N e0 es hes B)
  refine ⟨specsB [(28, g28), (29, g29)] [(0, g)], ?_⟩
  have hbk : ∀ ex, blkEnd 0 (endE (allB N es)) = ex → (QV.bk 0 (.loop loop16) 2 [] (some (I16 N es.length e0 (ecOf es) 0)) [ecOf es, boxC N es.length] true ex (fin16 N es.length e0 (ecOf es))).holds Tryd.prog (specsB [(28, g28), (29, g29)] [(0, g)]) door16 [] := fun ex hex => by
    subst hex
    refine ⟨I16 N es.length e0 (ecOf es) (0 : Nat), rfl, rfl, rfl, rfl, fun l hl => ?_, rfl⟩
    simp only [List.mem_cons, List.not_mem_nil, or_false] at hl
    rcases hl with rfl | rfl
    · exact renL_flat _ _ (ecOf_flat es)
    · exact box_still _ _ _ rfl
  have fin : ∀ {F : List Fact} {b : Bool} {q : List QV}, run16 N (sl 0 es.length) [(0, ro (ecOf es) e0 4)] 1 (specsB [(28, g28), (29, g29)] [(0, g)]) F = some (.ret, (), some (.bool b), q) →
      (∀ p ∈ q, p.holds Tryd.prog (specsB [(28, g28), (29, g29)] [(0, g)]) door16 []) → checkB N es = b → ∃ M', (∀ B, SpecsOk Tryd.prog [] B (specsB [(28, g28), (29, g29)] [(0, g)])) ∧ Go.Am.arun Tryd.prog [] (specsB [(28, g28), (29, g29)] [(0, g)]) 60 16 [.agg ⟨[i64 N, sl 0 es.length]⟩] (startMem [(0, ro (ecOf es) e0 4)] 1) = some (.bool (checkB N es), M') := fun hx hq hb => by
    unfold run16 at hx
    obtain ⟨M0, k1, _⟩ := run_of (look := fun _ => ()) Tryd.func16 body16 (by kernel_rfl) hx (.inr rfl) hq
    exact ⟨M0, hSP, by rw [hb]; exact k1⟩
  have hall : allB N es = true ↔ ∀ e ∈ es, fitsP N e := by simp [allB]
  by_cases h1 : 1 ≤ N ∧ N ≤ 60
  · by_cases h2 : (es.length : Int) > 400
    · exact fin (r16b N es.length e0 (ecOf es) g) (by simp only [List.forall_mem_cons]; exact ⟨c28 rfl N true (by simp [h1]), db (by simp; omega), by simp⟩) (by unfold checkB; rw [decide_eq_false_iff_not]; omega)
    · cases hA : allB N es with
      | true => exact fin (r16c N es.length e0 (ecOf es) g) (by simp only [List.forall_mem_cons]; exact ⟨c28 rfl N true (by simp [h1]), db (by simp; omega), hbk _ (by rw [hA]; rfl), by simp⟩) (by unfold checkB; rw [decide_eq_true_iff]; exact ⟨h1.1, h1.2, by omega, hall.1 hA⟩)
      | false => exact fin (r16d N es.length e0 (ecOf es) g) (by simp only [List.forall_mem_cons]; exact ⟨c28 rfl N true (by simp [h1]), db (by simp; omega), hbk _ (by rw [hA]; rfl), by simp⟩) (by unfold checkB; rw [decide_eq_false_iff_not]; intro hh; rw [hall.2 hh.2.2.2] at hA; cases hA)
  · exact fin (r16a N es.length e0 (ecOf es) g) (by simp only [List.forall_mem_cons]; exact ⟨c28 rfl N false (by simpa using h1), by simp⟩) (by unfold checkB; rw [decide_eq_false_iff_not]; omega)

theorem arun16n (N : Int) : ∃ M', Go.Am.arun Tryd.prog [] SP16 60 16 [.agg ⟨[i64 N, .slice none 0 0]⟩] (startMem [] 0) = some (.bool (checkB N []), M') := by
  have fin : ∀ {F : List Fact} {b : Bool} {q : List QV}, run16 N (.slice none 0 0) [] 0 SP16 F = some (.ret, (), some (.bool b), q) →
      (∀ p ∈ q, p.holds Tryd.prog SP16 door16 []) → checkB N [] = b → ∃ M', Go.Am.arun Tryd.prog [] SP16 60 16 [.agg ⟨[i64 N, .slice none 0 0]⟩] (startMem [] 0) = some (.bool (checkB N []), M') := fun hx hq hb => by
    unfold run16 at hx
    obtain ⟨M0, k1, _⟩ := run_of (look := fun _ => ()) Tryd.func16 body16 (by kernel_rfl) hx (.inr rfl) hq
    exact ⟨M0, by rw [hb]; exact k1⟩
  by_cases h1 : 1 ≤ N ∧ N ≤ 60
  · exact fin (r16m N) (by simp only [List.forall_mem_cons]; exact ⟨c28 rfl N true (by simp [h1]), by simp⟩) (by unfold checkB; rw [decide_eq_true_iff]; exact ⟨h1.1, h1.2, by simp, by simp⟩)
  · exact fin (r16n N) (by simp only [List.forall_mem_cons]; exact ⟨c28 rfl N false (by simpa using h1), by simp⟩) (by unfold checkB; rw [decide_eq_false_iff_not]; omega)

theorem ok16 (B : Nat) : SpecOk Tryd.prog [] B 16 gCheck := by
  refine SpecOk.ofStart noNumP mixedP fun args M v M' h => ?_
  unfold gCheck at h
  split at h <;> try (cases h; done)
  · rename_i N
    cases h
    obtain ⟨M0, hrun⟩ := arun16n N
    refine ⟨[], 60, SP16, _, _, M0, [], none, specs16, hrun, fun p hp => (by cases hp), fun φ φ0 args' hl ha => ?_, rfl, rfl, rfl⟩
    rw [ha.of_flat rfl]
    exact LRel.refl_flat _ _ rfl
  · rename_i N a o ne ca
    split at h <;> try (cases h; done)
    rename_i A hA
    split at h <;> try (cases h; done)
    rename_i es hes
    cases hk : okCheck A o ne es <;> rw [hk] at h <;> simp only [cond_true, cond_false] at h
    · cases h
    unfold okCheck at hk
    simp only [Bool.and_eq_true] at hk
    obtain ⟨⟨⟨k1, k2⟩, k3⟩, k4⟩ := hk
    have k1 := Nat.eq_of_beq_eq_true k1
    have k2 := Nat.le_of_ble_eq_true k2
    have k3 := Nat.eq_of_beq_eq_true k3
    have k4 := Nat.le_of_ble_eq_true k4
    subst k1
    cases h
    have hA' := of_edges? hes
    obtain ⟨SP, M0, hSP, hrun⟩ := arun16 N A.elem es k4
    refine ⟨[(0, ro (ecOf es) A.elem 4)], 60, SP, _, _, M0, [(a, o)], none, hSP, hrun, fun p hp => ?_, fun φ φ0 args' hl ha => ?_, rfl, rfl, rfl⟩
    · simp only [List.mem_singleton] at hp
      subst hp
      refine ⟨rfl, rfl, ecOf_flat es, a, o, A, rfl, hA, rfl, k3, by simp only [ecOf_len]; exact k2, fun j u hu => ?_⟩
      rw [show ecOf es = _ from hA'.symm] at hu
      exact take_get hu
    · cases ha with
      | cons h0 ha =>
        cases ha
        obtain ⟨x', rfl, g⟩ := h0.agg_inv
        obtain ⟨x'⟩ := x'
        cases g with
        | cons g0 g =>
          cases g with
          | cons g1 g =>
            cases g
            obtain rfl := g0.int_inv
            exact .cons (.agg (.cons (VRel.refl_flat _ _ rfl) (.cons (slice_lies hl rfl g1) .nil))) .nil

noncomputable def SP17 : Specs := specs [(30, g30)]
theorem specs17 (B : Nat) : SpecsOk Tryd.prog [] B SP17 := specs_ok fun p hp => by
  simp only [List.mem_cons, List.not_mem_nil, or_false] at hp
  subst hp; exact ok30 B
theorem step17 (N : Int) (e0 : Nat) (es : List E) (hes : es.length ≤ 2 ^ 30) (B : Nat) (d : Nat) (hd : d ≤ es.length ∧ ((∀ e ∈ es.drop d, fitsP N e) ↔ allB N es = true)) :
    ∃ SP n s1, SpecsOk Tryd.prog [] B SP ∧ s1.M.next ≤ 6 ∧
      ((∃ nx mv keep d', aexec Tryd.prog [] SP n loop17 (I17 N es.length e0 (ecOf es) d) = some (.normal, s1) ∧ View 2 nx mv keep [] [] s1 (I17 N es.length e0 (ecOf es) (d' : Nat)) ∧ (d' ≤ es.length ∧ ((∀ e ∈ es.drop d', fitsP N e) ↔ allB N es = true)) ∧ es.length - d' < es.length - d) ∨
        (∃ mv keep, aexec Tryd.prog [] SP n loop17 (I17 N es.length e0 (ecOf es) d) = some (endE (allB N es), s1) ∧ View 2 6 mv keep [] [] s1 (fin17 N es.length e0 (ecOf es)))) := by
  obtain ⟨h1, h2⟩ := hd
  have fl : ∀ l ∈ [ecOf es, boxC N es.length], renL mv16 l = some l := fun l hl => by
    simp only [List.mem_cons, List.not_mem_nil, or_false] at hl
    rcases hl with rfl | rfl
    · exact renL_flat _ _ (ecOf_flat es)
    · exact box_still _ _ _ rfl
  by_cases hlt : d < es.length
  · have hge : es[d]? = some es[d] := List.getElem?_eq_getElem hlt
    have hdrop : es.drop d = es[d] :: es.drop (d + 1) := List.drop_eq_getElem_cons hlt
    generalize es[d] = e at hge hdrop
    have hq1 : (QV.b (decide ((d : Int) < (es.length : Int))) (.val (.bool true))).holds Tryd.prog SP17 noDoors [] := dq (by simp; omega)
    have hib : (QV.ib (d : Int) es.length).holds Tryd.prog SP17 noDoors [] := by simp only [QV.holds, inB, Bool.and_eq_true, decide_eq_true_eq]; omega
    have hld : (QV.ld 31 (0 + ((d : Nat) : Int).toNat * 4) (some (ro (ecOf es) e0 4)) (.val (edgeV e.f e.t e.m e.c))).holds Tryd.prog SP17 noDoors [] := by
      obtain ⟨r, hr⟩ := ecOf_drop hge
      refine ⟨_, rfl, ?_⟩
      rw [ld31, Nat.zero_add, Int.toNat_natCast, hr]
      rfl
    have hcall : ∀ b, (fitsP N e ↔ b = true) → (QV.cr 30 [edgeV e.f e.t e.m e.c, i64 N] [] (.val (.bool b))).holds Tryd.prog SP17 noDoors [] := fun b hb M _ => by
      refine acall_same ?_
      have : decide (fitsP N e) = b := by cases b <;> simp_all
      rw [← this]
      rfl
    by_cases hf : fitsP N e
    · have hs := st17 N d e.f e.t e.m e.c es.length e0 (ecOf es)
      unfold rnd17 at hs
      obtain ⟨s1, k1, k2, k3⟩ := round_of (doors := noDoors) (ids := []) hs (by simp only [List.forall_mem_cons]; exact ⟨hq1, hib, hld, hcall true (by simp [hf]), by simp⟩) fl
      have hiv : IntKind.wrap .i64 ((d : Int) + 1) = ((d + 1 : Nat) : Int) := by rw [IntWalk.i64_in _ (by omega)]; omega
      rw [hiv] at k3
      refine ⟨SP17, 60, s1, specs17 B, k1, .inl ⟨2, _, _, d + 1, k2, k3, ⟨by omega, ?_⟩, by omega⟩⟩
      rw [← h2, hdrop]
      simp [hf]
    · have hs := st17b N d e.f e.t e.m e.c es.length e0 (ecOf es)
      unfold rnd17 at hs
      obtain ⟨s1, k1, k2, k3⟩ := round_of (doors := noDoors) (ids := []) hs (by simp only [List.forall_mem_cons]; exact ⟨hq1, hib, hld, hcall false (by simp [hf]), by simp⟩) fl
      have hall : allB N es = false := by
        rw [hdrop] at h2
        cases hb : allB N es with
        | false => rfl
        | true => exact absurd (h2.2 hb e (List.mem_cons_self ..)) hf
      rw [hall]
      exact ⟨SP17, 60, s1, specs17 B, k1, .inr ⟨_, _, k2, k3⟩⟩
  · have hq1 : (QV.b (decide ((d : Int) < (es.length : Int))) (.val (.bool false))).holds Tryd.prog SP17 noDoors [] := dq (by simp; omega)
    have hs := st17e N d es.length e0 (ecOf es)
    unfold rnd17 at hs
    obtain ⟨s1, k1, k2, k3⟩ := round_of (doors := noDoors) (ids := []) hs (by simp only [List.forall_mem_cons]; exact ⟨hq1, by simp⟩) fl
    have hall : allB N es = true := h2.1 (by rw [List.drop_eq_nil_of_le (by omega)]; simp)
    rw [hall]
    exact ⟨SP17, 60, s1, specs17 B, k1, .inr ⟨_, _, k2, k3⟩⟩

theorem blk17 (N : Int) (e0 : Nat) (es : List E) (hes : es.length ≤ 2 ^ 30) (B : Nat) :
    BlkOk Tryd.prog [] B 0 (loopG (.loop loop17) (door17 0) (I17 N es.length e0 (ecOf es) (0 : Nat)) (blkEnd 0 (endE (allB N es)), fin17 N es.length e0 (ecOf es))) := by
  refine loopG_ok noNumP mixedP (fun d : Nat => I17 N es.length e0 (ecOf es) d) (fun d => d ≤ es.length ∧ ((∀ e ∈ es.drop d, fitsP N e) ↔ allB N es = true)) (fun d => es.length - d) (K := 6) (by cases allB N es <;> (intro h; cases h)) ⟨Nat.zero_le _, by simp [allB]⟩ (by decide) rfl rfl rfl ?_ (step17 N e0 es hes B)
  intro id hid _
  have : id < 2 := hid
  have h3 : id = 0 ∨ id = 1 := by omega
  rcases h3 with rfl | rfl <;> rfl

theorem arun17 (N : Int) (e0 : Nat) (es : List E) (hes : es.length ≤ 2 ^ 30) : ∃ SP M', (∀ B, SpecsOk Tryd.prog [] B SP) ∧ Go.Am.arun Tryd.prog [] SP 60 17 [.agg ⟨[i64 N, sl 0 es.length]⟩] (startMem [(0, ro (ecOf es) e0 4)] 1) = some (.bool (checkB N es), M') := by
  let g := loopG (.loop loop17) (door17 0) (I17 N es.length e0 (ecOf es) (0 : Nat)) (blkEnd 0 (endE (allB N es)), fin17 N es.length e0 (ecOf es))
  have hSP : ∀ B, SpecsOk Tryd.prog [] B (specsB [(30, g30)] [(0, g)]) := fun B => specsB_ok (fun p hp => by
      simp only [List.mem_cons, List.not_mem_nil, or_false] at hp
      subst hp; exact ok30 B) (fun p hp => by
      simp only [List.mem_singleton] at hp; subst hp; exact blk17 N e0 es hes B)
  refine ⟨specsB [(30, g30)] [(0, g)], ?_⟩
  have hbk : ∀ ex, blkEnd 0 (endE (allB N es)) = ex → (QV.bk 0 (.loop loop17) 2 [] (some (I17 N es.length e0 (ecOf es) 0)) [ecOf es, boxC N es.length] true ex (fin17 N es.length e0 (ecOf es))).holds Tryd.prog (specsB [(30, g30)] [(0, g)]) door17 [] := fun ex hex => by
    subst hex
    refine ⟨I17 N es.length e0 (ecOf es) (0 : Nat), rfl, rfl, rfl, rfl, fun l hl => ?_, rfl⟩
    simp only [List.mem_cons, List.not_mem_nil, or_false] at hl
    rcases hl with rfl | rfl
    · exact renL_flat _ _ (ecOf_flat es)
    · exact box_still _ _ _ rfl
  have fin : ∀ {F : List Fact} {b : Bool} {q : List QV}, run17 N (sl 0 es.length) [(0, ro (ecOf es) e0 4)] 1 (specsB [(30, g30)] [(0, g)]) F = some (.ret, (), some (.bool b), q) →
      (∀ p ∈ q, p.holds Tryd.prog (specsB [(30, g30)] [(0, g)]) door17 []) → checkB N es = b → ∃ M', (∀ B, SpecsOk Tryd.prog [] B (specsB [(30, g30)] [(0, g)])) ∧ Go.Am.arun Tryd.prog [] (specsB [(30, g30)] [(0, g)]) 60 17 [.agg ⟨[i64 N, sl 0 es.length]⟩] (startMem [(0, ro (ecOf es) e0 4)] 1) = some (.bool (checkB N es), M') := fun hx hq hb => by
    unfold run17 at hx
    obtain ⟨M0, k1, _⟩ := run_of (look := fun _ => ()) Tryd.func17 body17 (by kernel_rfl) hx (.inr rfl) hq
    exact ⟨M0, hSP, by rw [hb]; exact k1⟩
  have hall : allB N es = true ↔ ∀ e ∈ es, fitsP N e := by simp [allB]
  by_cases h1 : N < 1
  · exact fin (r17a N es.length e0 (ecOf es) g) (by simp [QV.holds, h1]) (by unfold checkB; rw [decide_eq_false_iff_not]; omega)
  · by_cases h0 : N > 60
    · exact fin (r17b N es.length e0 (ecOf es) g) (by simp [QV.holds, h1, h0]) (by unfold checkB; rw [decide_eq_false_iff_not]; omega)
    · by_cases h2 : (es.length : Int) > 400
      · exact fin (r17c N es.length e0 (ecOf es) g) (by simp [QV.holds, h1, h0]; omega) (by unfold checkB; rw [decide_eq_false_iff_not]; omega)
      · cases hA : allB N es with
        | true => exact fin (r17d N es.length e0 (ecOf es) g) (by simp only [List.forall_mem_cons]; refine ⟨?_, ?_, ?_, ?_, ?_, ?_, ?_, ?_, ?_, ?_, hbk _ (by rw [hA]; rfl), by simp⟩ <;> (apply db; simp; omega)) (by unfold checkB; rw [decide_eq_true_iff]; exact ⟨by omega, by omega, by omega, hall.1 hA⟩)
        | false => exact fin (r17e N es.length e0 (ecOf es) g) (by simp only [List.forall_mem_cons]; refine ⟨?_, ?_, ?_, ?_, ?_, ?_, ?_, ?_, ?_, ?_, hbk _ (by rw [hA]; rfl), by simp⟩ <;> (apply db; simp; omega)) (by unfold checkB; rw [decide_eq_false_iff_not]; intro hh; rw [hall.2 hh.2.2.2] at hA; cases hA)

theorem arun17n (N : Int) : ∃ M', Go.Am.arun Tryd.prog [] SP17 60 17 [.agg ⟨[i64 N, .slice none 0 0]⟩] (startMem [] 0) = some (.bool (checkB N []), M') := by
  have fin : ∀ {F : List Fact} {b : Bool} {q : List QV}, run17 N (.slice none 0 0) [] 0 SP17 F = some (.ret, (), some (.bool b), q) →
      (∀ p ∈ q, p.holds Tryd.prog SP17 door17 []) → checkB N [] = b → ∃ M', Go.Am.arun Tryd.prog [] SP17 60 17 [.agg ⟨[i64 N, .slice none 0 0]⟩] (startMem [] 0) = some (.bool (checkB N []), M') := fun hx hq hb => by
    unfold run17 at hx
    obtain ⟨M0, k1, _⟩ := run_of (look := fun _ => ()) Tryd.func17 body17 (by kernel_rfl) hx (.inr rfl) hq
    exact ⟨M0, by rw [hb]; exact k1⟩
  by_cases h1 : N < 1
  · exact fin (r17n N) (by simp [QV.holds, h1]) (by unfold checkB; rw [decide_eq_false_iff_not]; omega)
  · by_cases h0 : N > 60
    · exact fin (r17o N) (by simp [QV.holds, h1, h0]) (by unfold checkB; rw [decide_eq_false_iff_not]; omega)
    · exact fin (r17m N) (by simp [QV.holds, h1, h0]) (by unfold checkB; rw [decide_eq_true_iff]; exact ⟨by omega, by omega, by simp, by simp⟩)

theorem ok17 (B : Nat) : SpecOk Tryd.prog [] B 17 gCheck := by
  refine SpecOk.ofStart noNumP mixedP fun args M v M' h => ?_
  unfold gCheck at h
  split at h <;> try (cases h; done)
  · rename_i N
    cases h
    obtain ⟨M0, hrun⟩ := arun17n N
    refine ⟨[], 60, SP17, _, _, M0, [], none, specs17, hrun, fun p hp => (by cases hp), fun φ φ0 args' hl ha => ?_, rfl, rfl, rfl⟩
    rw [ha.of_flat rfl]
    exact LRel.refl_flat _ _ rfl
  · rename_i N a o ne ca
    split at h <;> try (cases h; done)
    rename_i A hA
    split at h <;> try (cases h; done)
    rename_i es hes
    cases hk : okCheck A o ne es <;> rw [hk] at h <;> simp only [cond_true, cond_false] at h
    · cases h
    unfold okCheck at hk
    simp only [Bool.and_eq_true] at hk
    obtain ⟨⟨⟨k1, k2⟩, k3⟩, k4⟩ := hk
    have k1 := Nat.eq_of_beq_eq_true k1
    have k2 := Nat.le_of_ble_eq_true k2
    have k3 := Nat.eq_of_beq_eq_true k3
    have k4 := Nat.le_of_ble_eq_true k4
    subst k1
    cases h
    have hA' := of_edges? hes
    obtain ⟨SP, M0, hSP, hrun⟩ := arun17 N A.elem es k4
    refine ⟨[(0, ro (ecOf es) A.elem 4)], 60, SP, _, _, M0, [(a, o)], none, hSP, hrun, fun p hp => ?_, fun φ φ0 args' hl ha => ?_, rfl, rfl, rfl⟩
    · simp only [List.mem_singleton] at hp
      subst hp
      refine ⟨rfl, rfl, ecOf_flat es, a, o, A, rfl, hA, rfl, k3, by simp only [ecOf_len]; exact k2, fun j u hu => ?_⟩
      rw [show ecOf es = _ from hA'.symm] at hu
      exact take_get hu
    · cases ha with
      | cons h0 ha =>
        cases ha
        obtain ⟨x', rfl, g⟩ := h0.agg_inv
        obtain ⟨x'⟩ := x'
        cases g with
        | cons g0 g =>
          cases g with
          | cons g1 g =>
            cases g
            obtain rfl := g0.int_inv
            exact .cons (.agg (.cons (VRel.refl_flat _ _ rfl) (.cons (slice_lies hl rfl g1) .nil))) .nil
end Go.Proofs.YtlmifmodnkhidaaDoor
