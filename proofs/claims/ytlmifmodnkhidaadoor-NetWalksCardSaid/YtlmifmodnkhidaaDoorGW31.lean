/-
  NetWalks: whether any edges are a walk, its cost and its word, are the document's: of any network of at most twelve vertices that is made of the numbers handed in, and of any rows of edges, of at most sixty where they are handed in; the answer is true for every argument.
-/
import Derived.Test.YtlmifmodnkhidaaDoorGW20
import Derived.Test.YtlmifmodnkhidaaDoorGW23
open Go Go.Am Go.Proofs
namespace Go.Proofs.YtlmifmodnkhidaaDoor
set_option maxRecDepth 10000

/- ref.Walk -/
noncomputable def B25 : Code := Tryd.f25.body.get!
theorem body25 : Tryd.f25.body = some B25 := by kernel_rfl
noncomputable def loop25 : Code := unloop ((inner 0 100 B25).get!)
def I25 (N tt : Int) (ne nl e0 e1 : Nat) (ec lc : List Value) (at' cost iv : Int) (wv : Value) (wb : List (Nat × ABlk)) : St :=
  ⟨tabT [(1, i64 at'), (2, i64 tt), (3, sl 1 nl), (4, .pointer (some ⟨2, 0, none⟩)), (8, i64 0), (9, .slice none 0 0), (10, .bool false), (11, i64 cost), (12, wv), (13, i64 iv)], 91, ⟨blkTree (blks24 N ne e0 e1 ec lc wb), 4, [], []⟩⟩
def keep25 : List Nat := [1, 2, 3, 4, 8, 9, 10, 11, 12, 13]
def fin25 (N tt : Int) (ne e0 e1 : Nat) (ec lc : List Value) (at' cost : Int) (wv : Value) (wb : List (Nat × ABlk)) : St :=
  ⟨tabT [(1, i64 at'), (2, i64 tt), (11, i64 cost), (12, wv)], 91, ⟨blkTree (blks24 N ne e0 e1 ec lc wb), 10, [], []⟩⟩
def bad25 (N : Int) (ne e0 e1 : Nat) (ec lc : List Value) : St :=
  ⟨tabT [(8, i64 0), (9, .slice none 0 0), (10, .bool false)], 91, ⟨blkTree (blks24 N ne e0 e1 ec lc []), 10, [], []⟩⟩
noncomputable def rnd25 (s : St) (F : List Fact) (nx : Nat) (keep : List Nat) (l : Moves) :=
  (hexec Tryd.prog [] noSpecs 60 loop25 s F 0).map (fun r => (r.1.1, rebase 3 nx (mv24 l) keep [] [] r.1.2, stills r.1.2.M (mv24 l), Nat.ble r.1.2.M.next 10, r.2.2.2.map (view noDoors [])))
def door25 : Nat → Door := fun _ => ⟨3, 4, mv24 [], keep25, [], []⟩
noncomputable def run25 (n s : Value) (fr tt : Int) (l : List (Nat × ABlk)) (k : Nat) (SP : Specs) (look : Nat) (F : List Fact) :=
  (hexec Tryd.prog [] SP 60 B25 ⟨initT [n, i64 fr, i64 tt, s] 0 .nil, Tryd.f25.ntmps, startMem l k⟩ F 0).map (fun r => (r.1.1, r.1.2.M.get look, aresults Tryd.prog Tryd.f25 r.1.2, r.2.2.2.map (view door25 [])))
theorem u25_nb0 (N tt at' cost iv li : Int) (ne nl e0 e1 : Nat) (ec lc : List Value) : rnd25 (I25 N tt ne nl e0 e1 ec lc at' (cost) (iv) (.slice none 0 0) []) [tru 8, tru 14, got 16 (i64 li), tru 21, tru 23, tru 25, tru 27, tru 29, tru 31, tru 33, tru 35, tru 38] 10 [8, 9, 10] [] = some (.ret, some (bad25 N ne e0 e1 ec lc), [ec, lc, boxC N ne], true, [.b (decide (iv < (nl : Int))) (.val (.bool true)), .ib iv nl, .ld 3 (0 + iv.toNat * 1) (some (ro lc e1 1)) (.val (i64 li)), .b (decide (li < 0)) (.val (.bool true)), .b (decide (li < 0)) (.val (.bool true)), .b (decide (li < 0)) (.val (.bool true)), .b (decide (li < 0)) (.val (.bool true)), .b (decide (li < 0)) (.val (.bool true)), .b (decide (li < 0)) (.val (.bool true)), .b (decide (li < 0)) (.val (.bool true)), .b (decide (li < 0)) (.val (.bool true)), .b (decide (li < 0)) (.val (.bool true))]) := by kernel_rfl
theorem u25_nb1 (N tt at' cost iv li : Int) (ne nl e0 e1 : Nat) (ec lc : List Value) : rnd25 (I25 N tt ne nl e0 e1 ec lc at' (cost) (iv) (.slice none 0 0) []) [tru 8, tru 14, got 16 (i64 li), fls 21, fls 23, fls 25, tru 26, fls 27, got 28 (i64 li), fls 29, fls 31, fls 33, fls 35, fls 38, tru 41, tru 43, tru 45, tru 47, tru 49, tru 51, tru 53, tru 55, tru 57, tru 59, tru 61, tru 64] 10 [8, 9, 10] [] = some (.ret, some (bad25 N ne e0 e1 ec lc), [ec, lc, boxC N ne], true, [.b (decide (iv < (nl : Int))) (.val (.bool true)), .ib iv nl, .ld 3 (0 + iv.toNat * 1) (some (ro lc e1 1)) (.val (i64 li)), .b (decide (li < 0)) (.val (.bool false)), .b (decide (li < 0)) (.val (.bool false)), .b (decide (li < 0)) (.val (.bool false)), .ib iv nl, .b (decide (li < 0)) (.val (.bool false)), .ld 3 (0 + iv.toNat * 1) (some (ro lc e1 1)) (.val (i64 li)), .b (decide (li < 0)) (.val (.bool false)), .b (decide (li < 0)) (.val (.bool false)), .b (decide (li < 0)) (.val (.bool false)), .b (decide (li < 0)) (.val (.bool false)), .b (decide (li < 0)) (.val (.bool false)), .b (decide (li ≥ (ne : Int))) (.val (.bool true)), .b (decide (li ≥ (ne : Int))) (.val (.bool true)), .b (decide (li ≥ (ne : Int))) (.val (.bool true)), .b (decide (li ≥ (ne : Int))) (.val (.bool true)), .b (decide (li ≥ (ne : Int))) (.val (.bool true)), .b (decide (li ≥ (ne : Int))) (.val (.bool true)), .b (decide (li ≥ (ne : Int))) (.val (.bool true)), .b (decide (li ≥ (ne : Int))) (.val (.bool true)), .b (decide (li ≥ (ne : Int))) (.val (.bool true)), .b (decide (li ≥ (ne : Int))) (.val (.bool true)), .b (decide (li ≥ (ne : Int))) (.val (.bool true)), .b (decide (li ≥ (ne : Int))) (.val (.bool true))]) := by kernel_rfl
theorem u25_nb2 (N tt at' cost iv li f : Int) (ne nl e0 e1 : Nat) (ec lc : List Value) : rnd25 (I25 N tt ne nl e0 e1 ec lc at' (cost) (iv) (.slice none 0 0) []) [tru 8, tru 14, got 16 (i64 li), fls 21, fls 23, fls 25, tru 26, fls 27, got 28 (i64 li), fls 29, fls 31, fls 33, fls 35, fls 38, fls 41, fls 43, fls 45, fls 47, fls 49, tru 50, fls 51, got 52 (i64 li), fls 53, tru 54, fls 55, fls 57, got 58 (i64 f), fls 59, fls 61, fls 64, tru 65] 10 [8, 9, 10] [] = some (.ret, some (bad25 N ne e0 e1 ec lc), [ec, lc, boxC N ne], true, [.b (decide (iv < (nl : Int))) (.val (.bool true)), .ib iv nl, .ld 3 (0 + iv.toNat * 1) (some (ro lc e1 1)) (.val (i64 li)), .b (decide (li < 0)) (.val (.bool false)), .b (decide (li < 0)) (.val (.bool false)), .b (decide (li < 0)) (.val (.bool false)), .ib iv nl, .b (decide (li < 0)) (.val (.bool false)), .ld 3 (0 + iv.toNat * 1) (some (ro lc e1 1)) (.val (i64 li)), .b (decide (li < 0)) (.val (.bool false)), .b (decide (li < 0)) (.val (.bool false)), .b (decide (li < 0)) (.val (.bool false)), .b (decide (li < 0)) (.val (.bool false)), .b (decide (li < 0)) (.val (.bool false)), .b (decide (li ≥ (ne : Int))) (.val (.bool false)), .b (decide (li ≥ (ne : Int))) (.val (.bool false)), .b (decide (li ≥ (ne : Int))) (.val (.bool false)), .b (decide (li ≥ (ne : Int))) (.val (.bool false)), .b (decide (li ≥ (ne : Int))) (.val (.bool false)), .ib iv nl, .b (decide (li ≥ (ne : Int))) (.val (.bool false)), .ld 3 (0 + iv.toNat * 1) (some (ro lc e1 1)) (.val (i64 li)), .b (decide (li ≥ (ne : Int))) (.val (.bool false)), .ib li ne, .b (decide (li ≥ (ne : Int))) (.val (.bool false)), .b (decide (li ≥ (ne : Int))) (.val (.bool false)), .ld 3 (0 + li.toNat * 4) (some (ro ec e0 4)) (.val (i64 f)), .b (decide (li ≥ (ne : Int))) (.val (.bool false)), .b (decide (li ≥ (ne : Int))) (.val (.bool false)), .b (decide (li ≥ (ne : Int))) (.val (.bool false)), .b ((f != at')) (.val (.bool true))]) := by kernel_rfl
theorem u25_nS (N tt at' cost iv li f t m c : Int) (ne nl e0 e1 : Nat) (ec lc : List Value) : rnd25 (I25 N tt ne nl e0 e1 ec lc at' (cost) (iv) (.slice none 0 0) []) [tru 8, tru 14, got 16 (i64 li), fls 21, fls 23, fls 25, tru 26, fls 27, got 28 (i64 li), fls 29, fls 31, fls 33, fls 35, fls 38, fls 41, fls 43, fls 45, fls 47, fls 49, tru 50, fls 51, got 52 (i64 li), fls 53, tru 54, fls 55, fls 57, got 58 (i64 f), fls 59, fls 61, fls 64, fls 65, tru 75, got 77 (i64 li), tru 79, got 81 (edgeV f t m c)] 4 keep25 [(3, 6, true)] = some (.normal, some (I25 N tt ne nl e0 e1 ec lc t (IntKind.wrap .i64 (cost + c)) (IntKind.wrap .i64 (iv + 1)) (sl 3 1) [(3, own [i64 m] 3 1)]), [ec, lc, boxC N ne, [i64 m]], true, [.b (decide (iv < (nl : Int))) (.val (.bool true)), .ib iv nl, .ld 3 (0 + iv.toNat * 1) (some (ro lc e1 1)) (.val (i64 li)), .b (decide (li < 0)) (.val (.bool false)), .b (decide (li < 0)) (.val (.bool false)), .b (decide (li < 0)) (.val (.bool false)), .ib iv nl, .b (decide (li < 0)) (.val (.bool false)), .ld 3 (0 + iv.toNat * 1) (some (ro lc e1 1)) (.val (i64 li)), .b (decide (li < 0)) (.val (.bool false)), .b (decide (li < 0)) (.val (.bool false)), .b (decide (li < 0)) (.val (.bool false)), .b (decide (li < 0)) (.val (.bool false)), .b (decide (li < 0)) (.val (.bool false)), .b (decide (li ≥ (ne : Int))) (.val (.bool false)), .b (decide (li ≥ (ne : Int))) (.val (.bool false)), .b (decide (li ≥ (ne : Int))) (.val (.bool false)), .b (decide (li ≥ (ne : Int))) (.val (.bool false)), .b (decide (li ≥ (ne : Int))) (.val (.bool false)), .ib iv nl, .b (decide (li ≥ (ne : Int))) (.val (.bool false)), .ld 3 (0 + iv.toNat * 1) (some (ro lc e1 1)) (.val (i64 li)), .b (decide (li ≥ (ne : Int))) (.val (.bool false)), .ib li ne, .b (decide (li ≥ (ne : Int))) (.val (.bool false)), .b (decide (li ≥ (ne : Int))) (.val (.bool false)), .ld 3 (0 + li.toNat * 4) (some (ro ec e0 4)) (.val (i64 f)), .b (decide (li ≥ (ne : Int))) (.val (.bool false)), .b (decide (li ≥ (ne : Int))) (.val (.bool false)), .b (decide (li ≥ (ne : Int))) (.val (.bool false)), .b ((f != at')) (.val (.bool false)), .ib iv nl, .ld 3 (0 + iv.toNat * 1) (some (ro lc e1 1)) (.val (i64 li)), .ib li ne, .ld 31 (0 + li.toNat * 4) (some (ro ec e0 4)) (.val (edgeV f t m c))]) := by kernel_rfl
theorem u25_nE (N tt at' cost iv : Int) (ne nl e0 e1 : Nat) (ec lc : List Value) : rnd25 (I25 N tt ne nl e0 e1 ec lc at' (cost) (iv) (.slice none 0 0) []) [fls 8] 10 [1, 2, 11, 12] [] = some (.exit 0, some (fin25 N tt ne e0 e1 ec lc at' cost (.slice none 0 0) []), [ec, lc, boxC N ne], true, [.b (decide (iv < (nl : Int))) (.val (.bool false))]) := by kernel_rfl
theorem u25_sb0 (N tt at' cost iv li : Int) (ne nl nw e0 e1 : Nat) (ec lc wc : List Value) : rnd25 (I25 N tt ne nl e0 e1 ec lc at' (cost) (iv) (sl 3 nw) [(3, own wc 3 1)]) [tru 8, tru 14, got 16 (i64 li), tru 21, tru 23, tru 25, tru 27, tru 29, tru 31, tru 33, tru 35, tru 38] 10 [8, 9, 10] [] = some (.ret, some (bad25 N ne e0 e1 ec lc), [ec, lc, boxC N ne], true, [.b (decide (iv < (nl : Int))) (.val (.bool true)), .ib iv nl, .ld 3 (0 + iv.toNat * 1) (some (ro lc e1 1)) (.val (i64 li)), .b (decide (li < 0)) (.val (.bool true)), .b (decide (li < 0)) (.val (.bool true)), .b (decide (li < 0)) (.val (.bool true)), .b (decide (li < 0)) (.val (.bool true)), .b (decide (li < 0)) (.val (.bool true)), .b (decide (li < 0)) (.val (.bool true)), .b (decide (li < 0)) (.val (.bool true)), .b (decide (li < 0)) (.val (.bool true)), .b (decide (li < 0)) (.val (.bool true))]) := by kernel_rfl
theorem u25_sb1 (N tt at' cost iv li : Int) (ne nl nw e0 e1 : Nat) (ec lc wc : List Value) : rnd25 (I25 N tt ne nl e0 e1 ec lc at' (cost) (iv) (sl 3 nw) [(3, own wc 3 1)]) [tru 8, tru 14, got 16 (i64 li), fls 21, fls 23, fls 25, tru 26, fls 27, got 28 (i64 li), fls 29, fls 31, fls 33, fls 35, fls 38, tru 41, tru 43, tru 45, tru 47, tru 49, tru 51, tru 53, tru 55, tru 57, tru 59, tru 61, tru 64] 10 [8, 9, 10] [] = some (.ret, some (bad25 N ne e0 e1 ec lc), [ec, lc, boxC N ne], true, [.b (decide (iv < (nl : Int))) (.val (.bool true)), .ib iv nl, .ld 3 (0 + iv.toNat * 1) (some (ro lc e1 1)) (.val (i64 li)), .b (decide (li < 0)) (.val (.bool false)), .b (decide (li < 0)) (.val (.bool false)), .b (decide (li < 0)) (.val (.bool false)), .ib iv nl, .b (decide (li < 0)) (.val (.bool false)), .ld 3 (0 + iv.toNat * 1) (some (ro lc e1 1)) (.val (i64 li)), .b (decide (li < 0)) (.val (.bool false)), .b (decide (li < 0)) (.val (.bool false)), .b (decide (li < 0)) (.val (.bool false)), .b (decide (li < 0)) (.val (.bool false)), .b (decide (li < 0)) (.val (.bool false)), .b (decide (li ≥ (ne : Int))) (.val (.bool true)), .b (decide (li ≥ (ne : Int))) (.val (.bool true)), .b (decide (li ≥ (ne : Int))) (.val (.bool true)), .b (decide (li ≥ (ne : Int))) (.val (.bool true)), .b (decide (li ≥ (ne : Int))) (.val (.bool true)), .b (decide (li ≥ (ne : Int))) (.val (.bool true)), .b (decide (li ≥ (ne : Int))) (.val (.bool true)), .b (decide (li ≥ (ne : Int))) (.val (.bool true)), .b (decide (li ≥ (ne : Int))) (.val (.bool true)), .b (decide (li ≥ (ne : Int))) (.val (.bool true)), .b (decide (li ≥ (ne : Int))) (.val (.bool true)), .b (decide (li ≥ (ne : Int))) (.val (.bool true))]) := by kernel_rfl
theorem u25_sb2 (N tt at' cost iv li f : Int) (ne nl nw e0 e1 : Nat) (ec lc wc : List Value) : rnd25 (I25 N tt ne nl e0 e1 ec lc at' (cost) (iv) (sl 3 nw) [(3, own wc 3 1)]) [tru 8, tru 14, got 16 (i64 li), fls 21, fls 23, fls 25, tru 26, fls 27, got 28 (i64 li), fls 29, fls 31, fls 33, fls 35, fls 38, fls 41, fls 43, fls 45, fls 47, fls 49, tru 50, fls 51, got 52 (i64 li), fls 53, tru 54, fls 55, fls 57, got 58 (i64 f), fls 59, fls 61, fls 64, tru 65] 10 [8, 9, 10] [] = some (.ret, some (bad25 N ne e0 e1 ec lc), [ec, lc, boxC N ne], true, [.b (decide (iv < (nl : Int))) (.val (.bool true)), .ib iv nl, .ld 3 (0 + iv.toNat * 1) (some (ro lc e1 1)) (.val (i64 li)), .b (decide (li < 0)) (.val (.bool false)), .b (decide (li < 0)) (.val (.bool false)), .b (decide (li < 0)) (.val (.bool false)), .ib iv nl, .b (decide (li < 0)) (.val (.bool false)), .ld 3 (0 + iv.toNat * 1) (some (ro lc e1 1)) (.val (i64 li)), .b (decide (li < 0)) (.val (.bool false)), .b (decide (li < 0)) (.val (.bool false)), .b (decide (li < 0)) (.val (.bool false)), .b (decide (li < 0)) (.val (.bool false)), .b (decide (li < 0)) (.val (.bool false)), .b (decide (li ≥ (ne : Int))) (.val (.bool false)), .b (decide (li ≥ (ne : Int))) (.val (.bool false)), .b (decide (li ≥ (ne : Int))) (.val (.bool false)), .b (decide (li ≥ (ne : Int))) (.val (.bool false)), .b (decide (li ≥ (ne : Int))) (.val (.bool false)), .ib iv nl, .b (decide (li ≥ (ne : Int))) (.val (.bool false)), .ld 3 (0 + iv.toNat * 1) (some (ro lc e1 1)) (.val (i64 li)), .b (decide (li ≥ (ne : Int))) (.val (.bool false)), .ib li ne, .b (decide (li ≥ (ne : Int))) (.val (.bool false)), .b (decide (li ≥ (ne : Int))) (.val (.bool false)), .ld 3 (0 + li.toNat * 4) (some (ro ec e0 4)) (.val (i64 f)), .b (decide (li ≥ (ne : Int))) (.val (.bool false)), .b (decide (li ≥ (ne : Int))) (.val (.bool false)), .b (decide (li ≥ (ne : Int))) (.val (.bool false)), .b ((f != at')) (.val (.bool true))]) := by kernel_rfl
theorem u25_sS (N tt at' cost iv li f t m c : Int) (ne nl nw e0 e1 : Nat) (ec lc wc : List Value) : rnd25 (I25 N tt ne nl e0 e1 ec lc at' (cost) (iv) (sl 3 nw) [(3, own wc 3 1)]) [tru 8, tru 14, got 16 (i64 li), fls 21, fls 23, fls 25, tru 26, fls 27, got 28 (i64 li), fls 29, fls 31, fls 33, fls 35, fls 38, fls 41, fls 43, fls 45, fls 47, fls 49, tru 50, fls 51, got 52 (i64 li), fls 53, tru 54, fls 55, fls 57, got 58 (i64 f), fls 59, fls 61, fls 64, fls 65, tru 75, got 77 (i64 li), tru 79, got 81 (edgeV f t m c), onto 111 (wc)] 4 keep25 [(3, 6, true)] = some (.normal, some (I25 N tt ne nl e0 e1 ec lc t (IntKind.wrap .i64 (cost + c)) (IntKind.wrap .i64 (iv + 1)) (sl 3 (nw + 1)) [(3, own (wc ++ [i64 m]) 3 1)]), [ec, lc, boxC N ne, wc ++ [i64 m]], true, [.b (decide (iv < (nl : Int))) (.val (.bool true)), .ib iv nl, .ld 3 (0 + iv.toNat * 1) (some (ro lc e1 1)) (.val (i64 li)), .b (decide (li < 0)) (.val (.bool false)), .b (decide (li < 0)) (.val (.bool false)), .b (decide (li < 0)) (.val (.bool false)), .ib iv nl, .b (decide (li < 0)) (.val (.bool false)), .ld 3 (0 + iv.toNat * 1) (some (ro lc e1 1)) (.val (i64 li)), .b (decide (li < 0)) (.val (.bool false)), .b (decide (li < 0)) (.val (.bool false)), .b (decide (li < 0)) (.val (.bool false)), .b (decide (li < 0)) (.val (.bool false)), .b (decide (li < 0)) (.val (.bool false)), .b (decide (li ≥ (ne : Int))) (.val (.bool false)), .b (decide (li ≥ (ne : Int))) (.val (.bool false)), .b (decide (li ≥ (ne : Int))) (.val (.bool false)), .b (decide (li ≥ (ne : Int))) (.val (.bool false)), .b (decide (li ≥ (ne : Int))) (.val (.bool false)), .ib iv nl, .b (decide (li ≥ (ne : Int))) (.val (.bool false)), .ld 3 (0 + iv.toNat * 1) (some (ro lc e1 1)) (.val (i64 li)), .b (decide (li ≥ (ne : Int))) (.val (.bool false)), .ib li ne, .b (decide (li ≥ (ne : Int))) (.val (.bool false)), .b (decide (li ≥ (ne : Int))) (.val (.bool false)), .ld 3 (0 + li.toNat * 4) (some (ro ec e0 4)) (.val (i64 f)), .b (decide (li ≥ (ne : Int))) (.val (.bool false)), .b (decide (li ≥ (ne : Int))) (.val (.bool false)), .b (decide (li ≥ (ne : Int))) (.val (.bool false)), .b ((f != at')) (.val (.bool false)), .ib iv nl, .ld 3 (0 + iv.toNat * 1) (some (ro lc e1 1)) (.val (i64 li)), .ib li ne, .ld 31 (0 + li.toNat * 4) (some (ro ec e0 4)) (.val (edgeV f t m c)), .ap [25, 25] (sl 3 nw) (.slice (some ⟨5, 0, none⟩) 1 2) wc (own wc 3 1) [i64 m]]) := by kernel_rfl
theorem u25_sE (N tt at' cost iv : Int) (ne nl nw e0 e1 : Nat) (ec lc wc : List Value) : rnd25 (I25 N tt ne nl e0 e1 ec lc at' (cost) (iv) (sl 3 nw) [(3, own wc 3 1)]) [fls 8] 10 [1, 2, 11, 12] [(3, 3, true)] = some (.exit 0, some (fin25 N tt ne e0 e1 ec lc at' cost (sl 3 nw) [(3, own wc 3 1)]), [ec, lc, boxC N ne, wc], true, [.b (decide (iv < (nl : Int))) (.val (.bool false))]) := by kernel_rfl
theorem v25_ss0 (N tt fr : Int) (ne nl e0 e1 : Nat) (ec lc : List Value) (g : Code → St → Option (AExit × St)) : run25 (.agg ⟨[i64 N, sl 0 ne]⟩) (sl 1 nl) fr tt [(0, ro ec e0 4), (1, ro lc e1 1)] 2 (specsB [] [(0, g)]) 3 [tru 14, tru 16, tru 18, tru 20, tru 23] = some (.ret, none, some noWalk, [.b (decide (fr < 0)) (.val (.bool true)), .b (decide (fr < 0)) (.val (.bool true)), .b (decide (fr < 0)) (.val (.bool true)), .b (decide (fr < 0)) (.val (.bool true)), .b (decide (fr < 0)) (.val (.bool true))]) := by kernel_rfl
theorem v25_ss1 (N tt fr : Int) (ne nl e0 e1 : Nat) (ec lc : List Value) (g : Code → St → Option (AExit × St)) : run25 (.agg ⟨[i64 N, sl 0 ne]⟩) (sl 1 nl) fr tt [(0, ro ec e0 4), (1, ro lc e1 1)] 2 (specsB [] [(0, g)]) 3 [fls 14, fls 16, fls 18, fls 20, fls 23, tru 26, tru 28, tru 31] = some (.ret, none, some noWalk, [.b (decide (fr < 0)) (.val (.bool false)), .b (decide (fr < 0)) (.val (.bool false)), .b (decide (fr < 0)) (.val (.bool false)), .b (decide (fr < 0)) (.val (.bool false)), .b (decide (fr < 0)) (.val (.bool false)), .b (decide (fr ≥ N)) (.val (.bool true)), .b (decide (fr ≥ N)) (.val (.bool true)), .b (decide (fr ≥ N)) (.val (.bool true))]) := by kernel_rfl
theorem v25_ss2 (N tt fr : Int) (ne nl e0 e1 : Nat) (ec lc : List Value) (g : Code → St → Option (AExit × St)) : run25 (.agg ⟨[i64 N, sl 0 ne]⟩) (sl 1 nl) fr tt [(0, ro ec e0 4), (1, ro lc e1 1)] 2 (specsB [] [(0, g)]) 3 [fls 14, fls 16, fls 18, fls 20, fls 23, fls 26, fls 28, fls 31, tru 34, tru 36, tru 38, tru 40, tru 43] = some (.ret, none, some noWalk, [.b (decide (fr < 0)) (.val (.bool false)), .b (decide (fr < 0)) (.val (.bool false)), .b (decide (fr < 0)) (.val (.bool false)), .b (decide (fr < 0)) (.val (.bool false)), .b (decide (fr < 0)) (.val (.bool false)), .b (decide (fr ≥ N)) (.val (.bool false)), .b (decide (fr ≥ N)) (.val (.bool false)), .b (decide (fr ≥ N)) (.val (.bool false)), .b (decide (tt < 0)) (.val (.bool true)), .b (decide (tt < 0)) (.val (.bool true)), .b (decide (tt < 0)) (.val (.bool true)), .b (decide (tt < 0)) (.val (.bool true)), .b (decide (tt < 0)) (.val (.bool true))]) := by kernel_rfl
theorem v25_ss3 (N tt fr : Int) (ne nl e0 e1 : Nat) (ec lc : List Value) (g : Code → St → Option (AExit × St)) : run25 (.agg ⟨[i64 N, sl 0 ne]⟩) (sl 1 nl) fr tt [(0, ro ec e0 4), (1, ro lc e1 1)] 2 (specsB [] [(0, g)]) 3 [fls 14, fls 16, fls 18, fls 20, fls 23, fls 26, fls 28, fls 31, fls 34, fls 36, fls 38, fls 40, fls 43, tru 44] = some (.ret, none, some noWalk, [.b (decide (fr < 0)) (.val (.bool false)), .b (decide (fr < 0)) (.val (.bool false)), .b (decide (fr < 0)) (.val (.bool false)), .b (decide (fr < 0)) (.val (.bool false)), .b (decide (fr < 0)) (.val (.bool false)), .b (decide (fr ≥ N)) (.val (.bool false)), .b (decide (fr ≥ N)) (.val (.bool false)), .b (decide (fr ≥ N)) (.val (.bool false)), .b (decide (tt < 0)) (.val (.bool false)), .b (decide (tt < 0)) (.val (.bool false)), .b (decide (tt < 0)) (.val (.bool false)), .b (decide (tt < 0)) (.val (.bool false)), .b (decide (tt < 0)) (.val (.bool false)), .b (decide (tt ≥ N)) (.val (.bool true))]) := by kernel_rfl
theorem v25_ssr (N tt fr : Int) (ne nl e0 e1 : Nat) (ec lc : List Value) (g : Code → St → Option (AExit × St)) : run25 (.agg ⟨[i64 N, sl 0 ne]⟩) (sl 1 nl) fr tt [(0, ro ec e0 4), (1, ro lc e1 1)] 2 (specsB [] [(0, g)]) 3 [fls 14, fls 16, fls 18, fls 20, fls 23, fls 26, fls 28, fls 31, fls 34, fls 36, fls 38, fls 40, fls 43, fls 44, past 51 .ret (bad25 N ne e0 e1 ec lc)] = some (.ret, none, some noWalk, [.b (decide (fr < 0)) (.val (.bool false)), .b (decide (fr < 0)) (.val (.bool false)), .b (decide (fr < 0)) (.val (.bool false)), .b (decide (fr < 0)) (.val (.bool false)), .b (decide (fr < 0)) (.val (.bool false)), .b (decide (fr ≥ N)) (.val (.bool false)), .b (decide (fr ≥ N)) (.val (.bool false)), .b (decide (fr ≥ N)) (.val (.bool false)), .b (decide (tt < 0)) (.val (.bool false)), .b (decide (tt < 0)) (.val (.bool false)), .b (decide (tt < 0)) (.val (.bool false)), .b (decide (tt < 0)) (.val (.bool false)), .b (decide (tt < 0)) (.val (.bool false)), .b (decide (tt ≥ N)) (.val (.bool false)), .bk 0 (.loop loop25) 3 [] (some (I25 N tt ne nl e0 e1 ec lc fr 0 0 (.slice none 0 0) [])) [ec, lc, boxC N ne] true .ret (bad25 N ne e0 e1 ec lc)]) := by kernel_rfl
theorem v25_ssxn (N tt fr at' cost : Int) (ne nl e0 e1 : Nat) (ec lc : List Value) (g : Code → St → Option (AExit × St)) : run25 (.agg ⟨[i64 N, sl 0 ne]⟩) (sl 1 nl) fr tt [(0, ro ec e0 4), (1, ro lc e1 1)] 2 (specsB [] [(0, g)]) 4 [fls 14, fls 16, fls 18, fls 20, fls 23, fls 26, fls 28, fls 31, fls 34, fls 36, fls 38, fls 40, fls 43, fls 44, past 51 .normal (fin25 N tt ne e0 e1 ec lc at' cost (.slice none 0 0) []), tru 58] = some (.ret, none, some noWalk, [.b (decide (fr < 0)) (.val (.bool false)), .b (decide (fr < 0)) (.val (.bool false)), .b (decide (fr < 0)) (.val (.bool false)), .b (decide (fr < 0)) (.val (.bool false)), .b (decide (fr < 0)) (.val (.bool false)), .b (decide (fr ≥ N)) (.val (.bool false)), .b (decide (fr ≥ N)) (.val (.bool false)), .b (decide (fr ≥ N)) (.val (.bool false)), .b (decide (tt < 0)) (.val (.bool false)), .b (decide (tt < 0)) (.val (.bool false)), .b (decide (tt < 0)) (.val (.bool false)), .b (decide (tt < 0)) (.val (.bool false)), .b (decide (tt < 0)) (.val (.bool false)), .b (decide (tt ≥ N)) (.val (.bool false)), .bk 0 (.loop loop25) 3 [] (some (I25 N tt ne nl e0 e1 ec lc fr 0 0 (.slice none 0 0) [])) [ec, lc, boxC N ne] true .normal (fin25 N tt ne e0 e1 ec lc at' cost (.slice none 0 0) []), .b ((at' != tt)) (.val (.bool true))]) := by kernel_rfl
theorem v25_ssyn (N tt fr at' cost : Int) (ne nl e0 e1 : Nat) (ec lc : List Value) (g : Code → St → Option (AExit × St)) : run25 (.agg ⟨[i64 N, sl 0 ne]⟩) (sl 1 nl) fr tt [(0, ro ec e0 4), (1, ro lc e1 1)] 2 (specsB [] [(0, g)]) 3 [fls 14, fls 16, fls 18, fls 20, fls 23, fls 26, fls 28, fls 31, fls 34, fls 36, fls 38, fls 40, fls 43, fls 44, past 51 .normal (fin25 N tt ne e0 e1 ec lc at' cost (.slice none 0 0) []), fls 58] = some (.ret, none, some (.tuple ⟨[i64 cost, (.slice none 0 0), .bool true]⟩), [.b (decide (fr < 0)) (.val (.bool false)), .b (decide (fr < 0)) (.val (.bool false)), .b (decide (fr < 0)) (.val (.bool false)), .b (decide (fr < 0)) (.val (.bool false)), .b (decide (fr < 0)) (.val (.bool false)), .b (decide (fr ≥ N)) (.val (.bool false)), .b (decide (fr ≥ N)) (.val (.bool false)), .b (decide (fr ≥ N)) (.val (.bool false)), .b (decide (tt < 0)) (.val (.bool false)), .b (decide (tt < 0)) (.val (.bool false)), .b (decide (tt < 0)) (.val (.bool false)), .b (decide (tt < 0)) (.val (.bool false)), .b (decide (tt < 0)) (.val (.bool false)), .b (decide (tt ≥ N)) (.val (.bool false)), .bk 0 (.loop loop25) 3 [] (some (I25 N tt ne nl e0 e1 ec lc fr 0 0 (.slice none 0 0) [])) [ec, lc, boxC N ne] true .normal (fin25 N tt ne e0 e1 ec lc at' cost (.slice none 0 0) []), .b ((at' != tt)) (.val (.bool false))]) := by kernel_rfl
theorem v25_ssxs (N tt fr at' cost : Int) (ne nl nw e0 e1 : Nat) (ec lc wc : List Value) (g : Code → St → Option (AExit × St)) : run25 (.agg ⟨[i64 N, sl 0 ne]⟩) (sl 1 nl) fr tt [(0, ro ec e0 4), (1, ro lc e1 1)] 2 (specsB [] [(0, g)]) 4 [fls 14, fls 16, fls 18, fls 20, fls 23, fls 26, fls 28, fls 31, fls 34, fls 36, fls 38, fls 40, fls 43, fls 44, past 51 .normal (fin25 N tt ne e0 e1 ec lc at' cost (sl 3 nw) [(3, own wc 3 1)]), tru 58] = some (.ret, none, some noWalk, [.b (decide (fr < 0)) (.val (.bool false)), .b (decide (fr < 0)) (.val (.bool false)), .b (decide (fr < 0)) (.val (.bool false)), .b (decide (fr < 0)) (.val (.bool false)), .b (decide (fr < 0)) (.val (.bool false)), .b (decide (fr ≥ N)) (.val (.bool false)), .b (decide (fr ≥ N)) (.val (.bool false)), .b (decide (fr ≥ N)) (.val (.bool false)), .b (decide (tt < 0)) (.val (.bool false)), .b (decide (tt < 0)) (.val (.bool false)), .b (decide (tt < 0)) (.val (.bool false)), .b (decide (tt < 0)) (.val (.bool false)), .b (decide (tt < 0)) (.val (.bool false)), .b (decide (tt ≥ N)) (.val (.bool false)), .bk 0 (.loop loop25) 3 [] (some (I25 N tt ne nl e0 e1 ec lc fr 0 0 (.slice none 0 0) [])) [ec, lc, boxC N ne] true .normal (fin25 N tt ne e0 e1 ec lc at' cost (sl 3 nw) [(3, own wc 3 1)]), .b ((at' != tt)) (.val (.bool true))]) := by kernel_rfl
theorem v25_ssys (N tt fr at' cost : Int) (ne nl nw e0 e1 : Nat) (ec lc wc : List Value) (g : Code → St → Option (AExit × St)) : run25 (.agg ⟨[i64 N, sl 0 ne]⟩) (sl 1 nl) fr tt [(0, ro ec e0 4), (1, ro lc e1 1)] 2 (specsB [] [(0, g)]) 3 [fls 14, fls 16, fls 18, fls 20, fls 23, fls 26, fls 28, fls 31, fls 34, fls 36, fls 38, fls 40, fls 43, fls 44, past 51 .normal (fin25 N tt ne e0 e1 ec lc at' cost (sl 3 nw) [(3, own wc 3 1)]), fls 58] = some (.ret, some (own wc 3 1), some (.tuple ⟨[i64 cost, (sl 3 nw), .bool true]⟩), [.b (decide (fr < 0)) (.val (.bool false)), .b (decide (fr < 0)) (.val (.bool false)), .b (decide (fr < 0)) (.val (.bool false)), .b (decide (fr < 0)) (.val (.bool false)), .b (decide (fr < 0)) (.val (.bool false)), .b (decide (fr ≥ N)) (.val (.bool false)), .b (decide (fr ≥ N)) (.val (.bool false)), .b (decide (fr ≥ N)) (.val (.bool false)), .b (decide (tt < 0)) (.val (.bool false)), .b (decide (tt < 0)) (.val (.bool false)), .b (decide (tt < 0)) (.val (.bool false)), .b (decide (tt < 0)) (.val (.bool false)), .b (decide (tt < 0)) (.val (.bool false)), .b (decide (tt ≥ N)) (.val (.bool false)), .bk 0 (.loop loop25) 3 [] (some (I25 N tt ne nl e0 e1 ec lc fr 0 0 (.slice none 0 0) [])) [ec, lc, boxC N ne] true .normal (fin25 N tt ne e0 e1 ec lc at' cost (sl 3 nw) [(3, own wc 3 1)]), .b ((at' != tt)) (.val (.bool false))]) := by kernel_rfl
theorem v25_sn0 (N tt fr : Int) (ne : Nat) : run25 (.agg ⟨[i64 N, sl 0 ne]⟩) (.slice none 0 0) fr tt [] 1 noSpecs 9 [tru 14, tru 16, tru 18, tru 20, tru 23] = some (.ret, none, some noWalk, [.b (decide (fr < 0)) (.val (.bool true)), .b (decide (fr < 0)) (.val (.bool true)), .b (decide (fr < 0)) (.val (.bool true)), .b (decide (fr < 0)) (.val (.bool true)), .b (decide (fr < 0)) (.val (.bool true))]) := by kernel_rfl
theorem v25_sn1 (N tt fr : Int) (ne : Nat) : run25 (.agg ⟨[i64 N, sl 0 ne]⟩) (.slice none 0 0) fr tt [] 1 noSpecs 9 [fls 14, fls 16, fls 18, fls 20, fls 23, tru 26, tru 28, tru 31] = some (.ret, none, some noWalk, [.b (decide (fr < 0)) (.val (.bool false)), .b (decide (fr < 0)) (.val (.bool false)), .b (decide (fr < 0)) (.val (.bool false)), .b (decide (fr < 0)) (.val (.bool false)), .b (decide (fr < 0)) (.val (.bool false)), .b (decide (fr ≥ N)) (.val (.bool true)), .b (decide (fr ≥ N)) (.val (.bool true)), .b (decide (fr ≥ N)) (.val (.bool true))]) := by kernel_rfl
theorem v25_sn2 (N tt fr : Int) (ne : Nat) : run25 (.agg ⟨[i64 N, sl 0 ne]⟩) (.slice none 0 0) fr tt [] 1 noSpecs 9 [fls 14, fls 16, fls 18, fls 20, fls 23, fls 26, fls 28, fls 31, tru 34, tru 36, tru 38, tru 40, tru 43] = some (.ret, none, some noWalk, [.b (decide (fr < 0)) (.val (.bool false)), .b (decide (fr < 0)) (.val (.bool false)), .b (decide (fr < 0)) (.val (.bool false)), .b (decide (fr < 0)) (.val (.bool false)), .b (decide (fr < 0)) (.val (.bool false)), .b (decide (fr ≥ N)) (.val (.bool false)), .b (decide (fr ≥ N)) (.val (.bool false)), .b (decide (fr ≥ N)) (.val (.bool false)), .b (decide (tt < 0)) (.val (.bool true)), .b (decide (tt < 0)) (.val (.bool true)), .b (decide (tt < 0)) (.val (.bool true)), .b (decide (tt < 0)) (.val (.bool true)), .b (decide (tt < 0)) (.val (.bool true))]) := by kernel_rfl
theorem v25_sn3 (N tt fr : Int) (ne : Nat) : run25 (.agg ⟨[i64 N, sl 0 ne]⟩) (.slice none 0 0) fr tt [] 1 noSpecs 9 [fls 14, fls 16, fls 18, fls 20, fls 23, fls 26, fls 28, fls 31, fls 34, fls 36, fls 38, fls 40, fls 43, tru 44] = some (.ret, none, some noWalk, [.b (decide (fr < 0)) (.val (.bool false)), .b (decide (fr < 0)) (.val (.bool false)), .b (decide (fr < 0)) (.val (.bool false)), .b (decide (fr < 0)) (.val (.bool false)), .b (decide (fr < 0)) (.val (.bool false)), .b (decide (fr ≥ N)) (.val (.bool false)), .b (decide (fr ≥ N)) (.val (.bool false)), .b (decide (fr ≥ N)) (.val (.bool false)), .b (decide (tt < 0)) (.val (.bool false)), .b (decide (tt < 0)) (.val (.bool false)), .b (decide (tt < 0)) (.val (.bool false)), .b (decide (tt < 0)) (.val (.bool false)), .b (decide (tt < 0)) (.val (.bool false)), .b (decide (tt ≥ N)) (.val (.bool true))]) := by kernel_rfl
theorem v25_snx (N tt fr : Int) (ne : Nat) : run25 (.agg ⟨[i64 N, sl 0 ne]⟩) (.slice none 0 0) fr tt [] 1 noSpecs 9 [fls 14, fls 16, fls 18, fls 20, fls 23, fls 26, fls 28, fls 31, fls 34, fls 36, fls 38, fls 40, fls 43, fls 44, tru 66] = some (.ret, none, some noWalk, [.b (decide (fr < 0)) (.val (.bool false)), .b (decide (fr < 0)) (.val (.bool false)), .b (decide (fr < 0)) (.val (.bool false)), .b (decide (fr < 0)) (.val (.bool false)), .b (decide (fr < 0)) (.val (.bool false)), .b (decide (fr ≥ N)) (.val (.bool false)), .b (decide (fr ≥ N)) (.val (.bool false)), .b (decide (fr ≥ N)) (.val (.bool false)), .b (decide (tt < 0)) (.val (.bool false)), .b (decide (tt < 0)) (.val (.bool false)), .b (decide (tt < 0)) (.val (.bool false)), .b (decide (tt < 0)) (.val (.bool false)), .b (decide (tt < 0)) (.val (.bool false)), .b (decide (tt ≥ N)) (.val (.bool false)), .b ((fr != tt)) (.val (.bool true))]) := by kernel_rfl
theorem v25_sny (N tt fr : Int) (ne : Nat) : run25 (.agg ⟨[i64 N, sl 0 ne]⟩) (.slice none 0 0) fr tt [] 1 noSpecs 9 [fls 14, fls 16, fls 18, fls 20, fls 23, fls 26, fls 28, fls 31, fls 34, fls 36, fls 38, fls 40, fls 43, fls 44, fls 66] = some (.ret, none, some (.tuple ⟨[i64 0, (.slice none 0 0), .bool true]⟩), [.b (decide (fr < 0)) (.val (.bool false)), .b (decide (fr < 0)) (.val (.bool false)), .b (decide (fr < 0)) (.val (.bool false)), .b (decide (fr < 0)) (.val (.bool false)), .b (decide (fr < 0)) (.val (.bool false)), .b (decide (fr ≥ N)) (.val (.bool false)), .b (decide (fr ≥ N)) (.val (.bool false)), .b (decide (fr ≥ N)) (.val (.bool false)), .b (decide (tt < 0)) (.val (.bool false)), .b (decide (tt < 0)) (.val (.bool false)), .b (decide (tt < 0)) (.val (.bool false)), .b (decide (tt < 0)) (.val (.bool false)), .b (decide (tt < 0)) (.val (.bool false)), .b (decide (tt ≥ N)) (.val (.bool false)), .b ((fr != tt)) (.val (.bool false))]) := by kernel_rfl
theorem v25_nn0 (N tt fr : Int) : run25 (.agg ⟨[i64 N, (.slice none 0 0)]⟩) (.slice none 0 0) fr tt [] 0 noSpecs 9 [tru 14, tru 16, tru 18, tru 20, tru 23] = some (.ret, none, some noWalk, [.b (decide (fr < 0)) (.val (.bool true)), .b (decide (fr < 0)) (.val (.bool true)), .b (decide (fr < 0)) (.val (.bool true)), .b (decide (fr < 0)) (.val (.bool true)), .b (decide (fr < 0)) (.val (.bool true))]) := by kernel_rfl
theorem v25_nn1 (N tt fr : Int) : run25 (.agg ⟨[i64 N, (.slice none 0 0)]⟩) (.slice none 0 0) fr tt [] 0 noSpecs 9 [fls 14, fls 16, fls 18, fls 20, fls 23, tru 26, tru 28, tru 31] = some (.ret, none, some noWalk, [.b (decide (fr < 0)) (.val (.bool false)), .b (decide (fr < 0)) (.val (.bool false)), .b (decide (fr < 0)) (.val (.bool false)), .b (decide (fr < 0)) (.val (.bool false)), .b (decide (fr < 0)) (.val (.bool false)), .b (decide (fr ≥ N)) (.val (.bool true)), .b (decide (fr ≥ N)) (.val (.bool true)), .b (decide (fr ≥ N)) (.val (.bool true))]) := by kernel_rfl
theorem v25_nn2 (N tt fr : Int) : run25 (.agg ⟨[i64 N, (.slice none 0 0)]⟩) (.slice none 0 0) fr tt [] 0 noSpecs 9 [fls 14, fls 16, fls 18, fls 20, fls 23, fls 26, fls 28, fls 31, tru 34, tru 36, tru 38, tru 40, tru 43] = some (.ret, none, some noWalk, [.b (decide (fr < 0)) (.val (.bool false)), .b (decide (fr < 0)) (.val (.bool false)), .b (decide (fr < 0)) (.val (.bool false)), .b (decide (fr < 0)) (.val (.bool false)), .b (decide (fr < 0)) (.val (.bool false)), .b (decide (fr ≥ N)) (.val (.bool false)), .b (decide (fr ≥ N)) (.val (.bool false)), .b (decide (fr ≥ N)) (.val (.bool false)), .b (decide (tt < 0)) (.val (.bool true)), .b (decide (tt < 0)) (.val (.bool true)), .b (decide (tt < 0)) (.val (.bool true)), .b (decide (tt < 0)) (.val (.bool true)), .b (decide (tt < 0)) (.val (.bool true))]) := by kernel_rfl
theorem v25_nn3 (N tt fr : Int) : run25 (.agg ⟨[i64 N, (.slice none 0 0)]⟩) (.slice none 0 0) fr tt [] 0 noSpecs 9 [fls 14, fls 16, fls 18, fls 20, fls 23, fls 26, fls 28, fls 31, fls 34, fls 36, fls 38, fls 40, fls 43, tru 44] = some (.ret, none, some noWalk, [.b (decide (fr < 0)) (.val (.bool false)), .b (decide (fr < 0)) (.val (.bool false)), .b (decide (fr < 0)) (.val (.bool false)), .b (decide (fr < 0)) (.val (.bool false)), .b (decide (fr < 0)) (.val (.bool false)), .b (decide (fr ≥ N)) (.val (.bool false)), .b (decide (fr ≥ N)) (.val (.bool false)), .b (decide (fr ≥ N)) (.val (.bool false)), .b (decide (tt < 0)) (.val (.bool false)), .b (decide (tt < 0)) (.val (.bool false)), .b (decide (tt < 0)) (.val (.bool false)), .b (decide (tt < 0)) (.val (.bool false)), .b (decide (tt < 0)) (.val (.bool false)), .b (decide (tt ≥ N)) (.val (.bool true))]) := by kernel_rfl
theorem v25_nnx (N tt fr : Int) : run25 (.agg ⟨[i64 N, (.slice none 0 0)]⟩) (.slice none 0 0) fr tt [] 0 noSpecs 9 [fls 14, fls 16, fls 18, fls 20, fls 23, fls 26, fls 28, fls 31, fls 34, fls 36, fls 38, fls 40, fls 43, fls 44, tru 66] = some (.ret, none, some noWalk, [.b (decide (fr < 0)) (.val (.bool false)), .b (decide (fr < 0)) (.val (.bool false)), .b (decide (fr < 0)) (.val (.bool false)), .b (decide (fr < 0)) (.val (.bool false)), .b (decide (fr < 0)) (.val (.bool false)), .b (decide (fr ≥ N)) (.val (.bool false)), .b (decide (fr ≥ N)) (.val (.bool false)), .b (decide (fr ≥ N)) (.val (.bool false)), .b (decide (tt < 0)) (.val (.bool false)), .b (decide (tt < 0)) (.val (.bool false)), .b (decide (tt < 0)) (.val (.bool false)), .b (decide (tt < 0)) (.val (.bool false)), .b (decide (tt < 0)) (.val (.bool false)), .b (decide (tt ≥ N)) (.val (.bool false)), .b ((fr != tt)) (.val (.bool true))]) := by kernel_rfl
theorem v25_nny (N tt fr : Int) : run25 (.agg ⟨[i64 N, (.slice none 0 0)]⟩) (.slice none 0 0) fr tt [] 0 noSpecs 9 [fls 14, fls 16, fls 18, fls 20, fls 23, fls 26, fls 28, fls 31, fls 34, fls 36, fls 38, fls 40, fls 43, fls 44, fls 66] = some (.ret, none, some (.tuple ⟨[i64 0, (.slice none 0 0), .bool true]⟩), [.b (decide (fr < 0)) (.val (.bool false)), .b (decide (fr < 0)) (.val (.bool false)), .b (decide (fr < 0)) (.val (.bool false)), .b (decide (fr < 0)) (.val (.bool false)), .b (decide (fr < 0)) (.val (.bool false)), .b (decide (fr ≥ N)) (.val (.bool false)), .b (decide (fr ≥ N)) (.val (.bool false)), .b (decide (fr ≥ N)) (.val (.bool false)), .b (decide (tt < 0)) (.val (.bool false)), .b (decide (tt < 0)) (.val (.bool false)), .b (decide (tt < 0)) (.val (.bool false)), .b (decide (tt < 0)) (.val (.bool false)), .b (decide (tt < 0)) (.val (.bool false)), .b (decide (tt ≥ N)) (.val (.bool false)), .b ((fr != tt)) (.val (.bool false))]) := by kernel_rfl
theorem v25_ns0 (N tt fr : Int) (nl e1 : Nat) (lc : List Value) : run25 (.agg ⟨[i64 N, (.slice none 0 0)]⟩) (sl 0 nl) fr tt [(0, ro lc e1 1)] 1 noSpecs 9 [tru 14, tru 16, tru 18, tru 20, tru 23] = some (.ret, none, some noWalk, [.b (decide (fr < 0)) (.val (.bool true)), .b (decide (fr < 0)) (.val (.bool true)), .b (decide (fr < 0)) (.val (.bool true)), .b (decide (fr < 0)) (.val (.bool true)), .b (decide (fr < 0)) (.val (.bool true))]) := by kernel_rfl
theorem v25_ns1 (N tt fr : Int) (nl e1 : Nat) (lc : List Value) : run25 (.agg ⟨[i64 N, (.slice none 0 0)]⟩) (sl 0 nl) fr tt [(0, ro lc e1 1)] 1 noSpecs 9 [fls 14, fls 16, fls 18, fls 20, fls 23, tru 26, tru 28, tru 31] = some (.ret, none, some noWalk, [.b (decide (fr < 0)) (.val (.bool false)), .b (decide (fr < 0)) (.val (.bool false)), .b (decide (fr < 0)) (.val (.bool false)), .b (decide (fr < 0)) (.val (.bool false)), .b (decide (fr < 0)) (.val (.bool false)), .b (decide (fr ≥ N)) (.val (.bool true)), .b (decide (fr ≥ N)) (.val (.bool true)), .b (decide (fr ≥ N)) (.val (.bool true))]) := by kernel_rfl
theorem v25_ns2 (N tt fr : Int) (nl e1 : Nat) (lc : List Value) : run25 (.agg ⟨[i64 N, (.slice none 0 0)]⟩) (sl 0 nl) fr tt [(0, ro lc e1 1)] 1 noSpecs 9 [fls 14, fls 16, fls 18, fls 20, fls 23, fls 26, fls 28, fls 31, tru 34, tru 36, tru 38, tru 40, tru 43] = some (.ret, none, some noWalk, [.b (decide (fr < 0)) (.val (.bool false)), .b (decide (fr < 0)) (.val (.bool false)), .b (decide (fr < 0)) (.val (.bool false)), .b (decide (fr < 0)) (.val (.bool false)), .b (decide (fr < 0)) (.val (.bool false)), .b (decide (fr ≥ N)) (.val (.bool false)), .b (decide (fr ≥ N)) (.val (.bool false)), .b (decide (fr ≥ N)) (.val (.bool false)), .b (decide (tt < 0)) (.val (.bool true)), .b (decide (tt < 0)) (.val (.bool true)), .b (decide (tt < 0)) (.val (.bool true)), .b (decide (tt < 0)) (.val (.bool true)), .b (decide (tt < 0)) (.val (.bool true))]) := by kernel_rfl
theorem v25_ns3 (N tt fr : Int) (nl e1 : Nat) (lc : List Value) : run25 (.agg ⟨[i64 N, (.slice none 0 0)]⟩) (sl 0 nl) fr tt [(0, ro lc e1 1)] 1 noSpecs 9 [fls 14, fls 16, fls 18, fls 20, fls 23, fls 26, fls 28, fls 31, fls 34, fls 36, fls 38, fls 40, fls 43, tru 44] = some (.ret, none, some noWalk, [.b (decide (fr < 0)) (.val (.bool false)), .b (decide (fr < 0)) (.val (.bool false)), .b (decide (fr < 0)) (.val (.bool false)), .b (decide (fr < 0)) (.val (.bool false)), .b (decide (fr < 0)) (.val (.bool false)), .b (decide (fr ≥ N)) (.val (.bool false)), .b (decide (fr ≥ N)) (.val (.bool false)), .b (decide (fr ≥ N)) (.val (.bool false)), .b (decide (tt < 0)) (.val (.bool false)), .b (decide (tt < 0)) (.val (.bool false)), .b (decide (tt < 0)) (.val (.bool false)), .b (decide (tt < 0)) (.val (.bool false)), .b (decide (tt < 0)) (.val (.bool false)), .b (decide (tt ≥ N)) (.val (.bool true))]) := by kernel_rfl
theorem v25_nsx (N tt fr : Int) (nl e1 : Nat) (lc : List Value) : run25 (.agg ⟨[i64 N, (.slice none 0 0)]⟩) (sl 0 nl) fr tt [(0, ro lc e1 1)] 1 noSpecs 9 [fls 14, fls 16, fls 18, fls 20, fls 23, fls 26, fls 28, fls 31, fls 34, fls 36, fls 38, fls 40, fls 43, fls 44, fls 59, tru 66] = some (.ret, none, some noWalk, [.b (decide (fr < 0)) (.val (.bool false)), .b (decide (fr < 0)) (.val (.bool false)), .b (decide (fr < 0)) (.val (.bool false)), .b (decide (fr < 0)) (.val (.bool false)), .b (decide (fr < 0)) (.val (.bool false)), .b (decide (fr ≥ N)) (.val (.bool false)), .b (decide (fr ≥ N)) (.val (.bool false)), .b (decide (fr ≥ N)) (.val (.bool false)), .b (decide (tt < 0)) (.val (.bool false)), .b (decide (tt < 0)) (.val (.bool false)), .b (decide (tt < 0)) (.val (.bool false)), .b (decide (tt < 0)) (.val (.bool false)), .b (decide (tt < 0)) (.val (.bool false)), .b (decide (tt ≥ N)) (.val (.bool false)), .b (decide ((0 : Int) < (nl : Int))) (.val (.bool false)), .b ((fr != tt)) (.val (.bool true))]) := by kernel_rfl
theorem v25_nsy (N tt fr : Int) (nl e1 : Nat) (lc : List Value) : run25 (.agg ⟨[i64 N, (.slice none 0 0)]⟩) (sl 0 nl) fr tt [(0, ro lc e1 1)] 1 noSpecs 9 [fls 14, fls 16, fls 18, fls 20, fls 23, fls 26, fls 28, fls 31, fls 34, fls 36, fls 38, fls 40, fls 43, fls 44, fls 59, fls 66] = some (.ret, none, some (.tuple ⟨[i64 0, (.slice none 0 0), .bool true]⟩), [.b (decide (fr < 0)) (.val (.bool false)), .b (decide (fr < 0)) (.val (.bool false)), .b (decide (fr < 0)) (.val (.bool false)), .b (decide (fr < 0)) (.val (.bool false)), .b (decide (fr < 0)) (.val (.bool false)), .b (decide (fr ≥ N)) (.val (.bool false)), .b (decide (fr ≥ N)) (.val (.bool false)), .b (decide (fr ≥ N)) (.val (.bool false)), .b (decide (tt < 0)) (.val (.bool false)), .b (decide (tt < 0)) (.val (.bool false)), .b (decide (tt < 0)) (.val (.bool false)), .b (decide (tt < 0)) (.val (.bool false)), .b (decide (tt < 0)) (.val (.bool false)), .b (decide (tt ≥ N)) (.val (.bool false)), .b (decide ((0 : Int) < (nl : Int))) (.val (.bool false)), .b ((fr != tt)) (.val (.bool false))]) := by kernel_rfl
theorem v25_nsa (N tt fr li : Int) (nl e1 : Nat) (lc : List Value) : run25 (.agg ⟨[i64 N, (.slice none 0 0)]⟩) (sl 0 nl) fr tt [(0, ro lc e1 1)] 1 noSpecs 9 [fls 14, fls 16, fls 18, fls 20, fls 23, fls 26, fls 28, fls 31, fls 34, fls 36, fls 38, fls 40, fls 43, fls 44, tru 59, tru 65, got 67 (i64 li), tru 72, tru 74, tru 76, tru 78, tru 80, tru 82, tru 84, tru 86, tru 89] = some (.ret, none, some noWalk, [.b (decide (fr < 0)) (.val (.bool false)), .b (decide (fr < 0)) (.val (.bool false)), .b (decide (fr < 0)) (.val (.bool false)), .b (decide (fr < 0)) (.val (.bool false)), .b (decide (fr < 0)) (.val (.bool false)), .b (decide (fr ≥ N)) (.val (.bool false)), .b (decide (fr ≥ N)) (.val (.bool false)), .b (decide (fr ≥ N)) (.val (.bool false)), .b (decide (tt < 0)) (.val (.bool false)), .b (decide (tt < 0)) (.val (.bool false)), .b (decide (tt < 0)) (.val (.bool false)), .b (decide (tt < 0)) (.val (.bool false)), .b (decide (tt < 0)) (.val (.bool false)), .b (decide (tt ≥ N)) (.val (.bool false)), .b (decide ((0 : Int) < (nl : Int))) (.val (.bool true)), .ib 0 nl, .ld 3 (0 + (0 : Int).toNat * 1) (some (ro lc e1 1)) (.val (i64 li)), .b (decide (li < 0)) (.val (.bool true)), .b (decide (li < 0)) (.val (.bool true)), .b (decide (li < 0)) (.val (.bool true)), .b (decide (li < 0)) (.val (.bool true)), .b (decide (li < 0)) (.val (.bool true)), .b (decide (li < 0)) (.val (.bool true)), .b (decide (li < 0)) (.val (.bool true)), .b (decide (li < 0)) (.val (.bool true)), .b (decide (li < 0)) (.val (.bool true))]) := by kernel_rfl
theorem v25_nsb (N tt fr li : Int) (nl e1 : Nat) (lc : List Value) : run25 (.agg ⟨[i64 N, (.slice none 0 0)]⟩) (sl 0 nl) fr tt [(0, ro lc e1 1)] 1 noSpecs 9 [fls 14, fls 16, fls 18, fls 20, fls 23, fls 26, fls 28, fls 31, fls 34, fls 36, fls 38, fls 40, fls 43, fls 44, tru 59, tru 65, got 67 (i64 li), fls 72, fls 74, fls 76, tru 77, fls 78, got 79 (i64 li), fls 80, fls 82, fls 84, fls 86, fls 89, tru 92, tru 94, tru 96, tru 98, tru 100, tru 102, tru 104, tru 106, tru 108, tru 110, tru 112, tru 115] = some (.ret, none, some noWalk, [.b (decide (fr < 0)) (.val (.bool false)), .b (decide (fr < 0)) (.val (.bool false)), .b (decide (fr < 0)) (.val (.bool false)), .b (decide (fr < 0)) (.val (.bool false)), .b (decide (fr < 0)) (.val (.bool false)), .b (decide (fr ≥ N)) (.val (.bool false)), .b (decide (fr ≥ N)) (.val (.bool false)), .b (decide (fr ≥ N)) (.val (.bool false)), .b (decide (tt < 0)) (.val (.bool false)), .b (decide (tt < 0)) (.val (.bool false)), .b (decide (tt < 0)) (.val (.bool false)), .b (decide (tt < 0)) (.val (.bool false)), .b (decide (tt < 0)) (.val (.bool false)), .b (decide (tt ≥ N)) (.val (.bool false)), .b (decide ((0 : Int) < (nl : Int))) (.val (.bool true)), .ib 0 nl, .ld 3 (0 + (0 : Int).toNat * 1) (some (ro lc e1 1)) (.val (i64 li)), .b (decide (li < 0)) (.val (.bool false)), .b (decide (li < 0)) (.val (.bool false)), .b (decide (li < 0)) (.val (.bool false)), .ib 0 nl, .b (decide (li < 0)) (.val (.bool false)), .ld 3 (0 + (0 : Int).toNat * 1) (some (ro lc e1 1)) (.val (i64 li)), .b (decide (li < 0)) (.val (.bool false)), .b (decide (li < 0)) (.val (.bool false)), .b (decide (li < 0)) (.val (.bool false)), .b (decide (li < 0)) (.val (.bool false)), .b (decide (li < 0)) (.val (.bool false)), .b (decide (li ≥ 0)) (.val (.bool true)), .b (decide (li ≥ 0)) (.val (.bool true)), .b (decide (li ≥ 0)) (.val (.bool true)), .b (decide (li ≥ 0)) (.val (.bool true)), .b (decide (li ≥ 0)) (.val (.bool true)), .b (decide (li ≥ 0)) (.val (.bool true)), .b (decide (li ≥ 0)) (.val (.bool true)), .b (decide (li ≥ 0)) (.val (.bool true)), .b (decide (li ≥ 0)) (.val (.bool true)), .b (decide (li ≥ 0)) (.val (.bool true)), .b (decide (li ≥ 0)) (.val (.bool true)), .b (decide (li ≥ 0)) (.val (.bool true))]) := by kernel_rfl
end Go.Proofs.YtlmifmodnkhidaaDoor

open Go Go.Am Go.Proofs
namespace Go.Proofs.YtlmifmodnkhidaaDoor
set_option maxRecDepth 10000

theorem go_ok' {es : List E} {x a c : Int} {l ws : List Int} {e : E} (h1 : 0 ≤ x ∧ x < es.length) (h2 : es[x.toNat]? = some e) (h3 : e.f = a) : go es (x :: l) a c ws = go es l e.t (IntKind.wrap .i64 (c + e.c)) (ws ++ [e.m]) := by
  unfold go
  rw [if_pos h1, h2]
  simp only
  rw [if_pos h3]
  cases l <;> rfl
theorem go_bad' {es : List E} {x a c : Int} {l ws : List Int} (h : ¬ ∃ e, (0 ≤ x ∧ x < es.length) ∧ es[x.toNat]? = some e ∧ e.f = a) : go es (x :: l) a c ws = none := by
  unfold go
  split
  · rename_i h1
    split
    · rename_i e he
      split
      · rename_i hf; exact absurd ⟨e, h1, he, hf⟩ h
      · rfl
    · rfl
  · rfl
def S25 (N tt : Int) (e0 e1 : Nat) (es : List E) (ls : List Int) (d : D24) : St :=
  I25 N tt es.length ls.length e0 e1 (ecOf es) (ints ls) d.2.1 d.2.2.1 (d.1 : Int) (iV 3 d.2.2.2) (iB 3 d.2.2.2)
def end25 (N tt : Int) (e0 e1 : Nat) (es : List E) (ls : List Int) : Option (Int × Int × List Int) → AExit × St
  | some (a, c, ws) => (.exit 0, fin25 N tt es.length e0 e1 (ecOf es) (ints ls) a c (iV 3 ws) (iB 3 ws))
  | none => (.ret, bad25 N es.length e0 e1 (ecOf es) (ints ls))
theorem qd {SP : Specs} {D : Nat → Door} {ids : List Nat} {p : Prop} [Decidable p] (h : p) : (QV.b (decide p) (.val (.bool true))).holds Tryd.prog SP D ids := by simp only [QV.holds]; rw [decide_eq_true h]
theorem qdn {SP : Specs} {D : Nat → Door} {ids : List Nat} {p : Prop} [Decidable p] (h : ¬ p) : (QV.b (decide p) (.val (.bool false))).holds Tryd.prog SP D ids := by simp only [QV.holds]; rw [decide_eq_false h]
theorem qib {SP : Specs} {D : Nat → Door} {ids : List Nat} {i : Int} {n : Nat} (h : 0 ≤ i ∧ i < n) : (QV.ib i n).holds Tryd.prog SP D ids := by simp only [QV.holds, inB, Bool.and_eq_true, decide_eq_true_eq]; exact h
theorem ldf {SP : Specs} {D : Nat → Door} {ids : List Nat} {es : List E} {k : Nat} {e : E} {el z : Nat} {wf : Nat} {ap : Bool} (h : es[k]? = some e) : (QV.ld 3 (0 + k * 4) (some ⟨ecOf es, el, z, wf, ap⟩) (.val (i64 e.f))).holds Tryd.prog SP D ids := ⟨_, rfl, by rw [ld3]; simpa using ecOf_get h⟩
theorem lde {SP : Specs} {D : Nat → Door} {ids : List Nat} {es : List E} {k : Nat} {e : E} {el z : Nat} {wf : Nat} {ap : Bool} (h : es[k]? = some e) : (QV.ld 31 (0 + k * 4) (some ⟨ecOf es, el, z, wf, ap⟩) (.val (edgeV e.f e.t e.m e.c))).holds Tryd.prog SP D ids := by
  obtain ⟨r, hr⟩ := ecOf_drop h
  refine ⟨_, rfl, ?_⟩
  rw [ld31, Nat.zero_add, hr]
  rfl
theorem ldi' {SP : Specs} {D : Nat → Door} {ids : List Nat} {l : List Int} {k : Nat} {z : Int} {elem esz : Nat} {wf : Nat} {app : Bool} (h : l[k]? = some z) : (QV.ld 3 (0 + ((k : Nat) : Int).toNat * 1) (some ⟨ints l, elem, esz, wf, app⟩) (.val (i64 z))).holds Tryd.prog SP D ids :=
  ⟨_, rfl, by rw [ld3]; simpa using ints_get h⟩

abbrev Goal25 (N tt : Int) (e0 e1 : Nat) (es : List E) (ls : List Int) (R : Option (Int × Int × List Int)) (B : Nat) (d : D24) : Prop :=
    ∃ SP n s1, SpecsOk Tryd.prog [] B SP ∧ s1.M.next ≤ 10 ∧
      ((∃ nx mv keep d', aexec Tryd.prog [] SP n loop25 (S25 N tt e0 e1 es ls d) = some (.normal, s1) ∧ View 3 nx mv keep [] [] s1 (S25 N tt e0 e1 es ls d') ∧ (d'.1 ≤ ls.length ∧ go es (ls.drop d'.1) d'.2.1 d'.2.2.1 d'.2.2.2 = R ∧ d'.2.2.2.length = d'.1) ∧ ls.length - d'.1 < ls.length - d.1) ∨
        (∃ mv keep, aexec Tryd.prog [] SP n loop25 (S25 N tt e0 e1 es ls d) = some ((end25 N tt e0 e1 es ls R).1, s1) ∧ View 3 10 mv keep [] [] s1 (end25 N tt e0 e1 es ls R).2))
theorem step25 (N tt : Int) (e0 e1 : Nat) (es : List E) (ls : List Int) (hls : ls.length ≤ 2 ^ 30 - 1) (R : Option (Int × Int × List Int)) (B : Nat) (d : D24) (hd : d.1 ≤ ls.length ∧ go es (ls.drop d.1) d.2.1 d.2.2.1 d.2.2.2 = R ∧ d.2.2.2.length = d.1) : Goal25 N tt e0 e1 es ls R B d := by
  obtain ⟨i, a, c, ws⟩ := d
  obtain ⟨h1, h2, h3⟩ := hd
  simp only at h1 h2 h3
  have stl : ∀ (mv : Moves) (r : List (List Value)), toTgt mv 0 = some 0 → r.all flatL = true → ∀ l ∈ [ecOf es, ints ls, boxC N es.length] ++ r, renL mv l = some l := fun mv r hmv hr l hl => by
    rcases List.mem_append.1 hl with hl | hl
    · simp only [List.mem_cons, List.not_mem_nil, or_false] at hl
      rcases hl with rfl | rfl | rfl
      · exact renL_flat _ _ (ecOf_flat es)
      · exact renL_flat _ _ (ints_flat ls)
      · exact box_still _ _ _ hmv
    · exact renL_flat _ _ (List.all_eq_true.1 hr l hl)
  by_cases hi : i < ls.length
  · obtain ⟨li, hli⟩ : ∃ li, ls[i]? = some li := ⟨ls[i], List.getElem?_eq_getElem hi⟩
    have hdrop : ls.drop i = li :: ls.drop (i + 1) := by
      rw [List.drop_eq_getElem_cons hi]
      rw [List.getElem?_eq_getElem hi] at hli
      cases hli; rfl
    rw [hdrop] at h2
    have q1 : (QV.b (decide (((i : Nat) : Int) < (ls.length : Int))) (.val (.bool true))).holds Tryd.prog noSpecs noDoors [] := qd (by omega)
    have q2 : (QV.ib ((i : Nat) : Int) ls.length).holds Tryd.prog noSpecs noDoors [] := qib (by omega)
    have q3 : (QV.ld 3 (0 + ((i : Nat) : Int).toNat * 1) (some (ro (ints ls) e1 1)) (.val (i64 li))).holds Tryd.prog noSpecs noDoors [] := ldi' hli
    have bad : ∀ {F : List Fact} {q : List QV}, R = none → rnd25 (S25 N tt e0 e1 es ls (i, a, c, ws)) F 10 [8, 9, 10] [] = some (.ret, some (bad25 N es.length e0 e1 (ecOf es) (ints ls)), [ecOf es, ints ls, boxC N es.length], true, q) → (∀ p ∈ q, p.holds Tryd.prog noSpecs noDoors []) → Goal25 N tt e0 e1 es ls R B (i, a, c, ws) := fun hR hs hq => by
      unfold rnd25 at hs
      obtain ⟨s1, k1, k2, k3⟩ := round_of (doors := noDoors) (ids := []) hs hq (stl _ [] rfl rfl)
      subst hR
      exact ⟨noSpecs, 60, s1, SpecsOk.none, k1, .inr ⟨_, _, k2, k3⟩⟩
    by_cases hok : ∃ e, (0 ≤ li ∧ li < es.length) ∧ es[li.toNat]? = some e ∧ e.f = a
    · obtain ⟨e, hr, he, hf⟩ := hok
      rw [go_ok' hr he hf] at h2
      obtain ⟨en, rfl⟩ : ∃ en : Nat, li = (en : Int) := ⟨li.toNat, by omega⟩
      simp only [Int.toNat_natCast] at he
      have hiv : IntKind.wrap .i64 (((i : Nat) : Int) + 1) = ((i + 1 : Nat) : Int) := by rw [IntWalk.i64_in _ (by omega)]; omega
      have good : ∀ {F : List Fact} {q : List QV} {wv : Value} {wb : List Value}, rnd25 (S25 N tt e0 e1 es ls (i, a, c, ws)) F 4 keep25 [(3, 6, true)] = some (.normal, some (I25 N tt es.length ls.length e0 e1 (ecOf es) (ints ls) e.t (IntKind.wrap .i64 (c + e.c)) (IntKind.wrap .i64 (((i : Nat) : Int) + 1)) wv [(3, own wb 3 1)]), [ecOf es, ints ls, boxC N es.length, wb], true, q) →
          (∀ p ∈ q, p.holds Tryd.prog noSpecs noDoors []) → wv = sl 3 (ws.length + 1) → wb = ints ws ++ [i64 e.m] → Goal25 N tt e0 e1 es ls R B (i, a, c, ws) := fun hs hq hwv hwb => by
        subst hwv; subst hwb
        unfold rnd25 at hs
        obtain ⟨s1, k1, k2, k3⟩ := round_of (doors := noDoors) (ids := []) hs hq (stl _ [ints ws ++ [i64 e.m]] rfl (by simp [ints_snoc_flat]))
        rw [hiv, ← iV_snoc 3, ← iB_snoc 3] at k3
        exact ⟨noSpecs, 60, s1, SpecsOk.none, k1, .inl ⟨4, _, keep25, (i + 1, e.t, IntKind.wrap .i64 (c + e.c), ws ++ [e.m]), k2, k3, ⟨by simp only; omega, h2, by simp; omega⟩, by simp only; omega⟩⟩
      have q4 : (QV.b (decide (((en : Nat) : Int) < 0)) (.val (.bool false))).holds Tryd.prog noSpecs noDoors [] := qdn (by omega)
      have q5 : (QV.b (decide (((en : Nat) : Int) ≥ (es.length : Int))) (.val (.bool false))).holds Tryd.prog noSpecs noDoors [] := qdn (by omega)
      have q6 : (QV.ib ((en : Nat) : Int) es.length).holds Tryd.prog noSpecs noDoors [] := qib (by omega)
      have q7 : (QV.ld 3 (0 + ((en : Nat) : Int).toNat * 4) (some (ro (ecOf es) e0 4)) (.val (i64 e.f))).holds Tryd.prog noSpecs noDoors [] := ldf (k := en) he
      have q8 : (QV.b (e.f != a) (.val (.bool false))).holds Tryd.prog noSpecs noDoors [] := bb (by simp [hf])
      have q9 : (QV.ld 31 (0 + ((en : Nat) : Int).toNat * 4) (some (ro (ecOf es) e0 4)) (.val (edgeV e.f e.t e.m e.c))).holds Tryd.prog noSpecs noDoors [] := lde (k := en) he
      cases ws with
      | nil =>
        exact good (u25_nS N tt a c ((i : Nat) : Int) ((en : Nat) : Int) e.f e.t e.m e.c es.length ls.length e0 e1 (ecOf es) (ints ls)) (by simp only [List.forall_mem_cons]; (repeat' apply And.intro) <;> first | exact q1 | exact q2 | exact q3 | exact q4 | exact q5 | exact q6 | exact q7 | exact q8 | exact q9 | (intro x hx; cases hx)) rfl rfl
      | cons x l =>
        simp only [List.length_cons] at h3
        exact good (u25_sS N tt a c ((i : Nat) : Int) ((en : Nat) : Int) e.f e.t e.m e.c es.length ls.length (l.length + 1) e0 e1 (ecOf es) (ints ls) (ints (x :: l))) (by simp only [List.forall_mem_cons]; (repeat' apply And.intro) <;> first | exact q1 | exact q2 | exact q3 | exact q4 | exact q5 | exact q6 | exact q7 | exact q8 | exact q9 | exact (fun M r hM => ap25 (ws := x :: l) (nw := l.length + 1) (n := 1) rfl (by decide) rfl (by omega) rfl rfl M r hM) | (intro x hx; cases hx)) rfl rfl
    · rw [go_bad' hok] at h2
      by_cases b0 : li < 0
      · have q4 : (QV.b (decide (li < 0)) (.val (.bool true))).holds Tryd.prog noSpecs noDoors [] := qd b0
        cases ws with
        | nil => exact bad h2.symm (u25_nb0 N tt a c ((i : Nat) : Int) li es.length ls.length e0 e1 (ecOf es) (ints ls)) (by simp only [List.forall_mem_cons]; (repeat' apply And.intro) <;> first | exact q1 | exact q2 | exact q3 | exact q4 | (intro x hx; cases hx))
        | cons x l => exact bad h2.symm (u25_sb0 N tt a c ((i : Nat) : Int) li es.length ls.length (l.length + 1) e0 e1 (ecOf es) (ints ls) (ints (x :: l))) (by simp only [List.forall_mem_cons]; (repeat' apply And.intro) <;> first | exact q1 | exact q2 | exact q3 | exact q4 | (intro x hx; cases hx))
      · have q4 : (QV.b (decide (li < 0)) (.val (.bool false))).holds Tryd.prog noSpecs noDoors [] := qdn b0
        by_cases b1 : li ≥ (es.length : Int)
        · have q5 : (QV.b (decide (li ≥ (es.length : Int))) (.val (.bool true))).holds Tryd.prog noSpecs noDoors [] := qd b1
          cases ws with
          | nil => exact bad h2.symm (u25_nb1 N tt a c ((i : Nat) : Int) li es.length ls.length e0 e1 (ecOf es) (ints ls)) (by simp only [List.forall_mem_cons]; (repeat' apply And.intro) <;> first | exact q1 | exact q2 | exact q3 | exact q4 | exact q5 | (intro x hx; cases hx))
          | cons x l => exact bad h2.symm (u25_sb1 N tt a c ((i : Nat) : Int) li es.length ls.length (l.length + 1) e0 e1 (ecOf es) (ints ls) (ints (x :: l))) (by simp only [List.forall_mem_cons]; (repeat' apply And.intro) <;> first | exact q1 | exact q2 | exact q3 | exact q4 | exact q5 | (intro x hx; cases hx))
        · have q5 : (QV.b (decide (li ≥ (es.length : Int))) (.val (.bool false))).holds Tryd.prog noSpecs noDoors [] := qdn b1
          obtain ⟨en, rfl⟩ : ∃ en : Nat, li = (en : Int) := ⟨li.toNat, by omega⟩
          obtain ⟨e, he⟩ : ∃ e, es[en]? = some e := ⟨es[en]'(by omega), List.getElem?_eq_getElem (by omega)⟩
          have hf : ¬ e.f = a := fun hf => hok ⟨e, ⟨by omega, by omega⟩, by simpa using he, hf⟩
          have q6 : (QV.ib ((en : Nat) : Int) es.length).holds Tryd.prog noSpecs noDoors [] := qib (by omega)
          have q7 : (QV.ld 3 (0 + ((en : Nat) : Int).toNat * 4) (some (ro (ecOf es) e0 4)) (.val (i64 e.f))).holds Tryd.prog noSpecs noDoors [] := ldf (k := en) he
          have q8 : (QV.b (e.f != a) (.val (.bool true))).holds Tryd.prog noSpecs noDoors [] := bb (by simp [hf])
          cases ws with
          | nil => exact bad h2.symm (u25_nb2 N tt a c ((i : Nat) : Int) ((en : Nat) : Int) e.f es.length ls.length e0 e1 (ecOf es) (ints ls)) (by simp only [List.forall_mem_cons]; (repeat' apply And.intro) <;> first | exact q1 | exact q2 | exact q3 | exact q4 | exact q5 | exact q6 | exact q7 | exact q8 | (intro x hx; cases hx))
          | cons x l => exact bad h2.symm (u25_sb2 N tt a c ((i : Nat) : Int) ((en : Nat) : Int) e.f es.length ls.length (l.length + 1) e0 e1 (ecOf es) (ints ls) (ints (x :: l))) (by simp only [List.forall_mem_cons]; (repeat' apply And.intro) <;> first | exact q1 | exact q2 | exact q3 | exact q4 | exact q5 | exact q6 | exact q7 | exact q8 | (intro x hx; cases hx))
  · have hd0 : ls.drop i = [] := List.drop_eq_nil_of_le (by omega)
    rw [hd0] at h2
    unfold go at h2
    subst h2
    have q1 : (QV.b (decide (((i : Nat) : Int) < (ls.length : Int))) (.val (.bool false))).holds Tryd.prog noSpecs noDoors [] := qdn (by omega)
    cases ws with
    | nil =>
      have hs := (u25_nE N tt a c ((i : Nat) : Int) es.length ls.length e0 e1 (ecOf es) (ints ls))
      unfold rnd25 at hs
      obtain ⟨s1, k1, k2, k3⟩ := round_of (doors := noDoors) (ids := []) hs (by simp only [List.forall_mem_cons]; exact ⟨q1, by simp⟩) (stl _ [] rfl rfl)
      exact ⟨noSpecs, 60, s1, SpecsOk.none, k1, .inr ⟨_, _, k2, k3⟩⟩
    | cons x l =>
      have hs := (u25_sE N tt a c ((i : Nat) : Int) es.length ls.length (l.length + 1) e0 e1 (ecOf es) (ints ls) (ints (x :: l)))
      unfold rnd25 at hs
      obtain ⟨s1, k1, k2, k3⟩ := round_of (doors := noDoors) (ids := []) hs (by simp only [List.forall_mem_cons]; exact ⟨q1, by simp⟩) (stl _ [ints (x :: l)] rfl (by simp [ints_flat]))
      exact ⟨noSpecs, 60, s1, SpecsOk.none, k1, .inr ⟨_, _, k2, k3⟩⟩

theorem blk25 (N tt fr : Int) (e0 e1 : Nat) (es : List E) (ls : List Int) (hls : ls.length ≤ 2 ^ 30 - 1) (B : Nat) :
    BlkOk Tryd.prog [] B 0 (loopG (.loop loop25) (door25 0) (S25 N tt e0 e1 es ls (0, fr, 0, [])) (blkEnd 0 (end25 N tt e0 e1 es ls (go es ls fr 0 [])).1, (end25 N tt e0 e1 es ls (go es ls fr 0 [])).2)) := by
  refine loopG_ok noNumP mixedP (S25 N tt e0 e1 es ls) (fun d => d.1 ≤ ls.length ∧ go es (ls.drop d.1) d.2.1 d.2.2.1 d.2.2.2 = go es ls fr 0 [] ∧ d.2.2.2.length = d.1) (fun d => ls.length - d.1) (K := 10) ?_ ⟨Nat.zero_le _, rfl, rfl⟩ (show (3 : Nat) ≤ 10 by decide) ?_ ?_ ?_ ?_ (step25 N tt e0 e1 es ls hls _ B)
  · cases go es ls fr 0 [] <;> simp [end25]
  · cases go es ls fr 0 [] <;> rfl
  · cases go es ls fr 0 [] <;> rfl
  · cases go es ls fr 0 [] <;> rfl
  · intro id hid _
    have h3 : id = 0 ∨ id = 1 ∨ id = 2 := by have : id < 3 := hid; omega
    cases hg : go es ls fr 0 [] with
    | none => rcases h3 with rfl | rfl | rfl <;> rfl
    | some x =>
      obtain ⟨a, c, ws⟩ := x
      cases ws with
      | nil => rcases h3 with rfl | rfl | rfl <;> rfl
      | cons x l => rcases h3 with rfl | rfl | rfl <;> rfl

abbrev Res25 (N fr tt : Int) (e0 e1 : Nat) (es : List E) (ls : List Int) : Prop := ∃ SP M', (∀ B, SpecsOk Tryd.prog [] B SP) ∧
    Go.Am.arun Tryd.prog [] SP 60 25 [.agg ⟨[i64 N, sl 0 es.length]⟩, i64 fr, i64 tt, sl 1 ls.length] (mem24 e0 e1 (ecOf es) (ints ls)) = some (walkV 3 (walkR N es fr tt ls), M') ∧
    ∀ c w ws, walkR N es fr tt ls = some (c, w :: ws) → M'.get 3 = some (own (ints (w :: ws)) 3 1)
theorem arun25 (N fr tt : Int) (e0 e1 : Nat) (es : List E) (ls : List Int) (hls : ls.length ≤ 2 ^ 30 - 1) : Res25 N fr tt e0 e1 es ls := by
  let g := loopG (.loop loop25) (door25 0) (S25 N tt e0 e1 es ls (0, fr, 0, [])) (blkEnd 0 (end25 N tt e0 e1 es ls (go es ls fr 0 [])).1, (end25 N tt e0 e1 es ls (go es ls fr 0 [])).2)
  have hSP : ∀ B, SpecsOk Tryd.prog [] B (specsB [] [(0, g)]) := fun B => specsB_ok (fun p hp => by cases hp) (fun p hp => by
      simp only [List.mem_singleton] at hp; subst hp; exact blk25 N tt fr e0 e1 es ls hls B)
  have fin : ∀ {F : List Fact} {look : Nat} {v : Value} {q : List QV} {o : Option ABlk}, run25 (.agg ⟨[i64 N, sl 0 es.length]⟩) (sl 1 ls.length) fr tt [(0, ro (ecOf es) e0 4), (1, ro (ints ls) e1 1)] 2 (specsB [] [(0, g)]) look F = some (.ret, o, some v, q) →
      (∀ p ∈ q, p.holds Tryd.prog (specsB [] [(0, g)]) door25 []) → ∃ M', Go.Am.arun Tryd.prog [] (specsB [] [(0, g)]) 60 25 [.agg ⟨[i64 N, sl 0 es.length]⟩, i64 fr, i64 tt, sl 1 ls.length] (mem24 e0 e1 (ecOf es) (ints ls)) = some (v, M') ∧ M'.get look = o := fun hx hq => by
    unfold run25 at hx
    exact run_of (look := fun M => M.get _) Tryd.func25 body25 (by kernel_rfl) hx (.inr rfl) hq
  have hbk : ∀ (e : AExit) (s : St), (blkEnd 0 (end25 N tt e0 e1 es ls (go es ls fr 0 [])).1, (end25 N tt e0 e1 es ls (go es ls fr 0 [])).2) = (e, s) → (QV.bk 0 (.loop loop25) 3 [] (some (I25 N tt es.length ls.length e0 e1 (ecOf es) (ints ls) fr 0 0 (.slice none 0 0) [])) [ecOf es, ints ls, boxC N es.length] true e s).holds Tryd.prog (specsB [] [(0, g)]) door25 [] := fun e s he => by
    refine ⟨S25 N tt e0 e1 es ls (0, fr, 0, []), by rw [← he]; rfl, rfl, rfl, rfl, fun l hl => ?_, rfl⟩
    simp only [List.mem_cons, List.not_mem_nil, or_false] at hl
    rcases hl with rfl | rfl | rfl
    · exact renL_flat _ _ (ecOf_flat es)
    · exact renL_flat _ _ (ints_flat ls)
    · exact box_still _ _ _ rfl
  have done : ∀ {v : Value} {look : Nat} {o : Option ABlk}, (∃ M', Go.Am.arun Tryd.prog [] (specsB [] [(0, g)]) 60 25 [.agg ⟨[i64 N, sl 0 es.length]⟩, i64 fr, i64 tt, sl 1 ls.length] (mem24 e0 e1 (ecOf es) (ints ls)) = some (v, M') ∧ M'.get look = o) → v = walkV 3 (walkR N es fr tt ls) → (∀ c w ws, walkR N es fr tt ls = some (c, w :: ws) → look = 3 ∧ o = some (own (ints (w :: ws)) 3 1)) → Res25 N fr tt e0 e1 es ls := fun ⟨M', k1, k2⟩ hv hw =>
    ⟨specsB [] [(0, g)], M', hSP, by rw [← hv]; exact k1, fun c w ws h => by obtain ⟨h1, h2⟩ := hw c w ws h; subst h1; rw [← h2]; exact k2⟩
  by_cases c0 : fr < 0
  · have hw : walkR N es fr tt ls = none := by unfold walkR; rw [if_neg (by omega)]
    exact done (fin (v25_ss0 N tt fr es.length ls.length e0 e1 (ecOf es) (ints ls) _) (by simp only [List.forall_mem_cons]; (repeat' apply And.intro) <;> first | exact qd c0 | (intro x hx; cases hx))) (by rw [hw]; rfl) (fun c w ws h => by rw [hw] at h; cases h)
  by_cases c1 : fr ≥ N
  · have hw : walkR N es fr tt ls = none := by unfold walkR; rw [if_neg (by omega)]
    exact done (fin (v25_ss1 N tt fr es.length ls.length e0 e1 (ecOf es) (ints ls) _) (by simp only [List.forall_mem_cons]; (repeat' apply And.intro) <;> first | exact qdn c0 | exact qd c1 | (intro x hx; cases hx))) (by rw [hw]; rfl) (fun c w ws h => by rw [hw] at h; cases h)
  by_cases c2 : tt < 0
  · have hw : walkR N es fr tt ls = none := by unfold walkR; rw [if_neg (by omega)]
    exact done (fin (v25_ss2 N tt fr es.length ls.length e0 e1 (ecOf es) (ints ls) _) (by simp only [List.forall_mem_cons]; (repeat' apply And.intro) <;> first | exact qdn c0 | exact qdn c1 | exact qd c2 | (intro x hx; cases hx))) (by rw [hw]; rfl) (fun c w ws h => by rw [hw] at h; cases h)
  by_cases c3 : tt ≥ N
  · have hw : walkR N es fr tt ls = none := by unfold walkR; rw [if_neg (by omega)]
    exact done (fin (v25_ss3 N tt fr es.length ls.length e0 e1 (ecOf es) (ints ls) _) (by simp only [List.forall_mem_cons]; (repeat' apply And.intro) <;> first | exact qdn c0 | exact qdn c1 | exact qdn c2 | exact qd c3 | (intro x hx; cases hx))) (by rw [hw]; rfl) (fun c w ws h => by rw [hw] at h; cases h)
  have hin : (0 ≤ fr ∧ fr < N) ∧ 0 ≤ tt ∧ tt < N := by omega
  cases hR : go es ls fr 0 [] with
  | none =>
    have hw : walkR N es fr tt ls = none := by unfold walkR; rw [if_pos hin, hR]
    exact done (fin (v25_ssr N tt fr es.length ls.length e0 e1 (ecOf es) (ints ls) _) (by simp only [List.forall_mem_cons]; (repeat' apply And.intro) <;> first | exact qdn c0 | exact qdn c1 | exact qdn c2 | exact qdn c3 | exact hbk _ _ (by rw [hR]; rfl) | (intro x hx; cases hx))) (by rw [hw]; rfl) (fun c w ws h => by rw [hw] at h; cases h)
  | some x =>
    obtain ⟨a, c, ws⟩ := x
    by_cases ha : a = tt
    · have hw : walkR N es fr tt ls = some (c, ws) := by unfold walkR; rw [if_pos hin, hR]; simp [ha]
      cases ws with
      | nil => exact done (fin (v25_ssyn N tt fr a c es.length ls.length e0 e1 (ecOf es) (ints ls) _) (by simp only [List.forall_mem_cons]; (repeat' apply And.intro) <;> first | exact qdn c0 | exact qdn c1 | exact qdn c2 | exact qdn c3 | exact bb (by simp [ha]) | exact hbk _ _ (by rw [hR]; rfl) | (intro x hx; cases hx))) (by rw [hw]; rfl) (fun c' w ws h => by rw [hw] at h; cases h)
      | cons x l => exact done (fin (v25_ssys N tt fr a c es.length ls.length (l.length + 1) e0 e1 (ecOf es) (ints ls) (ints (x :: l)) _) (by simp only [List.forall_mem_cons]; (repeat' apply And.intro) <;> first | exact qdn c0 | exact qdn c1 | exact qdn c2 | exact qdn c3 | exact bb (by simp [ha]) | exact hbk _ _ (by rw [hR]; rfl) | (intro x hx; cases hx))) (by rw [hw]; rfl) (fun c' w ws h => by rw [hw] at h; cases h; exact ⟨rfl, rfl⟩)
    · have hw : walkR N es fr tt ls = none := by unfold walkR; rw [if_pos hin, hR]; simp [ha]
      cases ws with
      | nil => exact done (fin (v25_ssxn N tt fr a c es.length ls.length e0 e1 (ecOf es) (ints ls) _) (by simp only [List.forall_mem_cons]; (repeat' apply And.intro) <;> first | exact qdn c0 | exact qdn c1 | exact qdn c2 | exact qdn c3 | exact bb (by simp [ha]) | exact hbk _ _ (by rw [hR]; rfl) | (intro x hx; cases hx))) (by rw [hw]; rfl) (fun c' w ws h => by rw [hw] at h; cases h)
      | cons x l => exact done (fin (v25_ssxs N tt fr a c es.length ls.length (l.length + 1) e0 e1 (ecOf es) (ints ls) (ints (x :: l)) _) (by simp only [List.forall_mem_cons]; (repeat' apply And.intro) <;> first | exact qdn c0 | exact qdn c1 | exact qdn c2 | exact qdn c3 | exact bb (by simp [ha]) | exact hbk _ _ (by rw [hR]; rfl) | (intro x hx; cases hx))) (by rw [hw]; rfl) (fun c' w ws h => by rw [hw] at h; cases h)
end Go.Proofs.YtlmifmodnkhidaaDoor

open Go Go.Am Go.Proofs
namespace Go.Proofs.YtlmifmodnkhidaaDoor
set_option maxRecDepth 10000

theorem r25 {n s : Value} {fr tt : Int} {l : List (Nat × ABlk)} {k look : Nat} {F : List Fact} {v : Value} {q : List QV} {o : Option ABlk} (hx : run25 n s fr tt l k noSpecs look F = some (.ret, o, some v, q)) (hq : ∀ p ∈ q, p.holds Tryd.prog noSpecs door25 []) : ∃ M', Go.Am.arun Tryd.prog [] noSpecs 60 25 [n, i64 fr, i64 tt, s] (startMem l k) = some (v, M') := by
  unfold run25 at hx
  obtain ⟨M', k1, _⟩ := run_of (look := fun M => M.get _) Tryd.func25 body25 (by show Nat.ble 4 Tryd.f25.ntmps = true; kernel_rfl) hx (.inr rfl) hq
  exact ⟨M', k1⟩

theorem w25nn (N fr tt : Int)  : ∃ M0, Go.Am.arun Tryd.prog [] noSpecs 60 25 [.agg ⟨[i64 N, .slice none 0 0]⟩, i64 fr, i64 tt, .slice none 0 0] (startMem [] 0) = some (walkV 0 (walkR N [] fr tt []), M0) := by
  by_cases c0 : fr < 0
  · have hw : walkR N [] fr tt [] = none := by unfold walkR; rw [if_neg (by omega)]
    rw [hw]
    exact r25 (v25_nn0 N tt fr) (by simp only [List.forall_mem_cons]; (repeat' apply And.intro) <;> first | exact qd c0 | (intro x hx; cases hx))
  by_cases c1 : fr ≥ N
  · have hw : walkR N [] fr tt [] = none := by unfold walkR; rw [if_neg (by omega)]
    rw [hw]
    exact r25 (v25_nn1 N tt fr) (by simp only [List.forall_mem_cons]; (repeat' apply And.intro) <;> first | exact qdn c0 | exact qd c1 | (intro x hx; cases hx))
  by_cases c2 : tt < 0
  · have hw : walkR N [] fr tt [] = none := by unfold walkR; rw [if_neg (by omega)]
    rw [hw]
    exact r25 (v25_nn2 N tt fr) (by simp only [List.forall_mem_cons]; (repeat' apply And.intro) <;> first | exact qdn c0 | exact qdn c1 | exact qd c2 | (intro x hx; cases hx))
  by_cases c3 : tt ≥ N
  · have hw : walkR N [] fr tt [] = none := by unfold walkR; rw [if_neg (by omega)]
    rw [hw]
    exact r25 (v25_nn3 N tt fr) (by simp only [List.forall_mem_cons]; (repeat' apply And.intro) <;> first | exact qdn c0 | exact qdn c1 | exact qdn c2 | exact qd c3 | (intro x hx; cases hx))
  have hin : (0 ≤ fr ∧ fr < N) ∧ 0 ≤ tt ∧ tt < N := by omega
  by_cases h3 : fr = tt
  · have hw : walkR N [] fr tt [] = some (0, []) := by unfold walkR; rw [if_pos hin]; simp [go, h3]
    rw [hw]
    exact r25 (v25_nny N tt fr) (by simp only [List.forall_mem_cons]; (repeat' apply And.intro) <;> first | exact qdn c0 | exact qdn c1 | exact qdn c2 | exact qdn c3 | exact bb (by simp [h3]) | (intro x hx; cases hx))
  · have hw : walkR N [] fr tt [] = none := by unfold walkR; rw [if_pos hin]; simp [go, h3]
    rw [hw]
    exact r25 (v25_nnx N tt fr) (by simp only [List.forall_mem_cons]; (repeat' apply And.intro) <;> first | exact qdn c0 | exact qdn c1 | exact qdn c2 | exact qdn c3 | exact bb (by simp [h3]) | (intro x hx; cases hx))

theorem w25sn (N fr tt : Int) (ne : Nat) : ∃ M0, Go.Am.arun Tryd.prog [] noSpecs 60 25 [.agg ⟨[i64 N, sl 0 ne]⟩, i64 fr, i64 tt, .slice none 0 0] (startMem [] 1) = some (walkV 0 (walkR N [] fr tt []), M0) := by
  by_cases c0 : fr < 0
  · have hw : walkR N [] fr tt [] = none := by unfold walkR; rw [if_neg (by omega)]
    rw [hw]
    exact r25 (v25_sn0 N tt fr ne) (by simp only [List.forall_mem_cons]; (repeat' apply And.intro) <;> first | exact qd c0 | (intro x hx; cases hx))
  by_cases c1 : fr ≥ N
  · have hw : walkR N [] fr tt [] = none := by unfold walkR; rw [if_neg (by omega)]
    rw [hw]
    exact r25 (v25_sn1 N tt fr ne) (by simp only [List.forall_mem_cons]; (repeat' apply And.intro) <;> first | exact qdn c0 | exact qd c1 | (intro x hx; cases hx))
  by_cases c2 : tt < 0
  · have hw : walkR N [] fr tt [] = none := by unfold walkR; rw [if_neg (by omega)]
    rw [hw]
    exact r25 (v25_sn2 N tt fr ne) (by simp only [List.forall_mem_cons]; (repeat' apply And.intro) <;> first | exact qdn c0 | exact qdn c1 | exact qd c2 | (intro x hx; cases hx))
  by_cases c3 : tt ≥ N
  · have hw : walkR N [] fr tt [] = none := by unfold walkR; rw [if_neg (by omega)]
    rw [hw]
    exact r25 (v25_sn3 N tt fr ne) (by simp only [List.forall_mem_cons]; (repeat' apply And.intro) <;> first | exact qdn c0 | exact qdn c1 | exact qdn c2 | exact qd c3 | (intro x hx; cases hx))
  have hin : (0 ≤ fr ∧ fr < N) ∧ 0 ≤ tt ∧ tt < N := by omega
  by_cases h3 : fr = tt
  · have hw : walkR N [] fr tt [] = some (0, []) := by unfold walkR; rw [if_pos hin]; simp [go, h3]
    rw [hw]
    exact r25 (v25_sny N tt fr ne) (by simp only [List.forall_mem_cons]; (repeat' apply And.intro) <;> first | exact qdn c0 | exact qdn c1 | exact qdn c2 | exact qdn c3 | exact bb (by simp [h3]) | (intro x hx; cases hx))
  · have hw : walkR N [] fr tt [] = none := by unfold walkR; rw [if_pos hin]; simp [go, h3]
    rw [hw]
    exact r25 (v25_snx N tt fr ne) (by simp only [List.forall_mem_cons]; (repeat' apply And.intro) <;> first | exact qdn c0 | exact qdn c1 | exact qdn c2 | exact qdn c3 | exact bb (by simp [h3]) | (intro x hx; cases hx))

theorem w25ns (N fr tt : Int) (e1 : Nat) (ls : List Int) : ∃ M0, Go.Am.arun Tryd.prog [] noSpecs 60 25 [.agg ⟨[i64 N, .slice none 0 0]⟩, i64 fr, i64 tt, sl 0 ls.length] (startMem [(0, ro (ints ls) e1 1)] 1) = some (walkV 0 (walkR N [] fr tt ls), M0) := by
  by_cases c0 : fr < 0
  · have hw : walkR N [] fr tt ls = none := by unfold walkR; rw [if_neg (by omega)]
    rw [hw]
    exact r25 (v25_ns0 N tt fr ls.length e1 (ints ls)) (by simp only [List.forall_mem_cons]; (repeat' apply And.intro) <;> first | exact qd c0 | (intro x hx; cases hx))
  by_cases c1 : fr ≥ N
  · have hw : walkR N [] fr tt ls = none := by unfold walkR; rw [if_neg (by omega)]
    rw [hw]
    exact r25 (v25_ns1 N tt fr ls.length e1 (ints ls)) (by simp only [List.forall_mem_cons]; (repeat' apply And.intro) <;> first | exact qdn c0 | exact qd c1 | (intro x hx; cases hx))
  by_cases c2 : tt < 0
  · have hw : walkR N [] fr tt ls = none := by unfold walkR; rw [if_neg (by omega)]
    rw [hw]
    exact r25 (v25_ns2 N tt fr ls.length e1 (ints ls)) (by simp only [List.forall_mem_cons]; (repeat' apply And.intro) <;> first | exact qdn c0 | exact qdn c1 | exact qd c2 | (intro x hx; cases hx))
  by_cases c3 : tt ≥ N
  · have hw : walkR N [] fr tt ls = none := by unfold walkR; rw [if_neg (by omega)]
    rw [hw]
    exact r25 (v25_ns3 N tt fr ls.length e1 (ints ls)) (by simp only [List.forall_mem_cons]; (repeat' apply And.intro) <;> first | exact qdn c0 | exact qdn c1 | exact qdn c2 | exact qd c3 | (intro x hx; cases hx))
  have hin : (0 ≤ fr ∧ fr < N) ∧ 0 ≤ tt ∧ tt < N := by omega
  cases ls with
  | nil =>
    by_cases h3 : fr = tt
    · have hw : walkR N [] fr tt [] = some (0, []) := by unfold walkR; rw [if_pos hin]; simp [go, h3]
      rw [hw]
      exact r25 (v25_nsy N tt fr 0 e1 (ints [])) (by simp only [List.forall_mem_cons]; (repeat' apply And.intro) <;> first | exact qdn c0 | exact qdn c1 | exact qdn c2 | exact qdn c3 | exact bb (by simp [h3]) | exact qdn (by simp) | (intro x hx; cases hx))
    · have hw : walkR N [] fr tt [] = none := by unfold walkR; rw [if_pos hin]; simp [go, h3]
      rw [hw]
      exact r25 (v25_nsx N tt fr 0 e1 (ints [])) (by simp only [List.forall_mem_cons]; (repeat' apply And.intro) <;> first | exact qdn c0 | exact qdn c1 | exact qdn c2 | exact qdn c3 | exact bb (by simp [h3]) | exact qdn (by simp) | (intro x hx; cases hx))
  | cons x l =>
    have hw : walkR N [] fr tt (x :: l) = none := by unfold walkR; rw [if_pos hin, go_nil]
    rw [hw]
    have q1 : (QV.b (decide ((0 : Int) < ((x :: l).length : Int))) (.val (.bool true))).holds Tryd.prog noSpecs door25 [] := qd (by simp only [List.length_cons]; omega)
    have q2 : (QV.ib 0 (x :: l).length).holds Tryd.prog noSpecs door25 [] := qib (by simp only [List.length_cons]; omega)
    have q3 : (QV.ld 3 (0 + (0 : Int).toNat * 1) (some (ro (ints (x :: l)) e1 1)) (.val (i64 x))).holds Tryd.prog noSpecs door25 [] := ⟨_, rfl, by rw [ld3]; rfl⟩
    by_cases h4 : x < 0
    · exact r25 (v25_nsa N tt fr x (x :: l).length e1 (ints (x :: l))) (by simp only [List.forall_mem_cons]; (repeat' apply And.intro) <;> first | exact qdn c0 | exact qdn c1 | exact qdn c2 | exact qdn c3 | exact q1 | exact q2 | exact q3 | exact qd h4 | (intro x hx; cases hx))
    · exact r25 (v25_nsb N tt fr x (x :: l).length e1 (ints (x :: l))) (by simp only [List.forall_mem_cons]; (repeat' apply And.intro) <;> first | exact qdn c0 | exact qdn c1 | exact qdn c2 | exact qdn c3 | exact q1 | exact q2 | exact q3 | exact qdn h4 | exact qd (by omega) | (intro x hx; cases hx))

theorem ok25 (B : Nat) : SpecOk Tryd.prog [] B 25 g24 := by
  refine SpecOk.ofStart noNumP mixedP fun args M v M' h => ?_
  unfold g24 at h
  split at h <;> try (cases h; done)
  rename_i N a oa ne ca fr tt b ob nl cb
  split at h <;> try (cases h; done)
  rename_i A Bk hA hB
  split at h <;> try (cases h; done)
  rename_i es ls hes hls
  cases hk : ok24b A Bk oa ob ne nl es ls <;> rw [hk] at h <;> simp only [cond_true, cond_false] at h
  · cases h
  unfold ok24b at hk
  simp only [Bool.and_eq_true] at hk
  obtain ⟨⟨⟨⟨⟨⟨k1, k2⟩, k3⟩, k4⟩, k5⟩, k6⟩, k7⟩ := hk
  have k1 := Nat.eq_of_beq_eq_true k1
  have k2 := Nat.eq_of_beq_eq_true k2
  have k3 := Nat.le_of_ble_eq_true k3
  have k4 := Nat.le_of_ble_eq_true k4
  have k5 := Nat.le_of_ble_eq_true k5
  have k6 := Nat.eq_of_beq_eq_true k6
  have k7 := Nat.eq_of_beq_eq_true k7
  have hA' := of_edges? hes
  have hB' := of_ints? hls
  subst k1; subst k2
  obtain ⟨SP, M0, hSP, hrun, hres⟩ := arun25 N fr tt A.elem Bk.elem es ls k5
  have hsh : ∃ v M', some (v, M') = some (out24 M (walkR N es fr tt ls)) ∧ ∃ res, (match res with
    | none => flat (walkV 3 (walkR N es fr tt ls)) = true ∧ v = walkV 3 (walkR N es fr tt ls) ∧ M' = M
    | some (i, rb) => 2 ≤ i ∧ M0.get i = some rb ∧ rb.app = true ∧ flatL rb.cs = true ∧ renV [(M.next, i, true)] (walkV 3 (walkR N es fr tt ls)) = some v ∧ M' = M.alloc rb) := by
    cases hw : walkR N es fr tt ls with
    | none => exact ⟨_, _, rfl, none, rfl, rfl, rfl⟩
    | some x =>
      obtain ⟨c, ws⟩ := x
      cases ws with
      | nil => exact ⟨_, _, rfl, none, rfl, rfl, rfl⟩
      | cons w ws => exact ⟨_, _, rfl, some (3, own (ints (w :: ws)) 3 1), by decide, hres c w ws hw, rfl, ints_flat _, rfl, rfl⟩
  obtain ⟨v1, M1, h1, res, h2⟩ := hsh
  rw [h] at h1
  cases h1
  refine ⟨[(0, ro (ecOf es) A.elem 4), (1, ro (ints ls) Bk.elem 1)], 60, SP, _, _, M0, [(a, oa), (b, ob)], res, hSP, hrun, fun p hp => ?_, fun φ φ0 args' hl ha => ?_, h2⟩
  · simp only [List.mem_cons, List.not_mem_nil, or_false] at hp
    rcases hp with rfl | rfl
    · refine ⟨rfl, rfl, ecOf_flat es, a, oa, A, rfl, hA, rfl, k6, by simp only [ecOf_len]; exact k3, fun j u hu => ?_⟩
      rw [show ecOf es = _ from hA'.symm] at hu
      exact take_get hu
    · refine ⟨rfl, rfl, ints_flat ls, b, ob, Bk, rfl, hB, rfl, k7, by simp only [ints_len]; exact k4, fun j u hu => ?_⟩
      rw [show ints ls = _ from hB'.symm] at hu
      exact take_get hu
  · cases ha with
    | cons h0 ha =>
      obtain ⟨x', rfl, g⟩ := h0.agg_inv
      cases ha with
      | cons h1 ha =>
        cases ha with
        | cons h2 ha =>
          cases ha with
          | cons h3 ha =>
            cases ha
            obtain rfl := h1.int_inv
            obtain rfl := h2.int_inv
            refine .cons ?_ (.cons (VRel.refl_flat _ _ rfl) (.cons (VRel.refl_flat _ _ rfl) (.cons (slice_lies hl rfl h3) .nil)))
            obtain ⟨x'⟩ := x'
            cases g with
            | cons g0 g =>
              cases g with
              | cons g1 g =>
                cases g
                obtain rfl := g0.int_inv
                exact .agg (.cons (VRel.refl_flat _ _ rfl) (.cons (slice_lies hl rfl g1) .nil))

theorem none25 (B : Nat) : SpecsOk Tryd.prog [] B noSpecs := SpecsOk.none
theorem ok25n (B : Nat) : SpecOk Tryd.prog [] B 25 g24n := by
  refine SpecOk.ofStart noNumP mixedP fun args M v M' h => ?_
  unfold g24n at h
  split at h <;> try (cases h; done)
  · rename_i N fr tt
    obtain ⟨o1, o2⟩ := out24_nil M N fr tt []
    rw [o1] at h
    cases h
    obtain ⟨M0, hrun⟩ := w25nn N fr tt
    refine ⟨[], 60, noSpecs, _, _, M0, [], none, none25, hrun, fun p hp => (by cases hp), fun φ φ0 args' hl ha => ?_, o2, rfl, rfl⟩
    rw [ha.of_flat rfl]
    exact LRel.refl_flat _ _ rfl
  · rename_i N a oa ne ca fr tt
    obtain ⟨o1, o2⟩ := out24_nil M N fr tt []
    rw [o1] at h
    cases h
    obtain ⟨M0, hrun⟩ := w25sn N fr tt ne
    refine ⟨[], 60, noSpecs, _, _, M0, [(a, oa)], none, none25, hrun, fun p hp => (by cases hp), fun φ φ0 args' hl ha => ?_, o2, rfl, rfl⟩
    cases ha with
    | cons g0 ha =>
      obtain ⟨x', rfl, g⟩ := g0.agg_inv
      obtain ⟨x'⟩ := x'
      cases ha with
      | cons g1 ha =>
        cases ha with
        | cons g2 ha =>
          cases ha with
          | cons g3 ha =>
            cases ha
            obtain rfl := g1.int_inv
            obtain rfl := g2.int_inv
            have := g3.of_flat rfl
            subst this
            cases g with
            | cons k0 g =>
              cases g with
              | cons k1 g =>
                cases g
                obtain rfl := k0.int_inv
                exact .cons (.agg (.cons (VRel.refl_flat _ _ rfl) (.cons (slice_lies hl rfl k1) .nil))) (.cons (VRel.refl_flat _ _ rfl) (.cons (VRel.refl_flat _ _ rfl) (.cons (VRel.refl_flat _ _ rfl) .nil)))
  · rename_i N fr tt b ob nl cb
    split at h <;> try (cases h; done)
    rename_i Bk hB
    split at h <;> try (cases h; done)
    rename_i ls hls
    cases hk : (Nat.beq ls.length nl && Nat.ble (ob + nl) Bk.cs.length && Nat.beq Bk.esz 1) <;> rw [hk] at h <;> simp only [cond_true, cond_false] at h
    · cases h
    simp only [Bool.and_eq_true] at hk
    obtain ⟨⟨k1, k2⟩, k3⟩ := hk
    have k1 := Nat.eq_of_beq_eq_true k1
    have k2 := Nat.le_of_ble_eq_true k2
    have k3 := Nat.eq_of_beq_eq_true k3
    subst k1
    have hB' := of_ints? hls
    obtain ⟨o1, o2⟩ := out24_nil M N fr tt ls
    rw [o1] at h
    cases h
    obtain ⟨M0, hrun⟩ := w25ns N fr tt Bk.elem ls
    refine ⟨[(0, ro (ints ls) Bk.elem 1)], 60, noSpecs, _, _, M0, [(b, ob)], none, none25, hrun, fun p hp => ?_, fun φ φ0 args' hl ha => ?_, o2, rfl, rfl⟩
    · simp only [List.mem_singleton] at hp
      subst hp
      refine ⟨rfl, rfl, ints_flat ls, b, ob, Bk, rfl, hB, rfl, k3, by simp only [ints_len]; exact k2, fun j u hu => ?_⟩
      rw [show ints ls = _ from hB'.symm] at hu
      exact take_get hu
    · cases ha with
      | cons g0 ha =>
        have := g0.of_flat rfl
        subst this
        cases ha with
        | cons g1 ha =>
          cases ha with
          | cons g2 ha =>
            cases ha with
            | cons g3 ha =>
              cases ha
              obtain rfl := g1.int_inv
              obtain rfl := g2.int_inv
              exact .cons (VRel.refl_flat _ _ rfl) (.cons (VRel.refl_flat _ _ rfl) (.cons (VRel.refl_flat _ _ rfl) (.cons (slice_lies hl rfl g3) .nil)))
theorem ok25W (B : Nat) : SpecOk Tryd.prog [] B 25 gW := SpecOk.either (ok25 B) (ok25n B) fun args M r h => by
  unfold gW at h
  split at h
  · rename_i x hx
    cases h; exact .inl hx
  · exact .inr h
end Go.Proofs.YtlmifmodnkhidaaDoor
