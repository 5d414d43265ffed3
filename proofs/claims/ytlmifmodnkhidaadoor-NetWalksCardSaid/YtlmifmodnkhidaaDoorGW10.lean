/-
  NetWalks: whether any edges are a walk, its cost and its word, are the document's: of any network of at most twelve vertices that is made of the numbers handed in, and of any rows of edges, of at most sixty where they are handed in; the answer is true for every argument.
-/
import Derived.Test.YtlmifmodnkhidaaDoorGW1
open Go Go.Am Go.Proofs
namespace Go.Proofs.YtlmifmodnkhidaaDoor
set_option maxRecDepth 10000

/- Make -/
noncomputable def B15 : Code := Tryd.f15.body.get!
theorem body15 : Tryd.f15.body = some B15 := by kernel_rfl
noncomputable def loop15 : Code := unloop ((inner 0 100 B15).get!)
noncomputable def SP15 : Specs := specs [(18, g18)]
def resC : List Value := [i64 0, .slice none 0 0]
def blks15 (N : Int) (e0 : Nat) (nc : List Value) (ev : Value) (eb : List (Nat × ABlk)) : List (Nat × ABlk) := [(0, ro nc e0 1), (1, own resC 24 2), (2, own [i64 N, ev] 24 2)] ++ eb
def I15 (N md : Int) (nl e0 : Nat) (nc : List Value) (iv : Int) (ev : Value) (eb : List (Nat × ABlk)) : St :=
  ⟨tabT [(1, sl 0 nl), (2, i64 md), (6, .pointer (some ⟨1, 0, none⟩)), (7, .pointer (some ⟨2, 0, none⟩)), (8, i64 iv)], 80, ⟨blkTree (blks15 N e0 nc ev eb), 4, [], [2, 2]⟩⟩
def mv15 (l : Moves) : Moves := [(0, 0, true), (1, 1, true), (2, 2, false)] ++ l
noncomputable def rnd15 (s : St) (F : List Fact) (nx : Nat) (keep : List Nat) (l : Moves) :=
  (hexec Tryd.prog [] SP15 60 loop15 s F 0).map (fun r => (r.1.1, rebase 3 nx (mv15 l) keep [2] [2] r.1.2, stills r.1.2.M (mv15 l), Nat.ble r.1.2.M.next 10, r.2.2.2.map (view noDoors [])))
variable (N md iv z f t : Int) (nl nw e0 : Nat) (nc ec : List Value)
theorem st15_0Tn : rnd15 (I15 N md nl e0 nc iv (.slice none 0 0) []) [tru 10, tru 12, tru 15, tru 16, tru 22, got 24 (i64 z), got 34 (i64 f), got 44 (i64 t), tru 69, tru 92] 4 [1, 2, 6, 7, 8] [(3, 6, true)] =
    some (.normal, some (I15 N md nl e0 nc (IntKind.wrap .i64 (iv + 1)) (sl 3 1) [(3, own [i64 f, i64 t, i64 (modI (IntKind.wrap .i64 (f + t)) 2), i64 (IntKind.wrap .i64 (2147483647 - modI (IntKind.wrap .i64 (z.tdiv 31)) 3))] 31 4)]), [nc, resC, [i64 f, i64 t, i64 (modI (IntKind.wrap .i64 (f + t)) 2), i64 (IntKind.wrap .i64 (2147483647 - modI (IntKind.wrap .i64 (z.tdiv 31)) 3))]], true, [.b (decide (iv < (nl : Int))) (.val (.bool true)), .b (decide (iv < (nl : Int))) (.val (.bool true)), .b (decide (iv < (nl : Int))) (.val (.bool true)), .b (decide (iv < 40)) (.val (.bool true)), .ib iv nl, .ld 3 (0 + iv.toNat * 1) (some (ro nc e0 1)) (.val (i64 z)), .cr 18 [i64 z, i64 N] [] (.val (i64 f)), .cr 18 [i64 (IntKind.wrap .i64 (z.tdiv 13)), i64 N] [] (.val (i64 t)), .b (modI md 3 == 0) (.val (.bool true)), .b (modI z 31 == 0) (.val (.bool true))]) := by kernel_rfl
theorem st15_0To : rnd15 (I15 N md nl e0 nc iv (sl 3 nw) [(3, own ec 31 4)]) [tru 10, tru 12, tru 15, tru 16, tru 22, got 24 (i64 z), got 34 (i64 f), got 44 (i64 t), tru 69, tru 92, onto 114 ec] 4 [1, 2, 6, 7, 8] [(3, 6, true)] =
    some (.normal, some (I15 N md nl e0 nc (IntKind.wrap .i64 (iv + 1)) (sl 3 (nw + 1)) [(3, own (ec ++ [i64 f, i64 t, i64 (modI (IntKind.wrap .i64 (f + t)) 2), i64 (IntKind.wrap .i64 (2147483647 - modI (IntKind.wrap .i64 (z.tdiv 31)) 3))]) 31 4)]), [nc, resC, (ec ++ [i64 f, i64 t, i64 (modI (IntKind.wrap .i64 (f + t)) 2), i64 (IntKind.wrap .i64 (2147483647 - modI (IntKind.wrap .i64 (z.tdiv 31)) 3))])], true, [.b (decide (iv < (nl : Int))) (.val (.bool true)), .b (decide (iv < (nl : Int))) (.val (.bool true)), .b (decide (iv < (nl : Int))) (.val (.bool true)), .b (decide (iv < 40)) (.val (.bool true)), .ib iv nl, .ld 3 (0 + iv.toNat * 1) (some (ro nc e0 1)) (.val (i64 z)), .cr 18 [i64 z, i64 N] [] (.val (i64 f)), .cr 18 [i64 (IntKind.wrap .i64 (z.tdiv 13)), i64 N] [] (.val (i64 t)), .b (modI md 3 == 0) (.val (.bool true)), .b (modI z 31 == 0) (.val (.bool true)), .ap [22, 22] (sl 3 nw) (.slice (some ⟨5, 0, none⟩) 1 2) ec (own ec 31 4) [i64 f, i64 t, i64 (modI (IntKind.wrap .i64 (f + t)) 2), i64 (IntKind.wrap .i64 (2147483647 - modI (IntKind.wrap .i64 (z.tdiv 31)) 3))]]) := by kernel_rfl
theorem st15_0Fn : rnd15 (I15 N md nl e0 nc iv (.slice none 0 0) []) [tru 10, tru 12, tru 15, tru 16, tru 22, got 24 (i64 z), got 34 (i64 f), got 44 (i64 t), tru 69, fls 92] 4 [1, 2, 6, 7, 8] [(3, 6, true)] =
    some (.normal, some (I15 N md nl e0 nc (IntKind.wrap .i64 (iv + 1)) (sl 3 1) [(3, own [i64 f, i64 t, i64 (modI (IntKind.wrap .i64 (f + t)) 2), i64 (modI (IntKind.wrap .i64 (z.tdiv 900)) 9)] 31 4)]), [nc, resC, [i64 f, i64 t, i64 (modI (IntKind.wrap .i64 (f + t)) 2), i64 (modI (IntKind.wrap .i64 (z.tdiv 900)) 9)]], true, [.b (decide (iv < (nl : Int))) (.val (.bool true)), .b (decide (iv < (nl : Int))) (.val (.bool true)), .b (decide (iv < (nl : Int))) (.val (.bool true)), .b (decide (iv < 40)) (.val (.bool true)), .ib iv nl, .ld 3 (0 + iv.toNat * 1) (some (ro nc e0 1)) (.val (i64 z)), .cr 18 [i64 z, i64 N] [] (.val (i64 f)), .cr 18 [i64 (IntKind.wrap .i64 (z.tdiv 13)), i64 N] [] (.val (i64 t)), .b (modI md 3 == 0) (.val (.bool true)), .b (modI z 31 == 0) (.val (.bool false))]) := by kernel_rfl
theorem st15_0Fo : rnd15 (I15 N md nl e0 nc iv (sl 3 nw) [(3, own ec 31 4)]) [tru 10, tru 12, tru 15, tru 16, tru 22, got 24 (i64 z), got 34 (i64 f), got 44 (i64 t), tru 69, fls 92, onto 102 ec] 4 [1, 2, 6, 7, 8] [(3, 6, true)] =
    some (.normal, some (I15 N md nl e0 nc (IntKind.wrap .i64 (iv + 1)) (sl 3 (nw + 1)) [(3, own (ec ++ [i64 f, i64 t, i64 (modI (IntKind.wrap .i64 (f + t)) 2), i64 (modI (IntKind.wrap .i64 (z.tdiv 900)) 9)]) 31 4)]), [nc, resC, (ec ++ [i64 f, i64 t, i64 (modI (IntKind.wrap .i64 (f + t)) 2), i64 (modI (IntKind.wrap .i64 (z.tdiv 900)) 9)])], true, [.b (decide (iv < (nl : Int))) (.val (.bool true)), .b (decide (iv < (nl : Int))) (.val (.bool true)), .b (decide (iv < (nl : Int))) (.val (.bool true)), .b (decide (iv < 40)) (.val (.bool true)), .ib iv nl, .ld 3 (0 + iv.toNat * 1) (some (ro nc e0 1)) (.val (i64 z)), .cr 18 [i64 z, i64 N] [] (.val (i64 f)), .cr 18 [i64 (IntKind.wrap .i64 (z.tdiv 13)), i64 N] [] (.val (i64 t)), .b (modI md 3 == 0) (.val (.bool true)), .b (modI z 31 == 0) (.val (.bool false)), .ap [22, 22] (sl 3 nw) (.slice (some ⟨5, 0, none⟩) 1 2) ec (own ec 31 4) [i64 f, i64 t, i64 (modI (IntKind.wrap .i64 (f + t)) 2), i64 (modI (IntKind.wrap .i64 (z.tdiv 900)) 9)]]) := by kernel_rfl
theorem st15_1Tn : rnd15 (I15 N md nl e0 nc iv (.slice none 0 0) []) [tru 10, tru 12, tru 15, tru 16, tru 22, got 24 (i64 z), got 34 (i64 f), got 44 (i64 t), fls 69, tru 76, tru 99] 4 [1, 2, 6, 7, 8] [(3, 6, true)] =
    some (.normal, some (I15 N md nl e0 nc (IntKind.wrap .i64 (iv + 1)) (sl 3 1) [(3, own [i64 f, i64 t, i64 (modI (IntKind.wrap .i64 ((modI (IntKind.wrap .i64 (z.tdiv 170)) 5) * f)) 3), i64 (IntKind.wrap .i64 (2147483647 - modI (IntKind.wrap .i64 (z.tdiv 31)) 3))] 31 4)]), [nc, resC, [i64 f, i64 t, i64 (modI (IntKind.wrap .i64 ((modI (IntKind.wrap .i64 (z.tdiv 170)) 5) * f)) 3), i64 (IntKind.wrap .i64 (2147483647 - modI (IntKind.wrap .i64 (z.tdiv 31)) 3))]], true, [.b (decide (iv < (nl : Int))) (.val (.bool true)), .b (decide (iv < (nl : Int))) (.val (.bool true)), .b (decide (iv < (nl : Int))) (.val (.bool true)), .b (decide (iv < 40)) (.val (.bool true)), .ib iv nl, .ld 3 (0 + iv.toNat * 1) (some (ro nc e0 1)) (.val (i64 z)), .cr 18 [i64 z, i64 N] [] (.val (i64 f)), .cr 18 [i64 (IntKind.wrap .i64 (z.tdiv 13)), i64 N] [] (.val (i64 t)), .b (modI md 3 == 0) (.val (.bool false)), .b (modI md 3 == 1) (.val (.bool true)), .b (modI z 31 == 0) (.val (.bool true))]) := by kernel_rfl
theorem st15_1To : rnd15 (I15 N md nl e0 nc iv (sl 3 nw) [(3, own ec 31 4)]) [tru 10, tru 12, tru 15, tru 16, tru 22, got 24 (i64 z), got 34 (i64 f), got 44 (i64 t), fls 69, tru 76, tru 99, onto 121 ec] 4 [1, 2, 6, 7, 8] [(3, 6, true)] =
    some (.normal, some (I15 N md nl e0 nc (IntKind.wrap .i64 (iv + 1)) (sl 3 (nw + 1)) [(3, own (ec ++ [i64 f, i64 t, i64 (modI (IntKind.wrap .i64 ((modI (IntKind.wrap .i64 (z.tdiv 170)) 5) * f)) 3), i64 (IntKind.wrap .i64 (2147483647 - modI (IntKind.wrap .i64 (z.tdiv 31)) 3))]) 31 4)]), [nc, resC, (ec ++ [i64 f, i64 t, i64 (modI (IntKind.wrap .i64 ((modI (IntKind.wrap .i64 (z.tdiv 170)) 5) * f)) 3), i64 (IntKind.wrap .i64 (2147483647 - modI (IntKind.wrap .i64 (z.tdiv 31)) 3))])], true, [.b (decide (iv < (nl : Int))) (.val (.bool true)), .b (decide (iv < (nl : Int))) (.val (.bool true)), .b (decide (iv < (nl : Int))) (.val (.bool true)), .b (decide (iv < 40)) (.val (.bool true)), .ib iv nl, .ld 3 (0 + iv.toNat * 1) (some (ro nc e0 1)) (.val (i64 z)), .cr 18 [i64 z, i64 N] [] (.val (i64 f)), .cr 18 [i64 (IntKind.wrap .i64 (z.tdiv 13)), i64 N] [] (.val (i64 t)), .b (modI md 3 == 0) (.val (.bool false)), .b (modI md 3 == 1) (.val (.bool true)), .b (modI z 31 == 0) (.val (.bool true)), .ap [22, 22] (sl 3 nw) (.slice (some ⟨5, 0, none⟩) 1 2) ec (own ec 31 4) [i64 f, i64 t, i64 (modI (IntKind.wrap .i64 ((modI (IntKind.wrap .i64 (z.tdiv 170)) 5) * f)) 3), i64 (IntKind.wrap .i64 (2147483647 - modI (IntKind.wrap .i64 (z.tdiv 31)) 3))]]) := by kernel_rfl
theorem st15_1Fn : rnd15 (I15 N md nl e0 nc iv (.slice none 0 0) []) [tru 10, tru 12, tru 15, tru 16, tru 22, got 24 (i64 z), got 34 (i64 f), got 44 (i64 t), fls 69, tru 76, fls 99] 4 [1, 2, 6, 7, 8] [(3, 6, true)] =
    some (.normal, some (I15 N md nl e0 nc (IntKind.wrap .i64 (iv + 1)) (sl 3 1) [(3, own [i64 f, i64 t, i64 (modI (IntKind.wrap .i64 ((modI (IntKind.wrap .i64 (z.tdiv 170)) 5) * f)) 3), i64 (modI (IntKind.wrap .i64 (z.tdiv 900)) 9)] 31 4)]), [nc, resC, [i64 f, i64 t, i64 (modI (IntKind.wrap .i64 ((modI (IntKind.wrap .i64 (z.tdiv 170)) 5) * f)) 3), i64 (modI (IntKind.wrap .i64 (z.tdiv 900)) 9)]], true, [.b (decide (iv < (nl : Int))) (.val (.bool true)), .b (decide (iv < (nl : Int))) (.val (.bool true)), .b (decide (iv < (nl : Int))) (.val (.bool true)), .b (decide (iv < 40)) (.val (.bool true)), .ib iv nl, .ld 3 (0 + iv.toNat * 1) (some (ro nc e0 1)) (.val (i64 z)), .cr 18 [i64 z, i64 N] [] (.val (i64 f)), .cr 18 [i64 (IntKind.wrap .i64 (z.tdiv 13)), i64 N] [] (.val (i64 t)), .b (modI md 3 == 0) (.val (.bool false)), .b (modI md 3 == 1) (.val (.bool true)), .b (modI z 31 == 0) (.val (.bool false))]) := by kernel_rfl
theorem st15_1Fo : rnd15 (I15 N md nl e0 nc iv (sl 3 nw) [(3, own ec 31 4)]) [tru 10, tru 12, tru 15, tru 16, tru 22, got 24 (i64 z), got 34 (i64 f), got 44 (i64 t), fls 69, tru 76, fls 99, onto 109 ec] 4 [1, 2, 6, 7, 8] [(3, 6, true)] =
    some (.normal, some (I15 N md nl e0 nc (IntKind.wrap .i64 (iv + 1)) (sl 3 (nw + 1)) [(3, own (ec ++ [i64 f, i64 t, i64 (modI (IntKind.wrap .i64 ((modI (IntKind.wrap .i64 (z.tdiv 170)) 5) * f)) 3), i64 (modI (IntKind.wrap .i64 (z.tdiv 900)) 9)]) 31 4)]), [nc, resC, (ec ++ [i64 f, i64 t, i64 (modI (IntKind.wrap .i64 ((modI (IntKind.wrap .i64 (z.tdiv 170)) 5) * f)) 3), i64 (modI (IntKind.wrap .i64 (z.tdiv 900)) 9)])], true, [.b (decide (iv < (nl : Int))) (.val (.bool true)), .b (decide (iv < (nl : Int))) (.val (.bool true)), .b (decide (iv < (nl : Int))) (.val (.bool true)), .b (decide (iv < 40)) (.val (.bool true)), .ib iv nl, .ld 3 (0 + iv.toNat * 1) (some (ro nc e0 1)) (.val (i64 z)), .cr 18 [i64 z, i64 N] [] (.val (i64 f)), .cr 18 [i64 (IntKind.wrap .i64 (z.tdiv 13)), i64 N] [] (.val (i64 t)), .b (modI md 3 == 0) (.val (.bool false)), .b (modI md 3 == 1) (.val (.bool true)), .b (modI z 31 == 0) (.val (.bool false)), .ap [22, 22] (sl 3 nw) (.slice (some ⟨5, 0, none⟩) 1 2) ec (own ec 31 4) [i64 f, i64 t, i64 (modI (IntKind.wrap .i64 ((modI (IntKind.wrap .i64 (z.tdiv 170)) 5) * f)) 3), i64 (modI (IntKind.wrap .i64 (z.tdiv 900)) 9)]]) := by kernel_rfl
theorem st15_2Tn : rnd15 (I15 N md nl e0 nc iv (.slice none 0 0) []) [tru 10, tru 12, tru 15, tru 16, tru 22, got 24 (i64 z), got 34 (i64 f), got 44 (i64 t), fls 69, fls 76, tru 83] 4 [1, 2, 6, 7, 8] [(3, 6, true)] =
    some (.normal, some (I15 N md nl e0 nc (IntKind.wrap .i64 (iv + 1)) (sl 3 1) [(3, own [i64 f, i64 t, i64 (modI (IntKind.wrap .i64 (z.tdiv 170)) 5), i64 (IntKind.wrap .i64 (2147483647 - modI (IntKind.wrap .i64 (z.tdiv 31)) 3))] 31 4)]), [nc, resC, [i64 f, i64 t, i64 (modI (IntKind.wrap .i64 (z.tdiv 170)) 5), i64 (IntKind.wrap .i64 (2147483647 - modI (IntKind.wrap .i64 (z.tdiv 31)) 3))]], true, [.b (decide (iv < (nl : Int))) (.val (.bool true)), .b (decide (iv < (nl : Int))) (.val (.bool true)), .b (decide (iv < (nl : Int))) (.val (.bool true)), .b (decide (iv < 40)) (.val (.bool true)), .ib iv nl, .ld 3 (0 + iv.toNat * 1) (some (ro nc e0 1)) (.val (i64 z)), .cr 18 [i64 z, i64 N] [] (.val (i64 f)), .cr 18 [i64 (IntKind.wrap .i64 (z.tdiv 13)), i64 N] [] (.val (i64 t)), .b (modI md 3 == 0) (.val (.bool false)), .b (modI md 3 == 1) (.val (.bool false)), .b (modI z 31 == 0) (.val (.bool true))]) := by kernel_rfl
theorem st15_2To : rnd15 (I15 N md nl e0 nc iv (sl 3 nw) [(3, own ec 31 4)]) [tru 10, tru 12, tru 15, tru 16, tru 22, got 24 (i64 z), got 34 (i64 f), got 44 (i64 t), fls 69, fls 76, tru 83, onto 105 ec] 4 [1, 2, 6, 7, 8] [(3, 6, true)] =
    some (.normal, some (I15 N md nl e0 nc (IntKind.wrap .i64 (iv + 1)) (sl 3 (nw + 1)) [(3, own (ec ++ [i64 f, i64 t, i64 (modI (IntKind.wrap .i64 (z.tdiv 170)) 5), i64 (IntKind.wrap .i64 (2147483647 - modI (IntKind.wrap .i64 (z.tdiv 31)) 3))]) 31 4)]), [nc, resC, (ec ++ [i64 f, i64 t, i64 (modI (IntKind.wrap .i64 (z.tdiv 170)) 5), i64 (IntKind.wrap .i64 (2147483647 - modI (IntKind.wrap .i64 (z.tdiv 31)) 3))])], true, [.b (decide (iv < (nl : Int))) (.val (.bool true)), .b (decide (iv < (nl : Int))) (.val (.bool true)), .b (decide (iv < (nl : Int))) (.val (.bool true)), .b (decide (iv < 40)) (.val (.bool true)), .ib iv nl, .ld 3 (0 + iv.toNat * 1) (some (ro nc e0 1)) (.val (i64 z)), .cr 18 [i64 z, i64 N] [] (.val (i64 f)), .cr 18 [i64 (IntKind.wrap .i64 (z.tdiv 13)), i64 N] [] (.val (i64 t)), .b (modI md 3 == 0) (.val (.bool false)), .b (modI md 3 == 1) (.val (.bool false)), .b (modI z 31 == 0) (.val (.bool true)), .ap [22, 22] (sl 3 nw) (.slice (some ⟨5, 0, none⟩) 1 2) ec (own ec 31 4) [i64 f, i64 t, i64 (modI (IntKind.wrap .i64 (z.tdiv 170)) 5), i64 (IntKind.wrap .i64 (2147483647 - modI (IntKind.wrap .i64 (z.tdiv 31)) 3))]]) := by kernel_rfl
theorem st15_2Fn : rnd15 (I15 N md nl e0 nc iv (.slice none 0 0) []) [tru 10, tru 12, tru 15, tru 16, tru 22, got 24 (i64 z), got 34 (i64 f), got 44 (i64 t), fls 69, fls 76, fls 83] 4 [1, 2, 6, 7, 8] [(3, 6, true)] =
    some (.normal, some (I15 N md nl e0 nc (IntKind.wrap .i64 (iv + 1)) (sl 3 1) [(3, own [i64 f, i64 t, i64 (modI (IntKind.wrap .i64 (z.tdiv 170)) 5), i64 (modI (IntKind.wrap .i64 (z.tdiv 900)) 9)] 31 4)]), [nc, resC, [i64 f, i64 t, i64 (modI (IntKind.wrap .i64 (z.tdiv 170)) 5), i64 (modI (IntKind.wrap .i64 (z.tdiv 900)) 9)]], true, [.b (decide (iv < (nl : Int))) (.val (.bool true)), .b (decide (iv < (nl : Int))) (.val (.bool true)), .b (decide (iv < (nl : Int))) (.val (.bool true)), .b (decide (iv < 40)) (.val (.bool true)), .ib iv nl, .ld 3 (0 + iv.toNat * 1) (some (ro nc e0 1)) (.val (i64 z)), .cr 18 [i64 z, i64 N] [] (.val (i64 f)), .cr 18 [i64 (IntKind.wrap .i64 (z.tdiv 13)), i64 N] [] (.val (i64 t)), .b (modI md 3 == 0) (.val (.bool false)), .b (modI md 3 == 1) (.val (.bool false)), .b (modI z 31 == 0) (.val (.bool false))]) := by kernel_rfl
theorem st15_2Fo : rnd15 (I15 N md nl e0 nc iv (sl 3 nw) [(3, own ec 31 4)]) [tru 10, tru 12, tru 15, tru 16, tru 22, got 24 (i64 z), got 34 (i64 f), got 44 (i64 t), fls 69, fls 76, fls 83, onto 93 ec] 4 [1, 2, 6, 7, 8] [(3, 6, true)] =
    some (.normal, some (I15 N md nl e0 nc (IntKind.wrap .i64 (iv + 1)) (sl 3 (nw + 1)) [(3, own (ec ++ [i64 f, i64 t, i64 (modI (IntKind.wrap .i64 (z.tdiv 170)) 5), i64 (modI (IntKind.wrap .i64 (z.tdiv 900)) 9)]) 31 4)]), [nc, resC, (ec ++ [i64 f, i64 t, i64 (modI (IntKind.wrap .i64 (z.tdiv 170)) 5), i64 (modI (IntKind.wrap .i64 (z.tdiv 900)) 9)])], true, [.b (decide (iv < (nl : Int))) (.val (.bool true)), .b (decide (iv < (nl : Int))) (.val (.bool true)), .b (decide (iv < (nl : Int))) (.val (.bool true)), .b (decide (iv < 40)) (.val (.bool true)), .ib iv nl, .ld 3 (0 + iv.toNat * 1) (some (ro nc e0 1)) (.val (i64 z)), .cr 18 [i64 z, i64 N] [] (.val (i64 f)), .cr 18 [i64 (IntKind.wrap .i64 (z.tdiv 13)), i64 N] [] (.val (i64 t)), .b (modI md 3 == 0) (.val (.bool false)), .b (modI md 3 == 1) (.val (.bool false)), .b (modI z 31 == 0) (.val (.bool false)), .ap [22, 22] (sl 3 nw) (.slice (some ⟨5, 0, none⟩) 1 2) ec (own ec 31 4) [i64 f, i64 t, i64 (modI (IntKind.wrap .i64 (z.tdiv 170)) 5), i64 (modI (IntKind.wrap .i64 (z.tdiv 900)) 9)]]) := by kernel_rfl
def end15 (N : Int) (e0 : Nat) (nc : List Value) (ev : Value) (eb : List (Nat × ABlk)) : St :=
  ⟨tabT [(6, .pointer (some ⟨1, 0, none⟩)), (7, .pointer (some ⟨2, 0, none⟩))], 80, ⟨blkTree (blks15 N e0 nc ev eb), 10, [], [2, 2]⟩⟩
def qL (b : Bool) : List QV := [.b (decide (iv < (nl : Int))) (.val (.bool b)), .b (decide (iv < (nl : Int))) (.val (.bool b)), .b (decide (iv < (nl : Int))) (.val (.bool b))]
theorem st15_En : rnd15 (I15 N md nl e0 nc iv (.slice none 0 0) []) [fls 10, fls 12, fls 15] 10 [6, 7] [] =
    some (.exit 0, some (end15 N e0 nc (.slice none 0 0) []), [nc, resC], true, qL iv nl false) := by kernel_rfl
theorem st15_Eo : rnd15 (I15 N md nl e0 nc iv (sl 3 nw) [(3, own ec 31 4)]) [fls 10, fls 12, fls 15] 10 [6, 7] [(3, 3, true)] =
    some (.exit 0, some (end15 N e0 nc (sl 3 nw) [(3, own ec 31 4)]), [nc, resC, ec], true, qL iv nl false) := by kernel_rfl
theorem st15_Fo : rnd15 (I15 N md nl e0 nc iv (sl 3 nw) [(3, own ec 31 4)]) [tru 10, tru 12, tru 15, fls 16] 10 [6, 7] [(3, 3, true)] =
    some (.exit 0, some (end15 N e0 nc (sl 3 nw) [(3, own ec 31 4)]), [nc, resC, ec], true, qL iv nl true ++ [.b (decide (iv < 40)) (.val (.bool false))]) := by kernel_rfl

def door15 : Nat → Door := fun _ => ⟨3, 4, mv15 [], [1, 2, 6, 7, 8], [2], [2]⟩
noncomputable def run15 (sz : Int) (sv : Value) (l : List (Nat × ABlk)) (n : Nat) (SP : Specs) (F : List Fact) :=
  (hexec Tryd.prog [] SP 60 B15 ⟨initT [i64 sz, sv, i64 md] 0 .nil, Tryd.f15.ntmps, startMem l n⟩ F 0).map (fun r => (r.1.1, r.1.2.M.get 3, aresults Tryd.prog Tryd.f15 r.1.2, r.2.2.2.map (view door15 [])))
theorem run15n (sz : Int) : run15 md sz (.slice none 0 0) [] 0 SP15 [] = some (.ret, none, some (.agg ⟨[i64 (IntKind.wrap .i64 (1 + modI sz 12)), .slice none 0 0]⟩), []) := by kernel_rfl
noncomputable def qE (N : Int) (t : St) : List QV := [.bk 0 (.loop loop15) 3 [2] (some (I15 N md nl e0 nc 0 (.slice none 0 0) [])) [nc, resC] true .normal t]
theorem run15a (sz : Int) (g : Code → St → Option (AExit × St)) : run15 md sz (sl 0 nl) [(0, ro nc e0 1)] 1 (specsB [(18, g18)] [(0, g)]) [past 16 .normal (end15 (IntKind.wrap .i64 (1 + modI sz 12)) e0 nc (.slice none 0 0) [])] =
    some (.ret, none, some (.agg ⟨[i64 (IntKind.wrap .i64 (1 + modI sz 12)), .slice none 0 0]⟩), qE md nl e0 nc (IntKind.wrap .i64 (1 + modI sz 12)) (end15 (IntKind.wrap .i64 (1 + modI sz 12)) e0 nc (.slice none 0 0) [])) := by kernel_rfl
theorem run15b (sz : Int) (g : Code → St → Option (AExit × St)) : run15 md sz (sl 0 nl) [(0, ro nc e0 1)] 1 (specsB [(18, g18)] [(0, g)]) [past 16 .normal (end15 (IntKind.wrap .i64 (1 + modI sz 12)) e0 nc (sl 3 nw) [(3, own ec 31 4)])] =
    some (.ret, some (own ec 31 4), some (.agg ⟨[i64 (IntKind.wrap .i64 (1 + modI sz 12)), sl 3 nw]⟩), qE md nl e0 nc (IntKind.wrap .i64 (1 + modI sz 12)) (end15 (IntKind.wrap .i64 (1 + modI sz 12)) e0 nc (sl 3 nw) [(3, own ec 31 4)])) := by kernel_rfl
end Go.Proofs.YtlmifmodnkhidaaDoor

open Go Go.Am Go.Proofs
namespace Go.Proofs.YtlmifmodnkhidaaDoor
set_option maxRecDepth 10000

def mkE (N md z : Int) : E where
  f := modI z N
  t := modI (IntKind.wrap .i64 (z.tdiv 13)) N
  m := if modI md 3 = 0 then modI (IntKind.wrap .i64 (modI z N + modI (IntKind.wrap .i64 (z.tdiv 13)) N)) 2 else if modI md 3 = 1 then modI (IntKind.wrap .i64 (modI (IntKind.wrap .i64 (z.tdiv 170)) 5 * modI z N)) 3 else modI (IntKind.wrap .i64 (z.tdiv 170)) 5
  c := if modI z 31 = 0 then IntKind.wrap .i64 (2147483647 - modI (IntKind.wrap .i64 (z.tdiv 31)) 3) else modI (IntKind.wrap .i64 (z.tdiv 900)) 9
def esOf (N md : Int) (ns : List Int) (i : Nat) : List E := (ns.take i).map (mkE N md)
def makeE (N md : Int) (ns : List Int) : List E := esOf N md ns 40
def eV (id : Nat) : List E → Value
  | [] => .slice none 0 0
  | _ :: l => sl id (l.length + 1)
def eB (id : Nat) : List E → List (Nat × ABlk)
  | [] => []
  | e :: l => [(id, own (ecOf (e :: l)) 31 4)]
def S15 (N md : Int) (e0 : Nat) (ns : List Int) (i : Nat) : St := I15 N md ns.length e0 (ints ns) i (eV 3 (esOf N md ns i)) (eB 3 (esOf N md ns i))

theorem esOf_succ {N md : Int} {ns : List Int} {i : Nat} {z : Int} (h : ns[i]? = some z) : esOf N md ns (i + 1) = esOf N md ns i ++ [mkE N md z] := by
  unfold esOf
  have hi : i < ns.length := by
    by_cases hh : i < ns.length
    · exact hh
    · rw [List.getElem?_eq_none (by omega)] at h; cases h
  rw [List.getElem?_eq_getElem hi] at h
  cases h
  rw [List.take_succ_eq_append_getElem hi, List.map_append]
  rfl
theorem esOf_len {N md : Int} {ns : List Int} {i : Nat} (h : i ≤ ns.length) : (esOf N md ns i).length = i := by simp [esOf]; omega
theorem ecOf_append : ∀ (a b : List E), ecOf (a ++ b) = ecOf a ++ ecOf b
  | [], _ => rfl
  | e :: a, b => by simp only [List.cons_append, ecOf, ecOf_append a b]
theorem eV_snoc (id : Nat) (l : List E) (e : E) : eV id (l ++ [e]) = sl id (l.length + 1) := by cases l <;> simp [eV]
theorem eB_snoc (id : Nat) (l : List E) (e : E) : eB id (l ++ [e]) = [(id, own (ecOf l ++ ecOf [e]) 31 4)] := by
  rw [← ecOf_append]
  cases l <;> rfl

theorem info31 : ∃ e, Tryd.prog.info? 31 = some e ∧ e.size = 4 ∧ e.bytes ≤ 1024 ∧ zeroOk e = true := ⟨_, rfl, by kernel_rfl, of_decide_eq_true (by kernel_rfl), by kernel_rfl⟩
theorem ap22 {id nw n : Nat} {x : Value} {es : List E} {new : List Value} (hx : lenV x = some n) (hn : n ≠ 0) (hl : es.length = nw) (hroom : nw + n ≤ 2 ^ 30) (hnew : new.all isCell = true) (hlen : new.length = n * 4) (M : Mem) (r : Nat × AR × Mem)
    (h : appIn Tryd.prog [22, 22] (sl id nw) x M (ecOf es) = some (own (ecOf es) 31 4, new, r)) : aappend Tryd.prog [22, 22] (sl id nw) x M = some r := by
  obtain ⟨e, h1, h2, h3, h4⟩ := info31
  exact ap_ok (P := Tryd.prog) (sT := 22) (xT := 22) (elem := 31) (xd := .slice 31) (e := e) Tryd.underlying22 Tryd.underlying22 rfl h1 hx hn rfl (by rw [h2]; exact takeN_all (by rw [ecOf_len, hl])) (roomy_ok (by omega) h3 h4 hroom) hnew (by rw [h2, hlen]) h2.symm rfl rfl rfl M r h

theorem specs15 (B : Nat) : SpecsOk Tryd.prog [] B SP15 := specs_ok fun p hp => by
  simp only [List.mem_singleton] at hp
  subst hp
  exact ok18 B

theorem resC_still (mv : Moves) : renL mv resC = some resC := renL_flat _ _ rfl

theorem fl15 (mv : Moves) (ns : List Int) (l : List E) : ∀ x ∈ [ints ns, resC, ecOf l], renL mv x = some x := fun x hx => by
  simp only [List.mem_cons, List.not_mem_nil, or_false] at hx
  rcases hx with rfl | rfl | rfl
  · exact renL_flat _ _ (ints_flat ns)
  · exact resC_still _
  · exact renL_flat _ _ (ecOf_flat _)

abbrev Goal15 (N md : Int) (e0 : Nat) (ns : List Int) (B i : Nat) : Prop :=
  ∃ SP n s1, SpecsOk Tryd.prog [] B SP ∧ s1.M.next ≤ 10 ∧
      ((∃ nx mv keep d', aexec Tryd.prog [] SP n loop15 (S15 N md e0 ns i) = some (.normal, s1) ∧ View 3 nx mv keep [2] [2] s1 (S15 N md e0 ns d') ∧ (d' ≤ ns.length ∧ d' ≤ 40) ∧ 40 - d' < 40 - i) ∨
        (∃ mv keep, aexec Tryd.prog [] SP n loop15 (S15 N md e0 ns i) = some (.exit 0, s1) ∧ View 3 10 mv keep [2] [2] s1 (end15 N e0 (ints ns) (eV 3 (makeE N md ns)) (eB 3 (makeE N md ns)))))

theorem close15 {N md : Int} {e0 : Nat} {ns : List Int} {B i : Nat} {z : Int} (hz : ns[i]? = some z) (hi : i < 40) {F : List Fact} {keep : List Nat} {newv : Value} {newb : List Value} {q : List QV}
    (hs : rnd15 (S15 N md e0 ns i) F 4 keep [(3, 6, true)] = some (.normal, some (I15 N md ns.length e0 (ints ns) (IntKind.wrap .i64 ((i : Int) + 1)) newv [(3, own newb 31 4)]), [ints ns, resC, newb], true, q))
    (hq : ∀ p ∈ q, p.holds Tryd.prog SP15 noDoors []) (hv : newv = sl 3 ((esOf N md ns i).length + 1)) (hb : newb = ecOf (esOf N md ns i) ++ ecOf [mkE N md z]) : Goal15 N md e0 ns B i := by
  subst hv; subst hb
  have hlt : i < ns.length := by
    by_cases hh : i < ns.length
    · exact hh
    · rw [List.getElem?_eq_none (by omega)] at hz; cases hz
  unfold rnd15 at hs
  obtain ⟨s1, k1, k2, k3⟩ := round_of (doors := noDoors) (ids := []) hs hq (fun l hl => by
    simp only [List.mem_cons, List.not_mem_nil, or_false] at hl
    rcases hl with rfl | rfl | rfl
    · exact renL_flat _ _ (ints_flat ns)
    · exact resC_still _
    · rw [← ecOf_append]; exact renL_flat _ _ (ecOf_flat _))
  have hiv : IntKind.wrap .i64 ((i : Int) + 1) = ((i + 1 : Nat) : Int) := by rw [IntWalk.i64_in _ (by omega)]; omega
  rw [hiv, ← eV_snoc 3 _ (mkE N md z), ← eB_snoc 3, ← esOf_succ hz] at k3
  exact ⟨SP15, 60, s1, specs15 B, k1, .inl ⟨4, _, keep, i + 1, k2, k3, by omega, by omega⟩⟩

theorem cq {SP : Specs} {a b : Int} (h : a = b) : (QV.b (a == b) (.val (.bool true))).holds Tryd.prog SP noDoors [] := by simp [QV.holds, h]
theorem cqf {SP : Specs} {a b : Int} (h : ¬ a = b) : (QV.b (a == b) (.val (.bool false))).holds Tryd.prog SP noDoors [] := by simp [QV.holds, h]
theorem dq {SP : Specs} {p : Prop} [Decidable p] {b : Bool} (h : decide p = b) : (QV.b (decide p) (.val (.bool b))).holds Tryd.prog SP noDoors [] := by simp [QV.holds, h]

theorem step15 (N md : Int) (hN : 0 < N ∧ N < 2 ^ 62) (e0 : Nat) (ns : List Int) (B i : Nat) (hi : i ≤ ns.length ∧ i ≤ 40) : Goal15 N md e0 ns B i := by
  by_cases hlt : i < ns.length
  · by_cases h4 : i < 40
    · obtain ⟨z, hz⟩ : ∃ z, ns[i]? = some z := ⟨ns[i], List.getElem?_eq_getElem hlt⟩
      have hlt3 : (QV.b (decide (((i : Nat) : Int) < (ns.length : Int))) (.val (.bool true))).holds Tryd.prog SP15 noDoors [] := dq (by simp; omega)
      have h40 : (QV.b (decide (((i : Nat) : Int) < 40)) (.val (.bool true))).holds Tryd.prog SP15 noDoors [] := dq (by simp; omega)
      have hib : (QV.ib (i : Int) ns.length).holds Tryd.prog SP15 noDoors [] := by simp only [QV.holds, inB, Bool.and_eq_true, decide_eq_true_eq]; omega
      have hld : (QV.ld 3 (0 + ((i : Nat) : Int).toNat * 1) (some (ro (ints ns) e0 1)) (.val (i64 z))).holds Tryd.prog SP15 noDoors [] := ⟨_, rfl, by rw [ld3]; simpa using ints_get hz⟩
      have hcf : ∀ x, (QV.cr 18 [i64 x, i64 N] [] (.val (i64 (modI x N)))).holds Tryd.prog SP15 noDoors [] := fun x M _ => call18 rfl x N hN.1 hN.2 _ rfl M
      have hlen := esOf_len (N := N) (md := md) hi.1
      have hap : ∀ {m c : Int}, i ≠ 0 → (QV.ap [22, 22] (sl 3 i) (.slice (some ⟨5, 0, none⟩) 1 2) (ecOf (esOf N md ns i)) (own (ecOf (esOf N md ns i)) 31 4) [i64 (modI z N), i64 (modI (IntKind.wrap .i64 (z.tdiv 13)) N), i64 m, i64 c]).holds Tryd.prog SP15 noDoors [] := fun _ M r hM =>
        ap22 (n := 1) rfl (by decide) hlen (by omega) rfl rfl M r hM
      have hS : i ≠ 0 → S15 N md e0 ns i = I15 N md ns.length e0 (ints ns) i (sl 3 i) [(3, own (ecOf (esOf N md ns i)) 31 4)] := fun h => by
        unfold S15
        cases hes : esOf N md ns i with
        | nil => rw [hes] at hlen; simp at hlen; omega
        | cons e l => rw [hes] at hlen; simp only [List.length_cons] at hlen; simp only [eV, eB, hlen]
      by_cases hi0 : i = 0
      · subst hi0
        by_cases h0 : modI md 3 = 0
        · by_cases hr : modI z 31 = 0
          · refine close15 hz h4 (st15_0Tn N md ((0 : Nat) : Int) z (modI z N) (modI (IntKind.wrap .i64 (z.tdiv 13)) N) ns.length e0 (ints ns)) (by simp only [List.forall_mem_cons]; exact ⟨hlt3, hlt3, hlt3, h40, hib, hld, hcf _, hcf _, cq h0, cq hr, by simp⟩) rfl (by simp [esOf, ecOf, mkE, h0, hr])
          · refine close15 hz h4 (st15_0Fn N md ((0 : Nat) : Int) z (modI z N) (modI (IntKind.wrap .i64 (z.tdiv 13)) N) ns.length e0 (ints ns)) (by simp only [List.forall_mem_cons]; exact ⟨hlt3, hlt3, hlt3, h40, hib, hld, hcf _, hcf _, cq h0, cqf hr, by simp⟩) rfl (by simp [esOf, ecOf, mkE, h0, hr])
        · by_cases h1 : modI md 3 = 1
          · by_cases hr : modI z 31 = 0
            · refine close15 hz h4 (st15_1Tn N md ((0 : Nat) : Int) z (modI z N) (modI (IntKind.wrap .i64 (z.tdiv 13)) N) ns.length e0 (ints ns)) (by simp only [List.forall_mem_cons]; exact ⟨hlt3, hlt3, hlt3, h40, hib, hld, hcf _, hcf _, cqf h0, cq h1, cq hr, by simp⟩) rfl (by simp [esOf, ecOf, mkE, h1, hr])
            · refine close15 hz h4 (st15_1Fn N md ((0 : Nat) : Int) z (modI z N) (modI (IntKind.wrap .i64 (z.tdiv 13)) N) ns.length e0 (ints ns)) (by simp only [List.forall_mem_cons]; exact ⟨hlt3, hlt3, hlt3, h40, hib, hld, hcf _, hcf _, cqf h0, cq h1, cqf hr, by simp⟩) rfl (by simp [esOf, ecOf, mkE, h1, hr])
          · by_cases hr : modI z 31 = 0
            · refine close15 hz h4 (st15_2Tn N md ((0 : Nat) : Int) z (modI z N) (modI (IntKind.wrap .i64 (z.tdiv 13)) N) ns.length e0 (ints ns)) (by simp only [List.forall_mem_cons]; exact ⟨hlt3, hlt3, hlt3, h40, hib, hld, hcf _, hcf _, cqf h0, cqf h1, cq hr, by simp⟩) rfl (by simp [esOf, ecOf, mkE, h0, h1, hr])
            · refine close15 hz h4 (st15_2Fn N md ((0 : Nat) : Int) z (modI z N) (modI (IntKind.wrap .i64 (z.tdiv 13)) N) ns.length e0 (ints ns)) (by simp only [List.forall_mem_cons]; exact ⟨hlt3, hlt3, hlt3, h40, hib, hld, hcf _, hcf _, cqf h0, cqf h1, cqf hr, by simp⟩) rfl (by simp [esOf, ecOf, mkE, h0, h1, hr])
      · have e1 := hS hi0
        by_cases h0 : modI md 3 = 0
        · by_cases hr : modI z 31 = 0
          · refine close15 hz h4 (by rw [e1]; exact st15_0To N md i z (modI z N) (modI (IntKind.wrap .i64 (z.tdiv 13)) N) ns.length i e0 (ints ns) _) (by simp only [List.forall_mem_cons]; exact ⟨hlt3, hlt3, hlt3, h40, hib, hld, hcf _, hcf _, cq h0, cq hr, hap hi0, by simp⟩) (by rw [hlen]) (by simp [ecOf, mkE, h0, hr])
          · refine close15 hz h4 (by rw [e1]; exact st15_0Fo N md i z (modI z N) (modI (IntKind.wrap .i64 (z.tdiv 13)) N) ns.length i e0 (ints ns) _) (by simp only [List.forall_mem_cons]; exact ⟨hlt3, hlt3, hlt3, h40, hib, hld, hcf _, hcf _, cq h0, cqf hr, hap hi0, by simp⟩) (by rw [hlen]) (by simp [ecOf, mkE, h0, hr])
        · by_cases h1 : modI md 3 = 1
          · by_cases hr : modI z 31 = 0
            · refine close15 hz h4 (by rw [e1]; exact st15_1To N md i z (modI z N) (modI (IntKind.wrap .i64 (z.tdiv 13)) N) ns.length i e0 (ints ns) _) (by simp only [List.forall_mem_cons]; exact ⟨hlt3, hlt3, hlt3, h40, hib, hld, hcf _, hcf _, cqf h0, cq h1, cq hr, hap hi0, by simp⟩) (by rw [hlen]) (by simp [ecOf, mkE, h1, hr])
            · refine close15 hz h4 (by rw [e1]; exact st15_1Fo N md i z (modI z N) (modI (IntKind.wrap .i64 (z.tdiv 13)) N) ns.length i e0 (ints ns) _) (by simp only [List.forall_mem_cons]; exact ⟨hlt3, hlt3, hlt3, h40, hib, hld, hcf _, hcf _, cqf h0, cq h1, cqf hr, hap hi0, by simp⟩) (by rw [hlen]) (by simp [ecOf, mkE, h1, hr])
          · by_cases hr : modI z 31 = 0
            · refine close15 hz h4 (by rw [e1]; exact st15_2To N md i z (modI z N) (modI (IntKind.wrap .i64 (z.tdiv 13)) N) ns.length i e0 (ints ns) _) (by simp only [List.forall_mem_cons]; exact ⟨hlt3, hlt3, hlt3, h40, hib, hld, hcf _, hcf _, cqf h0, cqf h1, cq hr, hap hi0, by simp⟩) (by rw [hlen]) (by simp [ecOf, mkE, h0, h1, hr])
            · refine close15 hz h4 (by rw [e1]; exact st15_2Fo N md i z (modI z N) (modI (IntKind.wrap .i64 (z.tdiv 13)) N) ns.length i e0 (ints ns) _) (by simp only [List.forall_mem_cons]; exact ⟨hlt3, hlt3, hlt3, h40, hib, hld, hcf _, hcf _, cqf h0, cqf h1, cqf hr, hap hi0, by simp⟩) (by rw [hlen]) (by simp [ecOf, mkE, h0, h1, hr])
    · have hi40 : i = 40 := by omega
      have hlt3 : (QV.b (decide (((i : Nat) : Int) < (ns.length : Int))) (.val (.bool true))).holds Tryd.prog SP15 noDoors [] := dq (by simp; omega)
      have h40 : (QV.b (decide (((i : Nat) : Int) < 40)) (.val (.bool false))).holds Tryd.prog SP15 noDoors [] := dq (by simp; omega)
      have hlen := esOf_len (N := N) (md := md) hi.1
      have hmk : makeE N md ns = esOf N md ns i := by rw [hi40]; rfl
      obtain ⟨e, l, hes⟩ : ∃ e l, esOf N md ns i = e :: l := by
        cases hes : esOf N md ns i with
        | nil => rw [hes] at hlen; simp at hlen; omega
        | cons e l => exact ⟨e, l, rfl⟩
      have hs := st15_Fo N md i ns.length (l.length + 1) e0 (ints ns) (ecOf (e :: l))
      unfold rnd15 at hs
      obtain ⟨s1, k1, k2, k3⟩ := round_of (doors := noDoors) (ids := []) hs (by simp only [qL, List.cons_append, List.nil_append, List.forall_mem_cons]; exact ⟨hlt3, hlt3, hlt3, h40, by simp⟩) (fl15 _ _ _)
      unfold Goal15 S15
      rw [hmk, hes]
      exact ⟨SP15, 60, s1, specs15 B, k1, .inr ⟨_, _, k2, k3⟩⟩
  · have hie : i = ns.length := by omega
    have hlt3 : (QV.b (decide (((i : Nat) : Int) < (ns.length : Int))) (.val (.bool false))).holds Tryd.prog SP15 noDoors [] := dq (by simp; omega)
    have hmk : makeE N md ns = esOf N md ns i := by
      unfold makeE esOf
      rw [List.take_of_length_le (by omega), List.take_of_length_le (by omega)]
    cases hes : esOf N md ns i with
    | nil =>
      have hs := st15_En N md i ns.length e0 (ints ns)
      unfold rnd15 at hs
      obtain ⟨s1, k1, k2, k3⟩ := round_of (doors := noDoors) (ids := []) hs (by simp only [qL, List.forall_mem_cons]; exact ⟨hlt3, hlt3, hlt3, by simp⟩) (fun l hl => by
        simp only [List.mem_cons, List.not_mem_nil, or_false] at hl
        rcases hl with rfl | rfl
        · exact renL_flat _ _ (ints_flat ns)
        · exact resC_still _)
      unfold Goal15 S15
      rw [hmk, hes]
      exact ⟨SP15, 60, s1, specs15 B, k1, .inr ⟨_, _, k2, k3⟩⟩
    | cons e l =>
      have hs := st15_Eo N md i ns.length (l.length + 1) e0 (ints ns) (ecOf (e :: l))
      unfold rnd15 at hs
      obtain ⟨s1, k1, k2, k3⟩ := round_of (doors := noDoors) (ids := []) hs (by simp only [qL, List.forall_mem_cons]; exact ⟨hlt3, hlt3, hlt3, by simp⟩) (fl15 _ _ _)
      unfold Goal15 S15
      rw [hmk, hes]
      exact ⟨SP15, 60, s1, specs15 B, k1, .inr ⟨_, _, k2, k3⟩⟩

def netV (N : Int) (id : Nat) (es : List E) : Value := .agg ⟨[i64 N, eV id es]⟩
def sizeN (sz : Int) : Int := 1 + modI sz 12
theorem sizeN_range (sz : Int) : 1 ≤ sizeN sz ∧ sizeN sz ≤ 12 := by
  have := modI_range (x := sz) (n := 12) (by decide)
  unfold sizeN; omega

theorem blk15 (N md : Int) (hN : 0 < N ∧ N < 2 ^ 62) (e0 : Nat) (ns : List Int) (B : Nat) :
    BlkOk Tryd.prog [] B 0 (loopG (.loop loop15) (door15 0) (S15 N md e0 ns 0) (.normal, end15 N e0 (ints ns) (eV 3 (makeE N md ns)) (eB 3 (makeE N md ns)))) := by
  refine loopG_ok (e := .exit 0) noNumP mixedP (S15 N md e0 ns) (fun d => d ≤ ns.length ∧ d ≤ 40) (fun d => 40 - d) (K := 10) (by intro h; cases h) ⟨Nat.zero_le _, by decide⟩ (by decide) rfl rfl rfl ?_ (fun d hd => step15 N md hN e0 ns B d hd)
  intro id hid hn
  have : id < 3 := hid
  have h3 : id = 0 ∨ id = 1 := by
    simp only [door15, List.mem_cons, List.not_mem_nil, or_false] at hn
    omega
  show (blkTree (blks15 N e0 (ints ns) _ (eB 3 (makeE N md ns)))).get id = (blkTree (blks15 N e0 (ints ns) _ [])).get id
  cases makeE N md ns with
  | nil => rcases h3 with rfl | rfl <;> rfl
  | cons e l => rcases h3 with rfl | rfl <;> rfl

theorem arun15n (sz md : Int) : ∃ M', arun Tryd.prog [] SP15 60 15 [i64 sz, .slice none 0 0, i64 md] (startMem [] 0) = some (netV (sizeN sz) 0 [], M') := by
  have hN := sizeN_range sz
  have hw : IntKind.wrap .i64 (1 + modI sz 12) = sizeN sz := by unfold sizeN at hN; rw [IntWalk.i64_in _ (by omega)]; rfl
  have hx := run15n md sz
  unfold run15 at hx
  obtain ⟨M', k1, _⟩ := run_of (look := fun M => M.get 3) Tryd.func15 body15 (by kernel_rfl) hx (.inr rfl) (by simp)
  rw [hw] at k1
  exact ⟨M', k1⟩

theorem arun15 (sz md : Int) (e0 : Nat) (ns : List Int) : ∃ SP M', (∀ B, SpecsOk Tryd.prog [] B SP) ∧ arun Tryd.prog [] SP 60 15 [i64 sz, sl 0 ns.length, i64 md] (startMem [(0, ro (ints ns) e0 1)] 1) = some (netV (sizeN sz) 3 (makeE (sizeN sz) md ns), M') ∧
    ∀ e l, makeE (sizeN sz) md ns = e :: l → M'.get 3 = some (own (ecOf (e :: l)) 31 4) := by
  have hN := sizeN_range sz
  have hw : IntKind.wrap .i64 (1 + modI sz 12) = sizeN sz := by unfold sizeN at hN; rw [IntWalk.i64_in _ (by omega)]; rfl
  let g := loopG (.loop loop15) (door15 0) (S15 (sizeN sz) md e0 ns 0) (.normal, end15 (sizeN sz) e0 (ints ns) (eV 3 (makeE (sizeN sz) md ns)) (eB 3 (makeE (sizeN sz) md ns)))
  have hSP : ∀ B, SpecsOk Tryd.prog [] B (specsB [(18, g18)] [(0, g)]) := fun B => specsB_ok (fun p hp => by
      simp only [List.mem_singleton] at hp; subst hp; exact ok18 B) (fun p hp => by
      simp only [List.mem_singleton] at hp; subst hp; exact blk15 (sizeN sz) md (by omega) e0 ns B)
  refine ⟨specsB [(18, g18)] [(0, g)], ?_⟩
  have hq : ∀ t, t = end15 (sizeN sz) e0 (ints ns) (eV 3 (makeE (sizeN sz) md ns)) (eB 3 (makeE (sizeN sz) md ns)) → ∀ p ∈ qE md ns.length e0 (ints ns) (sizeN sz) t, p.holds Tryd.prog (specsB [(18, g18)] [(0, g)]) door15 [] := fun t ht p hp => by
    simp only [qE, List.mem_singleton] at hp
    subst hp; subst ht
    refine ⟨S15 (sizeN sz) md e0 ns 0, rfl, rfl, rfl, rfl, fun l hl => ?_, rfl⟩
    simp only [List.mem_cons, List.not_mem_nil, or_false] at hl
    rcases hl with rfl | rfl
    · exact renL_flat _ _ (ints_flat ns)
    · exact resC_still _
  cases hes : makeE (sizeN sz) md ns with
  | nil =>
    have hx := run15a md ns.length e0 (ints ns) sz g
    unfold run15 at hx
    rw [hw] at hx
    obtain ⟨M', k1, _⟩ := run_of (look := fun M => M.get 3) Tryd.func15 body15 (by kernel_rfl) hx (.inr rfl) (hq _ (by rw [hes]; rfl))
    exact ⟨M', hSP, k1, fun e l h => by cases h⟩
  | cons e l =>
    have hx := run15b md ns.length (l.length + 1) e0 (ints ns) (ecOf (e :: l)) sz g
    unfold run15 at hx
    rw [hw] at hx
    obtain ⟨M', k1, k2⟩ := run_of (look := fun M => M.get 3) Tryd.func15 body15 (by kernel_rfl) hx (.inr rfl) (hq _ (by rw [hes]; rfl))
    exact ⟨M', hSP, k1, fun e' l' h => by cases h; exact k2⟩

def out15 (M : Mem) (N : Int) : List E → Value × Mem
  | [] => (netV N 0 [], M)
  | e :: l => (netV N M.next (e :: l), M.alloc (own (ecOf (e :: l)) 31 4))
def g15 (args : List Value) (M : Mem) : Option (Value × Mem) :=
  match args with
  | [.int .i64 sz, .slice none 0 0, .int .i64 _] => some (netV (sizeN sz) 0 [], M)
  | [.int .i64 sz, .slice (some ⟨a, o, none⟩) nl _, .int .i64 md] =>
    match M.get a with
    | some A => match ints? ((A.cs.drop o).take nl) with
      | some ns => bif Nat.beq ns.length nl && Nat.ble (o + nl) A.cs.length && Nat.beq A.esz 1 then some (out15 M (sizeN sz) (makeE (sizeN sz) md ns)) else none
      | none => none
    | none => none
  | _ => none

theorem ok15 (B : Nat) : SpecOk Tryd.prog [] B 15 g15 := by
  refine SpecOk.ofStart noNumP mixedP fun args M v M' h => ?_
  unfold g15 at h
  split at h <;> try (cases h; done)
  · rename_i sz md
    cases h
    obtain ⟨M0, hrun⟩ := arun15n sz md
    refine ⟨[], 60, SP15, _, _, M0, [], none, specs15, hrun, fun p hp => (by cases hp), fun φ φ0 args' hl ha => ?_, rfl, rfl, rfl⟩
    have := ha.of_flat rfl
    rw [this]
    exact LRel.refl_flat _ _ rfl
  · rename_i sz a o nl ca md
    split at h <;> try (cases h; done)
    rename_i A hA
    split at h <;> try (cases h; done)
    rename_i ns hns
    cases hk : (Nat.beq ns.length nl && Nat.ble (o + nl) A.cs.length && Nat.beq A.esz 1) <;> rw [hk] at h <;> simp only [cond_true, cond_false] at h
    · cases h
    simp only [Bool.and_eq_true] at hk
    obtain ⟨⟨k1, k2⟩, k3⟩ := hk
    have k1 := Nat.eq_of_beq_eq_true k1
    have k2 := Nat.le_of_ble_eq_true k2
    have k3 := Nat.eq_of_beq_eq_true k3
    subst k1
    have hA' := of_ints? hns
    obtain ⟨SP, M0, hSP, hrun, hres⟩ := arun15 sz md A.elem ns
    have hsh : ∃ v M', some (v, M') = some (out15 M (sizeN sz) (makeE (sizeN sz) md ns)) ∧ ∃ res, (match res with
      | none => flat (netV (sizeN sz) 3 (makeE (sizeN sz) md ns)) = true ∧ v = netV (sizeN sz) 3 (makeE (sizeN sz) md ns) ∧ M' = M
      | some (i, rb) => 1 ≤ i ∧ M0.get i = some rb ∧ rb.app = true ∧ flatL rb.cs = true ∧ renV [(M.next, i, true)] (netV (sizeN sz) 3 (makeE (sizeN sz) md ns)) = some v ∧ M' = M.alloc rb) := by
      cases hw : makeE (sizeN sz) md ns with
      | nil => exact ⟨_, _, rfl, none, rfl, rfl, rfl⟩
      | cons e l => exact ⟨_, _, rfl, some (3, own (ecOf (e :: l)) 31 4), by decide, hres e l hw, rfl, ecOf_flat _, rfl, rfl⟩
    obtain ⟨v1, M1, h1, res, h2⟩ := hsh
    rw [h] at h1
    cases h1
    refine ⟨[(0, ro (ints ns) A.elem 1)], 60, SP, _, _, M0, [(a, o)], res, hSP, hrun, fun p hp => ?_, fun φ φ0 args' hl ha => ?_, h2⟩
    · simp only [List.mem_singleton] at hp
      subst hp
      refine ⟨rfl, rfl, ints_flat ns, a, o, A, rfl, hA, rfl, k3, by simp only [ints_len]; exact k2, fun j u hu => ?_⟩
      rw [show ints ns = _ from hA'.symm] at hu
      exact take_get hu
    · cases ha with
      | cons h0 ha =>
        cases ha with
        | cons h1 ha =>
          cases ha with
          | cons h2 ha =>
            cases ha
            obtain rfl := h0.int_inv
            obtain rfl := h2.int_inv
            exact .cons (VRel.refl_flat _ _ rfl) (.cons (slice_lies hl rfl h1) (.cons (VRel.refl_flat _ _ rfl) .nil))
end Go.Proofs.YtlmifmodnkhidaaDoor
