/-
  NetWalks: whether any edges are a walk, its cost and its word, are the document's: of any network of at most twelve vertices that is made of the numbers handed in, and of any rows of edges, of at most sixty where they are handed in; the answer is true for every argument.
-/
import Derived.Test.YtlmifmodnkhidaaDoorGW34
import Derived.Test.YtlmifmodnkhidaaDoorGW26
open Go Go.Am Go.Proofs
namespace Go.Proofs.YtlmifmodnkhidaaDoor
set_option maxRecDepth 10000

/- NetWalks: the rows and the ends are tried. -/
noncomputable def loopQ7 : Code := unloop ((inner 4 100 B7).get!)
noncomputable def loopK7 : Code := unloop ((inner 6 100 B7).get!)
def blksF (N : Int) (nv rv lv : Value) (r : List (Nat × ABlk)) (n2 c2 : Nat) (tc : List Value) (en t1 tt at0 : Int) : List (Nat × ABlk) :=
  [(4, own [i64 N, nv] 24 2)] ++ r ++ [(18, own tc 3 1), (19, own [lv, rv, .slice (some ⟨18, 0, none⟩) n2 c2, .slice none 0 0] 25 1), (20, own [i64 en, i64 t1, i64 tt, i64 at0] 3 1)]
def K7 (lg : List Nat) (N fr tt at0 en t1 : Int) (nv rv lv : Value) (r : List (Nat × ABlk)) (n2 c2 : Nat) (tc : List Value) (iv kv : Int) (nx : Nat) : St :=
  ⟨tabT [(2, i64 fr), (3, i64 tt), (13, .pointer (some ⟨4, 0, none⟩)), (14, i64 at0), (15, lv), (16, i64 en), (20, .slice (some ⟨19, 0, none⟩) 4 5), (21, .slice (some ⟨20, 0, none⟩) 4 5), (22, i64 iv), (23, i64 kv)], 213,
    ⟨blkTree (blksF N nv rv lv r n2 c2 tc en t1 tt at0), nx, [], [0, 1, 4, 16, 17] ++ ([0, 1, 4, 16, 17] ++ lg)⟩⟩
def Q7 (lg : List Nat) (N fr tt at0 en t1 : Int) (nv rv lv : Value) (r : List (Nat × ABlk)) (n2 c2 : Nat) (tc : List Value) (iv : Int) (nx : Nat) : St :=
  ⟨tabT [(2, i64 fr), (3, i64 tt), (13, .pointer (some ⟨4, 0, none⟩)), (14, i64 at0), (15, lv), (16, i64 en), (20, .slice (some ⟨19, 0, none⟩) 4 5), (21, .slice (some ⟨20, 0, none⟩) 4 5), (22, i64 iv)], 213,
    ⟨blkTree (blksF N nv rv lv r n2 c2 tc en t1 tt at0), nx, [], [0, 1, 4, 16, 17] ++ lg⟩⟩
def keepK7 : List Nat := [2, 3, 13, 14, 15, 16, 20, 21, 22, 23]
def keepQ7 : List Nat := [2, 3, 13, 14, 15, 16, 20, 21, 22]
def mvF (l : Moves) : Moves := [(4, 4, true)] ++ l ++ [(18, 18, true), (19, 19, true), (20, 20, true)]
def doorF (lg : List Nat) (l : Moves) : Nat → Door
  | 6 => ⟨21, 21, mvF l, keepK7, [0, 1, 4, 16, 17], [0, 1, 4, 16, 17] ++ lg⟩
  | _ => ⟨21, 21, mvF l, keepQ7, [0, 1, 4, 16, 17], lg⟩
noncomputable def rndK7 (lg ids : List Nat) (s : St) (F : List Fact) (nx : Nat) (l : Moves) :=
  (hexec Tryd.prog [] (SP7 []) 60 loopK7 s F 0).map (fun r => (r.1.1, rebase 21 nx (mvF l) keepK7 [0, 1, 4, 16, 17] ([0, 1, 4, 16, 17] ++ lg) r.1.2, stills r.1.2.M (mvF l), Nat.ble r.1.2.M.next 24, r.2.2.2.map (view noDoors ids)))
noncomputable def rndQ7 (lg : List Nat) (dl : Moves) (g : Code → St → Option (AExit × St)) (s : St) (F : List Fact) (nx : Nat) (l : Moves) :=
  (hexec Tryd.prog [] (SP7 [(6, g)]) 60 loopQ7 s F 0).map (fun r => (r.1.1, rebase 21 nx (mvF l) keepQ7 [0, 1, 4, 16, 17] lg r.1.2, stills r.1.2.M (mvF l), Nat.ble r.1.2.M.next 24, r.2.2.2.map (view (doorF lg dl) [])))
theorem tk_nnnn (n2 c2 : Nat) (tc : List Value) (N fr tt at0 en t1 iv kv x c : Int) (bw : Bool) (row : Value) : rndK7 [0, 4, 4] [2, 3, 5, 18, 21, 22] (K7 [0, 4, 4] N fr tt at0 en t1 (.slice none 0 0) (.slice none 0 0) (.slice none 0 0) ([] ++ [] ++ []) n2 c2 tc iv (kv) 21) [tru 8, tru 18, got 20 (i64 x), tru 26, got 28 (row), got 30 (.tuple ⟨[i64 c, (.slice none 0 0), .bool bw]⟩), tru 54, got 56 (i64 x), tru 62, got 64 (row), got 66 (.tuple ⟨[i64 c, (.slice none 0 0), .bool bw]⟩), fls 89, fls 91, fls 93, fls 96, fls 99, fls 101, fls 103, got 104 (.bool true), fls 105, fls 108] 21 ([] ++ [] ++ []) = some (.normal, some (K7 [0, 4, 4] N fr tt at0 en t1 (.slice none 0 0) (.slice none 0 0) (.slice none 0 0) ([] ++ [] ++ []) n2 c2 tc iv (IntKind.wrap .i64 (kv + 1)) 21), [[i64 N, (.slice none 0 0)]] ++ ([] ++ [] ++ []) ++ [tc, [(.slice none 0 0), (.slice none 0 0), .slice (some ⟨18, 0, none⟩) n2 c2, .slice none 0 0], [i64 en, i64 t1, i64 tt, i64 at0]], true, [.b (decide (kv < (4 : Int))) (.val (.bool true)), .ib kv 4, .ld 3 (0 + kv.toNat * 1) (some (own [i64 en, i64 t1, i64 tt, i64 at0] 3 1)) (.val (i64 x)), .ib iv 4, .ld 25 (0 + iv.toNat * 1) (some (own [(.slice none 0 0), (.slice none 0 0), .slice (some ⟨18, 0, none⟩) n2 c2, .slice none 0 0] 25 1)) (.val row), .cr 24 [.agg ⟨[i64 N, (.slice none 0 0)]⟩, i64 at0, i64 x, row] [none, none, none, some (own tc 3 1), none, none] (.val (.tuple ⟨[i64 c, (.slice none 0 0), .bool bw]⟩)), .ib kv 4, .ld 3 (0 + kv.toNat * 1) (some (own [i64 en, i64 t1, i64 tt, i64 at0] 3 1)) (.val (i64 x)), .ib iv 4, .ld 25 (0 + iv.toNat * 1) (some (own [(.slice none 0 0), (.slice none 0 0), .slice (some ⟨18, 0, none⟩) n2 c2, .slice none 0 0] 25 1)) (.val row), .cr 25 [.agg ⟨[i64 N, (.slice none 0 0)]⟩, i64 at0, i64 x, row] [none, none, none, some (own tc 3 1), none, none] (.val (.tuple ⟨[i64 c, (.slice none 0 0), .bool bw]⟩)), .b ((c != c)) (.val (.bool false)), .b ((c != c)) (.val (.bool false)), .b ((c != c)) (.val (.bool false)), .b ((c != c)) (.val (.bool false)), .b ((bw != bw)) (.val (.bool false)), .b ((bw != bw)) (.val (.bool false)), .b ((bw != bw)) (.val (.bool false)), .cr 26 [(.slice none 0 0), (.slice none 0 0)] [none, none, none, some (own tc 3 1), none, none] (.val (.bool true)), .b ((bw != bw)) (.val (.bool false)), .b ((bw != bw)) (.val (.bool false))]) := by kernel_rfl
theorem tk_nnns (n2 c2 nw : Nat) (tc wc : List Value) (N fr tt at0 en t1 iv kv x c : Int) (row : Value) : rndK7 [0, 4, 4] [2, 3, 5, 18, 21, 22] (K7 [0, 4, 4] N fr tt at0 en t1 (.slice none 0 0) (.slice none 0 0) (.slice none 0 0) ([] ++ [] ++ []) n2 c2 tc iv (kv) 21) [tru 8, tru 18, got 20 (i64 x), tru 26, got 28 (row), madeB 30 (.tuple ⟨[i64 c, sl 21 nw, .bool true]⟩) (own wc 3 1), tru 54, got 56 (i64 x), tru 62, got 64 (row), madeB 66 (.tuple ⟨[i64 c, sl 22 nw, .bool true]⟩) (own wc 3 1), fls 89, fls 91, fls 93, fls 96, got 104 (.bool true)] 21 ([] ++ [] ++ []) = some (.normal, some (K7 [0, 4, 4] N fr tt at0 en t1 (.slice none 0 0) (.slice none 0 0) (.slice none 0 0) ([] ++ [] ++ []) n2 c2 tc iv (IntKind.wrap .i64 (kv + 1)) 21), [[i64 N, (.slice none 0 0)]] ++ ([] ++ [] ++ []) ++ [tc, [(.slice none 0 0), (.slice none 0 0), .slice (some ⟨18, 0, none⟩) n2 c2, .slice none 0 0], [i64 en, i64 t1, i64 tt, i64 at0]], true, [.b (decide (kv < (4 : Int))) (.val (.bool true)), .ib kv 4, .ld 3 (0 + kv.toNat * 1) (some (own [i64 en, i64 t1, i64 tt, i64 at0] 3 1)) (.val (i64 x)), .ib iv 4, .ld 25 (0 + iv.toNat * 1) (some (own [(.slice none 0 0), (.slice none 0 0), .slice (some ⟨18, 0, none⟩) n2 c2, .slice none 0 0] 25 1)) (.val row), .ca 24 [.agg ⟨[i64 N, (.slice none 0 0)]⟩, i64 at0, i64 x, row] [none, none, none, some (own tc 3 1), none, none] 21 (.val (.tuple ⟨[i64 c, sl 21 nw, .bool true]⟩)) (own wc 3 1), .ib kv 4, .ld 3 (0 + kv.toNat * 1) (some (own [i64 en, i64 t1, i64 tt, i64 at0] 3 1)) (.val (i64 x)), .ib iv 4, .ld 25 (0 + iv.toNat * 1) (some (own [(.slice none 0 0), (.slice none 0 0), .slice (some ⟨18, 0, none⟩) n2 c2, .slice none 0 0] 25 1)) (.val row), .ca 25 [.agg ⟨[i64 N, (.slice none 0 0)]⟩, i64 at0, i64 x, row] [none, none, none, some (own tc 3 1), some (own wc 3 1), none] 22 (.val (.tuple ⟨[i64 c, sl 22 nw, .bool true]⟩)) (own wc 3 1), .b ((c != c)) (.val (.bool false)), .b ((c != c)) (.val (.bool false)), .b ((c != c)) (.val (.bool false)), .b ((c != c)) (.val (.bool false)), .cr 26 [sl 21 nw, sl 22 nw] [none, none, none, some (own tc 3 1), some (own wc 3 1), some (own wc 3 1)] (.val (.bool true))]) := by kernel_rfl
theorem tk_nnnE (n2 c2 : Nat) (tc : List Value) (N fr tt at0 en t1 iv kv : Int) : rndK7 [0, 4, 4] [2, 3, 5, 18, 21, 22] (K7 [0, 4, 4] N fr tt at0 en t1 (.slice none 0 0) (.slice none 0 0) (.slice none 0 0) ([] ++ [] ++ []) n2 c2 tc iv (kv) 21) [fls 8] 24 ([] ++ [] ++ []) = some (.exit 6, some (K7 [0, 4, 4] N fr tt at0 en t1 (.slice none 0 0) (.slice none 0 0) (.slice none 0 0) ([] ++ [] ++ []) n2 c2 tc iv (kv) 24), [[i64 N, (.slice none 0 0)]] ++ ([] ++ [] ++ []) ++ [tc, [(.slice none 0 0), (.slice none 0 0), .slice (some ⟨18, 0, none⟩) n2 c2, .slice none 0 0], [i64 en, i64 t1, i64 tt, i64 at0]], true, [.b (decide (kv < (4 : Int))) (.val (.bool false))]) := by kernel_rfl
theorem tq_nnnT (n2 c2 : Nat) (tc : List Value) (N fr tt at0 en t1 iv : Int) (g : Code → St → Option (AExit × St)) : rndQ7 [0, 4, 4] ([] ++ [] ++ []) g (Q7 [0, 4, 4] N fr tt at0 en t1 (.slice none 0 0) (.slice none 0 0) (.slice none 0 0) ([] ++ [] ++ []) n2 c2 tc (iv) 21) [tru 8, past 11 .normal (K7 [0, 4, 4] N fr tt at0 en t1 (.slice none 0 0) (.slice none 0 0) (.slice none 0 0) ([] ++ [] ++ []) n2 c2 tc iv (4) 24)] 21 ([] ++ [] ++ []) = some (.normal, some (Q7 [0, 4, 4] N fr tt at0 en t1 (.slice none 0 0) (.slice none 0 0) (.slice none 0 0) ([] ++ [] ++ []) n2 c2 tc (IntKind.wrap .i64 (iv + 1)) 21), [[i64 N, (.slice none 0 0)]] ++ ([] ++ [] ++ []) ++ [tc, [(.slice none 0 0), (.slice none 0 0), .slice (some ⟨18, 0, none⟩) n2 c2, .slice none 0 0], [i64 en, i64 t1, i64 tt, i64 at0]], true, [.b (decide (iv < (4 : Int))) (.val (.bool true)), .bk 6 (.loop loopK7) 21 ([0, 1, 4, 16, 17] ++ [0, 4, 4]) (some (K7 [0, 4, 4] N fr tt at0 en t1 (.slice none 0 0) (.slice none 0 0) (.slice none 0 0) ([] ++ [] ++ []) n2 c2 tc iv (0) 21)) ([[i64 N, (.slice none 0 0)]] ++ ([] ++ [] ++ []) ++ [tc, [(.slice none 0 0), (.slice none 0 0), .slice (some ⟨18, 0, none⟩) n2 c2, .slice none 0 0], [i64 en, i64 t1, i64 tt, i64 at0]]) true .normal (K7 [0, 4, 4] N fr tt at0 en t1 (.slice none 0 0) (.slice none 0 0) (.slice none 0 0) ([] ++ [] ++ []) n2 c2 tc iv (4) 24)]) := by kernel_rfl
theorem tq_nnnE (n2 c2 : Nat) (tc : List Value) (N fr tt at0 en t1 iv : Int) (g : Code → St → Option (AExit × St)) : rndQ7 [0, 4, 4] ([] ++ [] ++ []) g (Q7 [0, 4, 4] N fr tt at0 en t1 (.slice none 0 0) (.slice none 0 0) (.slice none 0 0) ([] ++ [] ++ []) n2 c2 tc (iv) 21) [fls 8] 24 ([] ++ [] ++ []) = some (.exit 4, some (Q7 [0, 4, 4] N fr tt at0 en t1 (.slice none 0 0) (.slice none 0 0) (.slice none 0 0) ([] ++ [] ++ []) n2 c2 tc (iv) 24), [[i64 N, (.slice none 0 0)]] ++ ([] ++ [] ++ []) ++ [tc, [(.slice none 0 0), (.slice none 0 0), .slice (some ⟨18, 0, none⟩) n2 c2, .slice none 0 0], [i64 en, i64 t1, i64 tt, i64 at0]], true, [.b (decide (iv < (4 : Int))) (.val (.bool false))]) := by kernel_rfl
theorem tk_nsnn (nr n2 c2 e2 : Nat) (rc tc : List Value) (N fr tt at0 en t1 iv kv x c : Int) (bw : Bool) (row : Value) : rndK7 [0, 4, 4] [2, 3, 5, 18, 21, 22] (K7 [0, 4, 4] N fr tt at0 en t1 (.slice none 0 0) (sl 2 nr) (.slice none 0 0) ([(2, ro rc e2 1)] ++ [] ++ []) n2 c2 tc iv (kv) 21) [tru 8, tru 18, got 20 (i64 x), tru 26, got 28 (row), got 30 (.tuple ⟨[i64 c, (.slice none 0 0), .bool bw]⟩), tru 54, got 56 (i64 x), tru 62, got 64 (row), got 66 (.tuple ⟨[i64 c, (.slice none 0 0), .bool bw]⟩), fls 89, fls 91, fls 93, fls 96, fls 99, fls 101, fls 103, got 104 (.bool true), fls 105, fls 108] 21 ([(2, 2, true)] ++ [] ++ []) = some (.normal, some (K7 [0, 4, 4] N fr tt at0 en t1 (.slice none 0 0) (sl 2 nr) (.slice none 0 0) ([(2, ro rc e2 1)] ++ [] ++ []) n2 c2 tc iv (IntKind.wrap .i64 (kv + 1)) 21), [[i64 N, (.slice none 0 0)]] ++ ([rc] ++ [] ++ []) ++ [tc, [(.slice none 0 0), (sl 2 nr), .slice (some ⟨18, 0, none⟩) n2 c2, .slice none 0 0], [i64 en, i64 t1, i64 tt, i64 at0]], true, [.b (decide (kv < (4 : Int))) (.val (.bool true)), .ib kv 4, .ld 3 (0 + kv.toNat * 1) (some (own [i64 en, i64 t1, i64 tt, i64 at0] 3 1)) (.val (i64 x)), .ib iv 4, .ld 25 (0 + iv.toNat * 1) (some (own [(.slice none 0 0), (sl 2 nr), .slice (some ⟨18, 0, none⟩) n2 c2, .slice none 0 0] 25 1)) (.val row), .cr 24 [.agg ⟨[i64 N, (.slice none 0 0)]⟩, i64 at0, i64 x, row] [some (ro rc e2 1), none, none, some (own tc 3 1), none, none] (.val (.tuple ⟨[i64 c, (.slice none 0 0), .bool bw]⟩)), .ib kv 4, .ld 3 (0 + kv.toNat * 1) (some (own [i64 en, i64 t1, i64 tt, i64 at0] 3 1)) (.val (i64 x)), .ib iv 4, .ld 25 (0 + iv.toNat * 1) (some (own [(.slice none 0 0), (sl 2 nr), .slice (some ⟨18, 0, none⟩) n2 c2, .slice none 0 0] 25 1)) (.val row), .cr 25 [.agg ⟨[i64 N, (.slice none 0 0)]⟩, i64 at0, i64 x, row] [some (ro rc e2 1), none, none, some (own tc 3 1), none, none] (.val (.tuple ⟨[i64 c, (.slice none 0 0), .bool bw]⟩)), .b ((c != c)) (.val (.bool false)), .b ((c != c)) (.val (.bool false)), .b ((c != c)) (.val (.bool false)), .b ((c != c)) (.val (.bool false)), .b ((bw != bw)) (.val (.bool false)), .b ((bw != bw)) (.val (.bool false)), .b ((bw != bw)) (.val (.bool false)), .cr 26 [(.slice none 0 0), (.slice none 0 0)] [some (ro rc e2 1), none, none, some (own tc 3 1), none, none] (.val (.bool true)), .b ((bw != bw)) (.val (.bool false)), .b ((bw != bw)) (.val (.bool false))]) := by kernel_rfl
theorem tk_nsns (nr n2 c2 e2 nw : Nat) (rc tc wc : List Value) (N fr tt at0 en t1 iv kv x c : Int) (row : Value) : rndK7 [0, 4, 4] [2, 3, 5, 18, 21, 22] (K7 [0, 4, 4] N fr tt at0 en t1 (.slice none 0 0) (sl 2 nr) (.slice none 0 0) ([(2, ro rc e2 1)] ++ [] ++ []) n2 c2 tc iv (kv) 21) [tru 8, tru 18, got 20 (i64 x), tru 26, got 28 (row), madeB 30 (.tuple ⟨[i64 c, sl 21 nw, .bool true]⟩) (own wc 3 1), tru 54, got 56 (i64 x), tru 62, got 64 (row), madeB 66 (.tuple ⟨[i64 c, sl 22 nw, .bool true]⟩) (own wc 3 1), fls 89, fls 91, fls 93, fls 96, got 104 (.bool true)] 21 ([(2, 2, true)] ++ [] ++ []) = some (.normal, some (K7 [0, 4, 4] N fr tt at0 en t1 (.slice none 0 0) (sl 2 nr) (.slice none 0 0) ([(2, ro rc e2 1)] ++ [] ++ []) n2 c2 tc iv (IntKind.wrap .i64 (kv + 1)) 21), [[i64 N, (.slice none 0 0)]] ++ ([rc] ++ [] ++ []) ++ [tc, [(.slice none 0 0), (sl 2 nr), .slice (some ⟨18, 0, none⟩) n2 c2, .slice none 0 0], [i64 en, i64 t1, i64 tt, i64 at0]], true, [.b (decide (kv < (4 : Int))) (.val (.bool true)), .ib kv 4, .ld 3 (0 + kv.toNat * 1) (some (own [i64 en, i64 t1, i64 tt, i64 at0] 3 1)) (.val (i64 x)), .ib iv 4, .ld 25 (0 + iv.toNat * 1) (some (own [(.slice none 0 0), (sl 2 nr), .slice (some ⟨18, 0, none⟩) n2 c2, .slice none 0 0] 25 1)) (.val row), .ca 24 [.agg ⟨[i64 N, (.slice none 0 0)]⟩, i64 at0, i64 x, row] [some (ro rc e2 1), none, none, some (own tc 3 1), none, none] 21 (.val (.tuple ⟨[i64 c, sl 21 nw, .bool true]⟩)) (own wc 3 1), .ib kv 4, .ld 3 (0 + kv.toNat * 1) (some (own [i64 en, i64 t1, i64 tt, i64 at0] 3 1)) (.val (i64 x)), .ib iv 4, .ld 25 (0 + iv.toNat * 1) (some (own [(.slice none 0 0), (sl 2 nr), .slice (some ⟨18, 0, none⟩) n2 c2, .slice none 0 0] 25 1)) (.val row), .ca 25 [.agg ⟨[i64 N, (.slice none 0 0)]⟩, i64 at0, i64 x, row] [some (ro rc e2 1), none, none, some (own tc 3 1), some (own wc 3 1), none] 22 (.val (.tuple ⟨[i64 c, sl 22 nw, .bool true]⟩)) (own wc 3 1), .b ((c != c)) (.val (.bool false)), .b ((c != c)) (.val (.bool false)), .b ((c != c)) (.val (.bool false)), .b ((c != c)) (.val (.bool false)), .cr 26 [sl 21 nw, sl 22 nw] [some (ro rc e2 1), none, none, some (own tc 3 1), some (own wc 3 1), some (own wc 3 1)] (.val (.bool true))]) := by kernel_rfl
theorem tk_nsnE (nr n2 c2 e2 : Nat) (rc tc : List Value) (N fr tt at0 en t1 iv kv : Int) : rndK7 [0, 4, 4] [2, 3, 5, 18, 21, 22] (K7 [0, 4, 4] N fr tt at0 en t1 (.slice none 0 0) (sl 2 nr) (.slice none 0 0) ([(2, ro rc e2 1)] ++ [] ++ []) n2 c2 tc iv (kv) 21) [fls 8] 24 ([(2, 2, true)] ++ [] ++ []) = some (.exit 6, some (K7 [0, 4, 4] N fr tt at0 en t1 (.slice none 0 0) (sl 2 nr) (.slice none 0 0) ([(2, ro rc e2 1)] ++ [] ++ []) n2 c2 tc iv (kv) 24), [[i64 N, (.slice none 0 0)]] ++ ([rc] ++ [] ++ []) ++ [tc, [(.slice none 0 0), (sl 2 nr), .slice (some ⟨18, 0, none⟩) n2 c2, .slice none 0 0], [i64 en, i64 t1, i64 tt, i64 at0]], true, [.b (decide (kv < (4 : Int))) (.val (.bool false))]) := by kernel_rfl
theorem tq_nsnT (nr n2 c2 e2 : Nat) (rc tc : List Value) (N fr tt at0 en t1 iv : Int) (g : Code → St → Option (AExit × St)) : rndQ7 [0, 4, 4] ([(2, 2, true)] ++ [] ++ []) g (Q7 [0, 4, 4] N fr tt at0 en t1 (.slice none 0 0) (sl 2 nr) (.slice none 0 0) ([(2, ro rc e2 1)] ++ [] ++ []) n2 c2 tc (iv) 21) [tru 8, past 11 .normal (K7 [0, 4, 4] N fr tt at0 en t1 (.slice none 0 0) (sl 2 nr) (.slice none 0 0) ([(2, ro rc e2 1)] ++ [] ++ []) n2 c2 tc iv (4) 24)] 21 ([(2, 2, true)] ++ [] ++ []) = some (.normal, some (Q7 [0, 4, 4] N fr tt at0 en t1 (.slice none 0 0) (sl 2 nr) (.slice none 0 0) ([(2, ro rc e2 1)] ++ [] ++ []) n2 c2 tc (IntKind.wrap .i64 (iv + 1)) 21), [[i64 N, (.slice none 0 0)]] ++ ([rc] ++ [] ++ []) ++ [tc, [(.slice none 0 0), (sl 2 nr), .slice (some ⟨18, 0, none⟩) n2 c2, .slice none 0 0], [i64 en, i64 t1, i64 tt, i64 at0]], true, [.b (decide (iv < (4 : Int))) (.val (.bool true)), .bk 6 (.loop loopK7) 21 ([0, 1, 4, 16, 17] ++ [0, 4, 4]) (some (K7 [0, 4, 4] N fr tt at0 en t1 (.slice none 0 0) (sl 2 nr) (.slice none 0 0) ([(2, ro rc e2 1)] ++ [] ++ []) n2 c2 tc iv (0) 21)) ([[i64 N, (.slice none 0 0)]] ++ ([rc] ++ [] ++ []) ++ [tc, [(.slice none 0 0), (sl 2 nr), .slice (some ⟨18, 0, none⟩) n2 c2, .slice none 0 0], [i64 en, i64 t1, i64 tt, i64 at0]]) true .normal (K7 [0, 4, 4] N fr tt at0 en t1 (.slice none 0 0) (sl 2 nr) (.slice none 0 0) ([(2, ro rc e2 1)] ++ [] ++ []) n2 c2 tc iv (4) 24)]) := by kernel_rfl
theorem tq_nsnE (nr n2 c2 e2 : Nat) (rc tc : List Value) (N fr tt at0 en t1 iv : Int) (g : Code → St → Option (AExit × St)) : rndQ7 [0, 4, 4] ([(2, 2, true)] ++ [] ++ []) g (Q7 [0, 4, 4] N fr tt at0 en t1 (.slice none 0 0) (sl 2 nr) (.slice none 0 0) ([(2, ro rc e2 1)] ++ [] ++ []) n2 c2 tc (iv) 21) [fls 8] 24 ([(2, 2, true)] ++ [] ++ []) = some (.exit 4, some (Q7 [0, 4, 4] N fr tt at0 en t1 (.slice none 0 0) (sl 2 nr) (.slice none 0 0) ([(2, ro rc e2 1)] ++ [] ++ []) n2 c2 tc (iv) 24), [[i64 N, (.slice none 0 0)]] ++ ([rc] ++ [] ++ []) ++ [tc, [(.slice none 0 0), (sl 2 nr), .slice (some ⟨18, 0, none⟩) n2 c2, .slice none 0 0], [i64 en, i64 t1, i64 tt, i64 at0]], true, [.b (decide (iv < (4 : Int))) (.val (.bool false))]) := by kernel_rfl
theorem tk_snnn (ne n2 c2 : Nat) (ec tc : List Value) (N fr tt at0 en t1 iv kv x c : Int) (bw : Bool) (row : Value) : rndK7 [0, 4, 4] [2, 3, 5, 18, 21, 22] (K7 [0, 4, 4] N fr tt at0 en t1 (sl 3 ne) (.slice none 0 0) (.slice none 0 0) ([] ++ [(3, own ec 31 4)] ++ []) n2 c2 tc iv (kv) 21) [tru 8, tru 18, got 20 (i64 x), tru 26, got 28 (row), got 30 (.tuple ⟨[i64 c, (.slice none 0 0), .bool bw]⟩), tru 54, got 56 (i64 x), tru 62, got 64 (row), got 66 (.tuple ⟨[i64 c, (.slice none 0 0), .bool bw]⟩), fls 89, fls 91, fls 93, fls 96, fls 99, fls 101, fls 103, got 104 (.bool true), fls 105, fls 108] 21 ([] ++ [(3, 3, true)] ++ []) = some (.normal, some (K7 [0, 4, 4] N fr tt at0 en t1 (sl 3 ne) (.slice none 0 0) (.slice none 0 0) ([] ++ [(3, own ec 31 4)] ++ []) n2 c2 tc iv (IntKind.wrap .i64 (kv + 1)) 21), [[i64 N, (sl 3 ne)]] ++ ([] ++ [ec] ++ []) ++ [tc, [(.slice none 0 0), (.slice none 0 0), .slice (some ⟨18, 0, none⟩) n2 c2, .slice none 0 0], [i64 en, i64 t1, i64 tt, i64 at0]], true, [.b (decide (kv < (4 : Int))) (.val (.bool true)), .ib kv 4, .ld 3 (0 + kv.toNat * 1) (some (own [i64 en, i64 t1, i64 tt, i64 at0] 3 1)) (.val (i64 x)), .ib iv 4, .ld 25 (0 + iv.toNat * 1) (some (own [(.slice none 0 0), (.slice none 0 0), .slice (some ⟨18, 0, none⟩) n2 c2, .slice none 0 0] 25 1)) (.val row), .cr 24 [.agg ⟨[i64 N, (sl 3 ne)]⟩, i64 at0, i64 x, row] [none, some (own ec 31 4), none, some (own tc 3 1), none, none] (.val (.tuple ⟨[i64 c, (.slice none 0 0), .bool bw]⟩)), .ib kv 4, .ld 3 (0 + kv.toNat * 1) (some (own [i64 en, i64 t1, i64 tt, i64 at0] 3 1)) (.val (i64 x)), .ib iv 4, .ld 25 (0 + iv.toNat * 1) (some (own [(.slice none 0 0), (.slice none 0 0), .slice (some ⟨18, 0, none⟩) n2 c2, .slice none 0 0] 25 1)) (.val row), .cr 25 [.agg ⟨[i64 N, (sl 3 ne)]⟩, i64 at0, i64 x, row] [none, some (own ec 31 4), none, some (own tc 3 1), none, none] (.val (.tuple ⟨[i64 c, (.slice none 0 0), .bool bw]⟩)), .b ((c != c)) (.val (.bool false)), .b ((c != c)) (.val (.bool false)), .b ((c != c)) (.val (.bool false)), .b ((c != c)) (.val (.bool false)), .b ((bw != bw)) (.val (.bool false)), .b ((bw != bw)) (.val (.bool false)), .b ((bw != bw)) (.val (.bool false)), .cr 26 [(.slice none 0 0), (.slice none 0 0)] [none, some (own ec 31 4), none, some (own tc 3 1), none, none] (.val (.bool true)), .b ((bw != bw)) (.val (.bool false)), .b ((bw != bw)) (.val (.bool false))]) := by kernel_rfl
theorem tk_snns (ne n2 c2 nw : Nat) (ec tc wc : List Value) (N fr tt at0 en t1 iv kv x c : Int) (row : Value) : rndK7 [0, 4, 4] [2, 3, 5, 18, 21, 22] (K7 [0, 4, 4] N fr tt at0 en t1 (sl 3 ne) (.slice none 0 0) (.slice none 0 0) ([] ++ [(3, own ec 31 4)] ++ []) n2 c2 tc iv (kv) 21) [tru 8, tru 18, got 20 (i64 x), tru 26, got 28 (row), madeB 30 (.tuple ⟨[i64 c, sl 21 nw, .bool true]⟩) (own wc 3 1), tru 54, got 56 (i64 x), tru 62, got 64 (row), madeB 66 (.tuple ⟨[i64 c, sl 22 nw, .bool true]⟩) (own wc 3 1), fls 89, fls 91, fls 93, fls 96, got 104 (.bool true)] 21 ([] ++ [(3, 3, true)] ++ []) = some (.normal, some (K7 [0, 4, 4] N fr tt at0 en t1 (sl 3 ne) (.slice none 0 0) (.slice none 0 0) ([] ++ [(3, own ec 31 4)] ++ []) n2 c2 tc iv (IntKind.wrap .i64 (kv + 1)) 21), [[i64 N, (sl 3 ne)]] ++ ([] ++ [ec] ++ []) ++ [tc, [(.slice none 0 0), (.slice none 0 0), .slice (some ⟨18, 0, none⟩) n2 c2, .slice none 0 0], [i64 en, i64 t1, i64 tt, i64 at0]], true, [.b (decide (kv < (4 : Int))) (.val (.bool true)), .ib kv 4, .ld 3 (0 + kv.toNat * 1) (some (own [i64 en, i64 t1, i64 tt, i64 at0] 3 1)) (.val (i64 x)), .ib iv 4, .ld 25 (0 + iv.toNat * 1) (some (own [(.slice none 0 0), (.slice none 0 0), .slice (some ⟨18, 0, none⟩) n2 c2, .slice none 0 0] 25 1)) (.val row), .ca 24 [.agg ⟨[i64 N, (sl 3 ne)]⟩, i64 at0, i64 x, row] [none, some (own ec 31 4), none, some (own tc 3 1), none, none] 21 (.val (.tuple ⟨[i64 c, sl 21 nw, .bool true]⟩)) (own wc 3 1), .ib kv 4, .ld 3 (0 + kv.toNat * 1) (some (own [i64 en, i64 t1, i64 tt, i64 at0] 3 1)) (.val (i64 x)), .ib iv 4, .ld 25 (0 + iv.toNat * 1) (some (own [(.slice none 0 0), (.slice none 0 0), .slice (some ⟨18, 0, none⟩) n2 c2, .slice none 0 0] 25 1)) (.val row), .ca 25 [.agg ⟨[i64 N, (sl 3 ne)]⟩, i64 at0, i64 x, row] [none, some (own ec 31 4), none, some (own tc 3 1), some (own wc 3 1), none] 22 (.val (.tuple ⟨[i64 c, sl 22 nw, .bool true]⟩)) (own wc 3 1), .b ((c != c)) (.val (.bool false)), .b ((c != c)) (.val (.bool false)), .b ((c != c)) (.val (.bool false)), .b ((c != c)) (.val (.bool false)), .cr 26 [sl 21 nw, sl 22 nw] [none, some (own ec 31 4), none, some (own tc 3 1), some (own wc 3 1), some (own wc 3 1)] (.val (.bool true))]) := by kernel_rfl
theorem tk_snnE (ne n2 c2 : Nat) (ec tc : List Value) (N fr tt at0 en t1 iv kv : Int) : rndK7 [0, 4, 4] [2, 3, 5, 18, 21, 22] (K7 [0, 4, 4] N fr tt at0 en t1 (sl 3 ne) (.slice none 0 0) (.slice none 0 0) ([] ++ [(3, own ec 31 4)] ++ []) n2 c2 tc iv (kv) 21) [fls 8] 24 ([] ++ [(3, 3, true)] ++ []) = some (.exit 6, some (K7 [0, 4, 4] N fr tt at0 en t1 (sl 3 ne) (.slice none 0 0) (.slice none 0 0) ([] ++ [(3, own ec 31 4)] ++ []) n2 c2 tc iv (kv) 24), [[i64 N, (sl 3 ne)]] ++ ([] ++ [ec] ++ []) ++ [tc, [(.slice none 0 0), (.slice none 0 0), .slice (some ⟨18, 0, none⟩) n2 c2, .slice none 0 0], [i64 en, i64 t1, i64 tt, i64 at0]], true, [.b (decide (kv < (4 : Int))) (.val (.bool false))]) := by kernel_rfl
theorem tq_snnT (ne n2 c2 : Nat) (ec tc : List Value) (N fr tt at0 en t1 iv : Int) (g : Code → St → Option (AExit × St)) : rndQ7 [0, 4, 4] ([] ++ [(3, 3, true)] ++ []) g (Q7 [0, 4, 4] N fr tt at0 en t1 (sl 3 ne) (.slice none 0 0) (.slice none 0 0) ([] ++ [(3, own ec 31 4)] ++ []) n2 c2 tc (iv) 21) [tru 8, past 11 .normal (K7 [0, 4, 4] N fr tt at0 en t1 (sl 3 ne) (.slice none 0 0) (.slice none 0 0) ([] ++ [(3, own ec 31 4)] ++ []) n2 c2 tc iv (4) 24)] 21 ([] ++ [(3, 3, true)] ++ []) = some (.normal, some (Q7 [0, 4, 4] N fr tt at0 en t1 (sl 3 ne) (.slice none 0 0) (.slice none 0 0) ([] ++ [(3, own ec 31 4)] ++ []) n2 c2 tc (IntKind.wrap .i64 (iv + 1)) 21), [[i64 N, (sl 3 ne)]] ++ ([] ++ [ec] ++ []) ++ [tc, [(.slice none 0 0), (.slice none 0 0), .slice (some ⟨18, 0, none⟩) n2 c2, .slice none 0 0], [i64 en, i64 t1, i64 tt, i64 at0]], true, [.b (decide (iv < (4 : Int))) (.val (.bool true)), .bk 6 (.loop loopK7) 21 ([0, 1, 4, 16, 17] ++ [0, 4, 4]) (some (K7 [0, 4, 4] N fr tt at0 en t1 (sl 3 ne) (.slice none 0 0) (.slice none 0 0) ([] ++ [(3, own ec 31 4)] ++ []) n2 c2 tc iv (0) 21)) ([[i64 N, (sl 3 ne)]] ++ ([] ++ [ec] ++ []) ++ [tc, [(.slice none 0 0), (.slice none 0 0), .slice (some ⟨18, 0, none⟩) n2 c2, .slice none 0 0], [i64 en, i64 t1, i64 tt, i64 at0]]) true .normal (K7 [0, 4, 4] N fr tt at0 en t1 (sl 3 ne) (.slice none 0 0) (.slice none 0 0) ([] ++ [(3, own ec 31 4)] ++ []) n2 c2 tc iv (4) 24)]) := by kernel_rfl
theorem tq_snnE (ne n2 c2 : Nat) (ec tc : List Value) (N fr tt at0 en t1 iv : Int) (g : Code → St → Option (AExit × St)) : rndQ7 [0, 4, 4] ([] ++ [(3, 3, true)] ++ []) g (Q7 [0, 4, 4] N fr tt at0 en t1 (sl 3 ne) (.slice none 0 0) (.slice none 0 0) ([] ++ [(3, own ec 31 4)] ++ []) n2 c2 tc (iv) 21) [fls 8] 24 ([] ++ [(3, 3, true)] ++ []) = some (.exit 4, some (Q7 [0, 4, 4] N fr tt at0 en t1 (sl 3 ne) (.slice none 0 0) (.slice none 0 0) ([] ++ [(3, own ec 31 4)] ++ []) n2 c2 tc (iv) 24), [[i64 N, (sl 3 ne)]] ++ ([] ++ [ec] ++ []) ++ [tc, [(.slice none 0 0), (.slice none 0 0), .slice (some ⟨18, 0, none⟩) n2 c2, .slice none 0 0], [i64 en, i64 t1, i64 tt, i64 at0]], true, [.b (decide (iv < (4 : Int))) (.val (.bool false))]) := by kernel_rfl
theorem tk_snsn (ne nl n2 c2 : Nat) (ec lc tc : List Value) (N fr tt at0 en t1 iv kv x c : Int) (bw : Bool) (row : Value) : rndK7 [0, 4, 4] [2, 3, 5, 18, 21, 22] (K7 [0, 4, 4] N fr tt at0 en t1 (sl 3 ne) (.slice none 0 0) (sl 5 nl) ([] ++ [(3, own ec 31 4)] ++ [(5, own lc 3 1)]) n2 c2 tc iv (kv) 21) [tru 8, tru 18, got 20 (i64 x), tru 26, got 28 (row), got 30 (.tuple ⟨[i64 c, (.slice none 0 0), .bool bw]⟩), tru 54, got 56 (i64 x), tru 62, got 64 (row), got 66 (.tuple ⟨[i64 c, (.slice none 0 0), .bool bw]⟩), fls 89, fls 91, fls 93, fls 96, fls 99, fls 101, fls 103, got 104 (.bool true), fls 105, fls 108] 21 ([] ++ [(3, 3, true)] ++ [(5, 5, true)]) = some (.normal, some (K7 [0, 4, 4] N fr tt at0 en t1 (sl 3 ne) (.slice none 0 0) (sl 5 nl) ([] ++ [(3, own ec 31 4)] ++ [(5, own lc 3 1)]) n2 c2 tc iv (IntKind.wrap .i64 (kv + 1)) 21), [[i64 N, (sl 3 ne)]] ++ ([] ++ [ec] ++ [lc]) ++ [tc, [(sl 5 nl), (.slice none 0 0), .slice (some ⟨18, 0, none⟩) n2 c2, .slice none 0 0], [i64 en, i64 t1, i64 tt, i64 at0]], true, [.b (decide (kv < (4 : Int))) (.val (.bool true)), .ib kv 4, .ld 3 (0 + kv.toNat * 1) (some (own [i64 en, i64 t1, i64 tt, i64 at0] 3 1)) (.val (i64 x)), .ib iv 4, .ld 25 (0 + iv.toNat * 1) (some (own [(sl 5 nl), (.slice none 0 0), .slice (some ⟨18, 0, none⟩) n2 c2, .slice none 0 0] 25 1)) (.val row), .cr 24 [.agg ⟨[i64 N, (sl 3 ne)]⟩, i64 at0, i64 x, row] [none, some (own ec 31 4), some (own lc 3 1), some (own tc 3 1), none, none] (.val (.tuple ⟨[i64 c, (.slice none 0 0), .bool bw]⟩)), .ib kv 4, .ld 3 (0 + kv.toNat * 1) (some (own [i64 en, i64 t1, i64 tt, i64 at0] 3 1)) (.val (i64 x)), .ib iv 4, .ld 25 (0 + iv.toNat * 1) (some (own [(sl 5 nl), (.slice none 0 0), .slice (some ⟨18, 0, none⟩) n2 c2, .slice none 0 0] 25 1)) (.val row), .cr 25 [.agg ⟨[i64 N, (sl 3 ne)]⟩, i64 at0, i64 x, row] [none, some (own ec 31 4), some (own lc 3 1), some (own tc 3 1), none, none] (.val (.tuple ⟨[i64 c, (.slice none 0 0), .bool bw]⟩)), .b ((c != c)) (.val (.bool false)), .b ((c != c)) (.val (.bool false)), .b ((c != c)) (.val (.bool false)), .b ((c != c)) (.val (.bool false)), .b ((bw != bw)) (.val (.bool false)), .b ((bw != bw)) (.val (.bool false)), .b ((bw != bw)) (.val (.bool false)), .cr 26 [(.slice none 0 0), (.slice none 0 0)] [none, some (own ec 31 4), some (own lc 3 1), some (own tc 3 1), none, none] (.val (.bool true)), .b ((bw != bw)) (.val (.bool false)), .b ((bw != bw)) (.val (.bool false))]) := by kernel_rfl
theorem tk_snss (ne nl n2 c2 nw : Nat) (ec lc tc wc : List Value) (N fr tt at0 en t1 iv kv x c : Int) (row : Value) : rndK7 [0, 4, 4] [2, 3, 5, 18, 21, 22] (K7 [0, 4, 4] N fr tt at0 en t1 (sl 3 ne) (.slice none 0 0) (sl 5 nl) ([] ++ [(3, own ec 31 4)] ++ [(5, own lc 3 1)]) n2 c2 tc iv (kv) 21) [tru 8, tru 18, got 20 (i64 x), tru 26, got 28 (row), madeB 30 (.tuple ⟨[i64 c, sl 21 nw, .bool true]⟩) (own wc 3 1), tru 54, got 56 (i64 x), tru 62, got 64 (row), madeB 66 (.tuple ⟨[i64 c, sl 22 nw, .bool true]⟩) (own wc 3 1), fls 89, fls 91, fls 93, fls 96, got 104 (.bool true)] 21 ([] ++ [(3, 3, true)] ++ [(5, 5, true)]) = some (.normal, some (K7 [0, 4, 4] N fr tt at0 en t1 (sl 3 ne) (.slice none 0 0) (sl 5 nl) ([] ++ [(3, own ec 31 4)] ++ [(5, own lc 3 1)]) n2 c2 tc iv (IntKind.wrap .i64 (kv + 1)) 21), [[i64 N, (sl 3 ne)]] ++ ([] ++ [ec] ++ [lc]) ++ [tc, [(sl 5 nl), (.slice none 0 0), .slice (some ⟨18, 0, none⟩) n2 c2, .slice none 0 0], [i64 en, i64 t1, i64 tt, i64 at0]], true, [.b (decide (kv < (4 : Int))) (.val (.bool true)), .ib kv 4, .ld 3 (0 + kv.toNat * 1) (some (own [i64 en, i64 t1, i64 tt, i64 at0] 3 1)) (.val (i64 x)), .ib iv 4, .ld 25 (0 + iv.toNat * 1) (some (own [(sl 5 nl), (.slice none 0 0), .slice (some ⟨18, 0, none⟩) n2 c2, .slice none 0 0] 25 1)) (.val row), .ca 24 [.agg ⟨[i64 N, (sl 3 ne)]⟩, i64 at0, i64 x, row] [none, some (own ec 31 4), some (own lc 3 1), some (own tc 3 1), none, none] 21 (.val (.tuple ⟨[i64 c, sl 21 nw, .bool true]⟩)) (own wc 3 1), .ib kv 4, .ld 3 (0 + kv.toNat * 1) (some (own [i64 en, i64 t1, i64 tt, i64 at0] 3 1)) (.val (i64 x)), .ib iv 4, .ld 25 (0 + iv.toNat * 1) (some (own [(sl 5 nl), (.slice none 0 0), .slice (some ⟨18, 0, none⟩) n2 c2, .slice none 0 0] 25 1)) (.val row), .ca 25 [.agg ⟨[i64 N, (sl 3 ne)]⟩, i64 at0, i64 x, row] [none, some (own ec 31 4), some (own lc 3 1), some (own tc 3 1), some (own wc 3 1), none] 22 (.val (.tuple ⟨[i64 c, sl 22 nw, .bool true]⟩)) (own wc 3 1), .b ((c != c)) (.val (.bool false)), .b ((c != c)) (.val (.bool false)), .b ((c != c)) (.val (.bool false)), .b ((c != c)) (.val (.bool false)), .cr 26 [sl 21 nw, sl 22 nw] [none, some (own ec 31 4), some (own lc 3 1), some (own tc 3 1), some (own wc 3 1), some (own wc 3 1)] (.val (.bool true))]) := by kernel_rfl
theorem tk_snsE (ne nl n2 c2 : Nat) (ec lc tc : List Value) (N fr tt at0 en t1 iv kv : Int) : rndK7 [0, 4, 4] [2, 3, 5, 18, 21, 22] (K7 [0, 4, 4] N fr tt at0 en t1 (sl 3 ne) (.slice none 0 0) (sl 5 nl) ([] ++ [(3, own ec 31 4)] ++ [(5, own lc 3 1)]) n2 c2 tc iv (kv) 21) [fls 8] 24 ([] ++ [(3, 3, true)] ++ [(5, 5, true)]) = some (.exit 6, some (K7 [0, 4, 4] N fr tt at0 en t1 (sl 3 ne) (.slice none 0 0) (sl 5 nl) ([] ++ [(3, own ec 31 4)] ++ [(5, own lc 3 1)]) n2 c2 tc iv (kv) 24), [[i64 N, (sl 3 ne)]] ++ ([] ++ [ec] ++ [lc]) ++ [tc, [(sl 5 nl), (.slice none 0 0), .slice (some ⟨18, 0, none⟩) n2 c2, .slice none 0 0], [i64 en, i64 t1, i64 tt, i64 at0]], true, [.b (decide (kv < (4 : Int))) (.val (.bool false))]) := by kernel_rfl
theorem tq_snsT (ne nl n2 c2 : Nat) (ec lc tc : List Value) (N fr tt at0 en t1 iv : Int) (g : Code → St → Option (AExit × St)) : rndQ7 [0, 4, 4] ([] ++ [(3, 3, true)] ++ [(5, 5, true)]) g (Q7 [0, 4, 4] N fr tt at0 en t1 (sl 3 ne) (.slice none 0 0) (sl 5 nl) ([] ++ [(3, own ec 31 4)] ++ [(5, own lc 3 1)]) n2 c2 tc (iv) 21) [tru 8, past 11 .normal (K7 [0, 4, 4] N fr tt at0 en t1 (sl 3 ne) (.slice none 0 0) (sl 5 nl) ([] ++ [(3, own ec 31 4)] ++ [(5, own lc 3 1)]) n2 c2 tc iv (4) 24)] 21 ([] ++ [(3, 3, true)] ++ [(5, 5, true)]) = some (.normal, some (Q7 [0, 4, 4] N fr tt at0 en t1 (sl 3 ne) (.slice none 0 0) (sl 5 nl) ([] ++ [(3, own ec 31 4)] ++ [(5, own lc 3 1)]) n2 c2 tc (IntKind.wrap .i64 (iv + 1)) 21), [[i64 N, (sl 3 ne)]] ++ ([] ++ [ec] ++ [lc]) ++ [tc, [(sl 5 nl), (.slice none 0 0), .slice (some ⟨18, 0, none⟩) n2 c2, .slice none 0 0], [i64 en, i64 t1, i64 tt, i64 at0]], true, [.b (decide (iv < (4 : Int))) (.val (.bool true)), .bk 6 (.loop loopK7) 21 ([0, 1, 4, 16, 17] ++ [0, 4, 4]) (some (K7 [0, 4, 4] N fr tt at0 en t1 (sl 3 ne) (.slice none 0 0) (sl 5 nl) ([] ++ [(3, own ec 31 4)] ++ [(5, own lc 3 1)]) n2 c2 tc iv (0) 21)) ([[i64 N, (sl 3 ne)]] ++ ([] ++ [ec] ++ [lc]) ++ [tc, [(sl 5 nl), (.slice none 0 0), .slice (some ⟨18, 0, none⟩) n2 c2, .slice none 0 0], [i64 en, i64 t1, i64 tt, i64 at0]]) true .normal (K7 [0, 4, 4] N fr tt at0 en t1 (sl 3 ne) (.slice none 0 0) (sl 5 nl) ([] ++ [(3, own ec 31 4)] ++ [(5, own lc 3 1)]) n2 c2 tc iv (4) 24)]) := by kernel_rfl
theorem tq_snsE (ne nl n2 c2 : Nat) (ec lc tc : List Value) (N fr tt at0 en t1 iv : Int) (g : Code → St → Option (AExit × St)) : rndQ7 [0, 4, 4] ([] ++ [(3, 3, true)] ++ [(5, 5, true)]) g (Q7 [0, 4, 4] N fr tt at0 en t1 (sl 3 ne) (.slice none 0 0) (sl 5 nl) ([] ++ [(3, own ec 31 4)] ++ [(5, own lc 3 1)]) n2 c2 tc (iv) 21) [fls 8] 24 ([] ++ [(3, 3, true)] ++ [(5, 5, true)]) = some (.exit 4, some (Q7 [0, 4, 4] N fr tt at0 en t1 (sl 3 ne) (.slice none 0 0) (sl 5 nl) ([] ++ [(3, own ec 31 4)] ++ [(5, own lc 3 1)]) n2 c2 tc (iv) 24), [[i64 N, (sl 3 ne)]] ++ ([] ++ [ec] ++ [lc]) ++ [tc, [(sl 5 nl), (.slice none 0 0), .slice (some ⟨18, 0, none⟩) n2 c2, .slice none 0 0], [i64 en, i64 t1, i64 tt, i64 at0]], true, [.b (decide (iv < (4 : Int))) (.val (.bool false))]) := by kernel_rfl
theorem tk_ssnn (ne nr n2 c2 e2 : Nat) (ec rc tc : List Value) (N fr tt at0 en t1 iv kv x c : Int) (bw : Bool) (row : Value) : rndK7 [0, 4, 4] [2, 3, 5, 18, 21, 22] (K7 [0, 4, 4] N fr tt at0 en t1 (sl 3 ne) (sl 2 nr) (.slice none 0 0) ([(2, ro rc e2 1)] ++ [(3, own ec 31 4)] ++ []) n2 c2 tc iv (kv) 21) [tru 8, tru 18, got 20 (i64 x), tru 26, got 28 (row), got 30 (.tuple ⟨[i64 c, (.slice none 0 0), .bool bw]⟩), tru 54, got 56 (i64 x), tru 62, got 64 (row), got 66 (.tuple ⟨[i64 c, (.slice none 0 0), .bool bw]⟩), fls 89, fls 91, fls 93, fls 96, fls 99, fls 101, fls 103, got 104 (.bool true), fls 105, fls 108] 21 ([(2, 2, true)] ++ [(3, 3, true)] ++ []) = some (.normal, some (K7 [0, 4, 4] N fr tt at0 en t1 (sl 3 ne) (sl 2 nr) (.slice none 0 0) ([(2, ro rc e2 1)] ++ [(3, own ec 31 4)] ++ []) n2 c2 tc iv (IntKind.wrap .i64 (kv + 1)) 21), [[i64 N, (sl 3 ne)]] ++ ([rc] ++ [ec] ++ []) ++ [tc, [(.slice none 0 0), (sl 2 nr), .slice (some ⟨18, 0, none⟩) n2 c2, .slice none 0 0], [i64 en, i64 t1, i64 tt, i64 at0]], true, [.b (decide (kv < (4 : Int))) (.val (.bool true)), .ib kv 4, .ld 3 (0 + kv.toNat * 1) (some (own [i64 en, i64 t1, i64 tt, i64 at0] 3 1)) (.val (i64 x)), .ib iv 4, .ld 25 (0 + iv.toNat * 1) (some (own [(.slice none 0 0), (sl 2 nr), .slice (some ⟨18, 0, none⟩) n2 c2, .slice none 0 0] 25 1)) (.val row), .cr 24 [.agg ⟨[i64 N, (sl 3 ne)]⟩, i64 at0, i64 x, row] [some (ro rc e2 1), some (own ec 31 4), none, some (own tc 3 1), none, none] (.val (.tuple ⟨[i64 c, (.slice none 0 0), .bool bw]⟩)), .ib kv 4, .ld 3 (0 + kv.toNat * 1) (some (own [i64 en, i64 t1, i64 tt, i64 at0] 3 1)) (.val (i64 x)), .ib iv 4, .ld 25 (0 + iv.toNat * 1) (some (own [(.slice none 0 0), (sl 2 nr), .slice (some ⟨18, 0, none⟩) n2 c2, .slice none 0 0] 25 1)) (.val row), .cr 25 [.agg ⟨[i64 N, (sl 3 ne)]⟩, i64 at0, i64 x, row] [some (ro rc e2 1), some (own ec 31 4), none, some (own tc 3 1), none, none] (.val (.tuple ⟨[i64 c, (.slice none 0 0), .bool bw]⟩)), .b ((c != c)) (.val (.bool false)), .b ((c != c)) (.val (.bool false)), .b ((c != c)) (.val (.bool false)), .b ((c != c)) (.val (.bool false)), .b ((bw != bw)) (.val (.bool false)), .b ((bw != bw)) (.val (.bool false)), .b ((bw != bw)) (.val (.bool false)), .cr 26 [(.slice none 0 0), (.slice none 0 0)] [some (ro rc e2 1), some (own ec 31 4), none, some (own tc 3 1), none, none] (.val (.bool true)), .b ((bw != bw)) (.val (.bool false)), .b ((bw != bw)) (.val (.bool false))]) := by kernel_rfl
theorem tk_ssns (ne nr n2 c2 e2 nw : Nat) (ec rc tc wc : List Value) (N fr tt at0 en t1 iv kv x c : Int) (row : Value) : rndK7 [0, 4, 4] [2, 3, 5, 18, 21, 22] (K7 [0, 4, 4] N fr tt at0 en t1 (sl 3 ne) (sl 2 nr) (.slice none 0 0) ([(2, ro rc e2 1)] ++ [(3, own ec 31 4)] ++ []) n2 c2 tc iv (kv) 21) [tru 8, tru 18, got 20 (i64 x), tru 26, got 28 (row), madeB 30 (.tuple ⟨[i64 c, sl 21 nw, .bool true]⟩) (own wc 3 1), tru 54, got 56 (i64 x), tru 62, got 64 (row), madeB 66 (.tuple ⟨[i64 c, sl 22 nw, .bool true]⟩) (own wc 3 1), fls 89, fls 91, fls 93, fls 96, got 104 (.bool true)] 21 ([(2, 2, true)] ++ [(3, 3, true)] ++ []) = some (.normal, some (K7 [0, 4, 4] N fr tt at0 en t1 (sl 3 ne) (sl 2 nr) (.slice none 0 0) ([(2, ro rc e2 1)] ++ [(3, own ec 31 4)] ++ []) n2 c2 tc iv (IntKind.wrap .i64 (kv + 1)) 21), [[i64 N, (sl 3 ne)]] ++ ([rc] ++ [ec] ++ []) ++ [tc, [(.slice none 0 0), (sl 2 nr), .slice (some ⟨18, 0, none⟩) n2 c2, .slice none 0 0], [i64 en, i64 t1, i64 tt, i64 at0]], true, [.b (decide (kv < (4 : Int))) (.val (.bool true)), .ib kv 4, .ld 3 (0 + kv.toNat * 1) (some (own [i64 en, i64 t1, i64 tt, i64 at0] 3 1)) (.val (i64 x)), .ib iv 4, .ld 25 (0 + iv.toNat * 1) (some (own [(.slice none 0 0), (sl 2 nr), .slice (some ⟨18, 0, none⟩) n2 c2, .slice none 0 0] 25 1)) (.val row), .ca 24 [.agg ⟨[i64 N, (sl 3 ne)]⟩, i64 at0, i64 x, row] [some (ro rc e2 1), some (own ec 31 4), none, some (own tc 3 1), none, none] 21 (.val (.tuple ⟨[i64 c, sl 21 nw, .bool true]⟩)) (own wc 3 1), .ib kv 4, .ld 3 (0 + kv.toNat * 1) (some (own [i64 en, i64 t1, i64 tt, i64 at0] 3 1)) (.val (i64 x)), .ib iv 4, .ld 25 (0 + iv.toNat * 1) (some (own [(.slice none 0 0), (sl 2 nr), .slice (some ⟨18, 0, none⟩) n2 c2, .slice none 0 0] 25 1)) (.val row), .ca 25 [.agg ⟨[i64 N, (sl 3 ne)]⟩, i64 at0, i64 x, row] [some (ro rc e2 1), some (own ec 31 4), none, some (own tc 3 1), some (own wc 3 1), none] 22 (.val (.tuple ⟨[i64 c, sl 22 nw, .bool true]⟩)) (own wc 3 1), .b ((c != c)) (.val (.bool false)), .b ((c != c)) (.val (.bool false)), .b ((c != c)) (.val (.bool false)), .b ((c != c)) (.val (.bool false)), .cr 26 [sl 21 nw, sl 22 nw] [some (ro rc e2 1), some (own ec 31 4), none, some (own tc 3 1), some (own wc 3 1), some (own wc 3 1)] (.val (.bool true))]) := by kernel_rfl
theorem tk_ssnE (ne nr n2 c2 e2 : Nat) (ec rc tc : List Value) (N fr tt at0 en t1 iv kv : Int) : rndK7 [0, 4, 4] [2, 3, 5, 18, 21, 22] (K7 [0, 4, 4] N fr tt at0 en t1 (sl 3 ne) (sl 2 nr) (.slice none 0 0) ([(2, ro rc e2 1)] ++ [(3, own ec 31 4)] ++ []) n2 c2 tc iv (kv) 21) [fls 8] 24 ([(2, 2, true)] ++ [(3, 3, true)] ++ []) = some (.exit 6, some (K7 [0, 4, 4] N fr tt at0 en t1 (sl 3 ne) (sl 2 nr) (.slice none 0 0) ([(2, ro rc e2 1)] ++ [(3, own ec 31 4)] ++ []) n2 c2 tc iv (kv) 24), [[i64 N, (sl 3 ne)]] ++ ([rc] ++ [ec] ++ []) ++ [tc, [(.slice none 0 0), (sl 2 nr), .slice (some ⟨18, 0, none⟩) n2 c2, .slice none 0 0], [i64 en, i64 t1, i64 tt, i64 at0]], true, [.b (decide (kv < (4 : Int))) (.val (.bool false))]) := by kernel_rfl
theorem tq_ssnT (ne nr n2 c2 e2 : Nat) (ec rc tc : List Value) (N fr tt at0 en t1 iv : Int) (g : Code → St → Option (AExit × St)) : rndQ7 [0, 4, 4] ([(2, 2, true)] ++ [(3, 3, true)] ++ []) g (Q7 [0, 4, 4] N fr tt at0 en t1 (sl 3 ne) (sl 2 nr) (.slice none 0 0) ([(2, ro rc e2 1)] ++ [(3, own ec 31 4)] ++ []) n2 c2 tc (iv) 21) [tru 8, past 11 .normal (K7 [0, 4, 4] N fr tt at0 en t1 (sl 3 ne) (sl 2 nr) (.slice none 0 0) ([(2, ro rc e2 1)] ++ [(3, own ec 31 4)] ++ []) n2 c2 tc iv (4) 24)] 21 ([(2, 2, true)] ++ [(3, 3, true)] ++ []) = some (.normal, some (Q7 [0, 4, 4] N fr tt at0 en t1 (sl 3 ne) (sl 2 nr) (.slice none 0 0) ([(2, ro rc e2 1)] ++ [(3, own ec 31 4)] ++ []) n2 c2 tc (IntKind.wrap .i64 (iv + 1)) 21), [[i64 N, (sl 3 ne)]] ++ ([rc] ++ [ec] ++ []) ++ [tc, [(.slice none 0 0), (sl 2 nr), .slice (some ⟨18, 0, none⟩) n2 c2, .slice none 0 0], [i64 en, i64 t1, i64 tt, i64 at0]], true, [.b (decide (iv < (4 : Int))) (.val (.bool true)), .bk 6 (.loop loopK7) 21 ([0, 1, 4, 16, 17] ++ [0, 4, 4]) (some (K7 [0, 4, 4] N fr tt at0 en t1 (sl 3 ne) (sl 2 nr) (.slice none 0 0) ([(2, ro rc e2 1)] ++ [(3, own ec 31 4)] ++ []) n2 c2 tc iv (0) 21)) ([[i64 N, (sl 3 ne)]] ++ ([rc] ++ [ec] ++ []) ++ [tc, [(.slice none 0 0), (sl 2 nr), .slice (some ⟨18, 0, none⟩) n2 c2, .slice none 0 0], [i64 en, i64 t1, i64 tt, i64 at0]]) true .normal (K7 [0, 4, 4] N fr tt at0 en t1 (sl 3 ne) (sl 2 nr) (.slice none 0 0) ([(2, ro rc e2 1)] ++ [(3, own ec 31 4)] ++ []) n2 c2 tc iv (4) 24)]) := by kernel_rfl
theorem tq_ssnE (ne nr n2 c2 e2 : Nat) (ec rc tc : List Value) (N fr tt at0 en t1 iv : Int) (g : Code → St → Option (AExit × St)) : rndQ7 [0, 4, 4] ([(2, 2, true)] ++ [(3, 3, true)] ++ []) g (Q7 [0, 4, 4] N fr tt at0 en t1 (sl 3 ne) (sl 2 nr) (.slice none 0 0) ([(2, ro rc e2 1)] ++ [(3, own ec 31 4)] ++ []) n2 c2 tc (iv) 21) [fls 8] 24 ([(2, 2, true)] ++ [(3, 3, true)] ++ []) = some (.exit 4, some (Q7 [0, 4, 4] N fr tt at0 en t1 (sl 3 ne) (sl 2 nr) (.slice none 0 0) ([(2, ro rc e2 1)] ++ [(3, own ec 31 4)] ++ []) n2 c2 tc (iv) 24), [[i64 N, (sl 3 ne)]] ++ ([rc] ++ [ec] ++ []) ++ [tc, [(.slice none 0 0), (sl 2 nr), .slice (some ⟨18, 0, none⟩) n2 c2, .slice none 0 0], [i64 en, i64 t1, i64 tt, i64 at0]], true, [.b (decide (iv < (4 : Int))) (.val (.bool false))]) := by kernel_rfl
theorem tk_sssn (ne nl nr n2 c2 e2 : Nat) (ec lc rc tc : List Value) (N fr tt at0 en t1 iv kv x c : Int) (bw : Bool) (row : Value) : rndK7 [0, 4, 4] [2, 3, 5, 18, 21, 22] (K7 [0, 4, 4] N fr tt at0 en t1 (sl 3 ne) (sl 2 nr) (sl 5 nl) ([(2, ro rc e2 1)] ++ [(3, own ec 31 4)] ++ [(5, own lc 3 1)]) n2 c2 tc iv (kv) 21) [tru 8, tru 18, got 20 (i64 x), tru 26, got 28 (row), got 30 (.tuple ⟨[i64 c, (.slice none 0 0), .bool bw]⟩), tru 54, got 56 (i64 x), tru 62, got 64 (row), got 66 (.tuple ⟨[i64 c, (.slice none 0 0), .bool bw]⟩), fls 89, fls 91, fls 93, fls 96, fls 99, fls 101, fls 103, got 104 (.bool true), fls 105, fls 108] 21 ([(2, 2, true)] ++ [(3, 3, true)] ++ [(5, 5, true)]) = some (.normal, some (K7 [0, 4, 4] N fr tt at0 en t1 (sl 3 ne) (sl 2 nr) (sl 5 nl) ([(2, ro rc e2 1)] ++ [(3, own ec 31 4)] ++ [(5, own lc 3 1)]) n2 c2 tc iv (IntKind.wrap .i64 (kv + 1)) 21), [[i64 N, (sl 3 ne)]] ++ ([rc] ++ [ec] ++ [lc]) ++ [tc, [(sl 5 nl), (sl 2 nr), .slice (some ⟨18, 0, none⟩) n2 c2, .slice none 0 0], [i64 en, i64 t1, i64 tt, i64 at0]], true, [.b (decide (kv < (4 : Int))) (.val (.bool true)), .ib kv 4, .ld 3 (0 + kv.toNat * 1) (some (own [i64 en, i64 t1, i64 tt, i64 at0] 3 1)) (.val (i64 x)), .ib iv 4, .ld 25 (0 + iv.toNat * 1) (some (own [(sl 5 nl), (sl 2 nr), .slice (some ⟨18, 0, none⟩) n2 c2, .slice none 0 0] 25 1)) (.val row), .cr 24 [.agg ⟨[i64 N, (sl 3 ne)]⟩, i64 at0, i64 x, row] [some (ro rc e2 1), some (own ec 31 4), some (own lc 3 1), some (own tc 3 1), none, none] (.val (.tuple ⟨[i64 c, (.slice none 0 0), .bool bw]⟩)), .ib kv 4, .ld 3 (0 + kv.toNat * 1) (some (own [i64 en, i64 t1, i64 tt, i64 at0] 3 1)) (.val (i64 x)), .ib iv 4, .ld 25 (0 + iv.toNat * 1) (some (own [(sl 5 nl), (sl 2 nr), .slice (some ⟨18, 0, none⟩) n2 c2, .slice none 0 0] 25 1)) (.val row), .cr 25 [.agg ⟨[i64 N, (sl 3 ne)]⟩, i64 at0, i64 x, row] [some (ro rc e2 1), some (own ec 31 4), some (own lc 3 1), some (own tc 3 1), none, none] (.val (.tuple ⟨[i64 c, (.slice none 0 0), .bool bw]⟩)), .b ((c != c)) (.val (.bool false)), .b ((c != c)) (.val (.bool false)), .b ((c != c)) (.val (.bool false)), .b ((c != c)) (.val (.bool false)), .b ((bw != bw)) (.val (.bool false)), .b ((bw != bw)) (.val (.bool false)), .b ((bw != bw)) (.val (.bool false)), .cr 26 [(.slice none 0 0), (.slice none 0 0)] [some (ro rc e2 1), some (own ec 31 4), some (own lc 3 1), some (own tc 3 1), none, none] (.val (.bool true)), .b ((bw != bw)) (.val (.bool false)), .b ((bw != bw)) (.val (.bool false))]) := by kernel_rfl
theorem tk_ssss (ne nl nr n2 c2 e2 nw : Nat) (ec lc rc tc wc : List Value) (N fr tt at0 en t1 iv kv x c : Int) (row : Value) : rndK7 [0, 4, 4] [2, 3, 5, 18, 21, 22] (K7 [0, 4, 4] N fr tt at0 en t1 (sl 3 ne) (sl 2 nr) (sl 5 nl) ([(2, ro rc e2 1)] ++ [(3, own ec 31 4)] ++ [(5, own lc 3 1)]) n2 c2 tc iv (kv) 21) [tru 8, tru 18, got 20 (i64 x), tru 26, got 28 (row), madeB 30 (.tuple ⟨[i64 c, sl 21 nw, .bool true]⟩) (own wc 3 1), tru 54, got 56 (i64 x), tru 62, got 64 (row), madeB 66 (.tuple ⟨[i64 c, sl 22 nw, .bool true]⟩) (own wc 3 1), fls 89, fls 91, fls 93, fls 96, got 104 (.bool true)] 21 ([(2, 2, true)] ++ [(3, 3, true)] ++ [(5, 5, true)]) = some (.normal, some (K7 [0, 4, 4] N fr tt at0 en t1 (sl 3 ne) (sl 2 nr) (sl 5 nl) ([(2, ro rc e2 1)] ++ [(3, own ec 31 4)] ++ [(5, own lc 3 1)]) n2 c2 tc iv (IntKind.wrap .i64 (kv + 1)) 21), [[i64 N, (sl 3 ne)]] ++ ([rc] ++ [ec] ++ [lc]) ++ [tc, [(sl 5 nl), (sl 2 nr), .slice (some ⟨18, 0, none⟩) n2 c2, .slice none 0 0], [i64 en, i64 t1, i64 tt, i64 at0]], true, [.b (decide (kv < (4 : Int))) (.val (.bool true)), .ib kv 4, .ld 3 (0 + kv.toNat * 1) (some (own [i64 en, i64 t1, i64 tt, i64 at0] 3 1)) (.val (i64 x)), .ib iv 4, .ld 25 (0 + iv.toNat * 1) (some (own [(sl 5 nl), (sl 2 nr), .slice (some ⟨18, 0, none⟩) n2 c2, .slice none 0 0] 25 1)) (.val row), .ca 24 [.agg ⟨[i64 N, (sl 3 ne)]⟩, i64 at0, i64 x, row] [some (ro rc e2 1), some (own ec 31 4), some (own lc 3 1), some (own tc 3 1), none, none] 21 (.val (.tuple ⟨[i64 c, sl 21 nw, .bool true]⟩)) (own wc 3 1), .ib kv 4, .ld 3 (0 + kv.toNat * 1) (some (own [i64 en, i64 t1, i64 tt, i64 at0] 3 1)) (.val (i64 x)), .ib iv 4, .ld 25 (0 + iv.toNat * 1) (some (own [(sl 5 nl), (sl 2 nr), .slice (some ⟨18, 0, none⟩) n2 c2, .slice none 0 0] 25 1)) (.val row), .ca 25 [.agg ⟨[i64 N, (sl 3 ne)]⟩, i64 at0, i64 x, row] [some (ro rc e2 1), some (own ec 31 4), some (own lc 3 1), some (own tc 3 1), some (own wc 3 1), none] 22 (.val (.tuple ⟨[i64 c, sl 22 nw, .bool true]⟩)) (own wc 3 1), .b ((c != c)) (.val (.bool false)), .b ((c != c)) (.val (.bool false)), .b ((c != c)) (.val (.bool false)), .b ((c != c)) (.val (.bool false)), .cr 26 [sl 21 nw, sl 22 nw] [some (ro rc e2 1), some (own ec 31 4), some (own lc 3 1), some (own tc 3 1), some (own wc 3 1), some (own wc 3 1)] (.val (.bool true))]) := by kernel_rfl
theorem tk_sssE (ne nl nr n2 c2 e2 : Nat) (ec lc rc tc : List Value) (N fr tt at0 en t1 iv kv : Int) : rndK7 [0, 4, 4] [2, 3, 5, 18, 21, 22] (K7 [0, 4, 4] N fr tt at0 en t1 (sl 3 ne) (sl 2 nr) (sl 5 nl) ([(2, ro rc e2 1)] ++ [(3, own ec 31 4)] ++ [(5, own lc 3 1)]) n2 c2 tc iv (kv) 21) [fls 8] 24 ([(2, 2, true)] ++ [(3, 3, true)] ++ [(5, 5, true)]) = some (.exit 6, some (K7 [0, 4, 4] N fr tt at0 en t1 (sl 3 ne) (sl 2 nr) (sl 5 nl) ([(2, ro rc e2 1)] ++ [(3, own ec 31 4)] ++ [(5, own lc 3 1)]) n2 c2 tc iv (kv) 24), [[i64 N, (sl 3 ne)]] ++ ([rc] ++ [ec] ++ [lc]) ++ [tc, [(sl 5 nl), (sl 2 nr), .slice (some ⟨18, 0, none⟩) n2 c2, .slice none 0 0], [i64 en, i64 t1, i64 tt, i64 at0]], true, [.b (decide (kv < (4 : Int))) (.val (.bool false))]) := by kernel_rfl
theorem tq_sssT (ne nl nr n2 c2 e2 : Nat) (ec lc rc tc : List Value) (N fr tt at0 en t1 iv : Int) (g : Code → St → Option (AExit × St)) : rndQ7 [0, 4, 4] ([(2, 2, true)] ++ [(3, 3, true)] ++ [(5, 5, true)]) g (Q7 [0, 4, 4] N fr tt at0 en t1 (sl 3 ne) (sl 2 nr) (sl 5 nl) ([(2, ro rc e2 1)] ++ [(3, own ec 31 4)] ++ [(5, own lc 3 1)]) n2 c2 tc (iv) 21) [tru 8, past 11 .normal (K7 [0, 4, 4] N fr tt at0 en t1 (sl 3 ne) (sl 2 nr) (sl 5 nl) ([(2, ro rc e2 1)] ++ [(3, own ec 31 4)] ++ [(5, own lc 3 1)]) n2 c2 tc iv (4) 24)] 21 ([(2, 2, true)] ++ [(3, 3, true)] ++ [(5, 5, true)]) = some (.normal, some (Q7 [0, 4, 4] N fr tt at0 en t1 (sl 3 ne) (sl 2 nr) (sl 5 nl) ([(2, ro rc e2 1)] ++ [(3, own ec 31 4)] ++ [(5, own lc 3 1)]) n2 c2 tc (IntKind.wrap .i64 (iv + 1)) 21), [[i64 N, (sl 3 ne)]] ++ ([rc] ++ [ec] ++ [lc]) ++ [tc, [(sl 5 nl), (sl 2 nr), .slice (some ⟨18, 0, none⟩) n2 c2, .slice none 0 0], [i64 en, i64 t1, i64 tt, i64 at0]], true, [.b (decide (iv < (4 : Int))) (.val (.bool true)), .bk 6 (.loop loopK7) 21 ([0, 1, 4, 16, 17] ++ [0, 4, 4]) (some (K7 [0, 4, 4] N fr tt at0 en t1 (sl 3 ne) (sl 2 nr) (sl 5 nl) ([(2, ro rc e2 1)] ++ [(3, own ec 31 4)] ++ [(5, own lc 3 1)]) n2 c2 tc iv (0) 21)) ([[i64 N, (sl 3 ne)]] ++ ([rc] ++ [ec] ++ [lc]) ++ [tc, [(sl 5 nl), (sl 2 nr), .slice (some ⟨18, 0, none⟩) n2 c2, .slice none 0 0], [i64 en, i64 t1, i64 tt, i64 at0]]) true .normal (K7 [0, 4, 4] N fr tt at0 en t1 (sl 3 ne) (sl 2 nr) (sl 5 nl) ([(2, ro rc e2 1)] ++ [(3, own ec 31 4)] ++ [(5, own lc 3 1)]) n2 c2 tc iv (4) 24)]) := by kernel_rfl
theorem tq_sssE (ne nl nr n2 c2 e2 : Nat) (ec lc rc tc : List Value) (N fr tt at0 en t1 iv : Int) (g : Code → St → Option (AExit × St)) : rndQ7 [0, 4, 4] ([(2, 2, true)] ++ [(3, 3, true)] ++ [(5, 5, true)]) g (Q7 [0, 4, 4] N fr tt at0 en t1 (sl 3 ne) (sl 2 nr) (sl 5 nl) ([(2, ro rc e2 1)] ++ [(3, own ec 31 4)] ++ [(5, own lc 3 1)]) n2 c2 tc (iv) 21) [fls 8] 24 ([(2, 2, true)] ++ [(3, 3, true)] ++ [(5, 5, true)]) = some (.exit 4, some (Q7 [0, 4, 4] N fr tt at0 en t1 (sl 3 ne) (sl 2 nr) (sl 5 nl) ([(2, ro rc e2 1)] ++ [(3, own ec 31 4)] ++ [(5, own lc 3 1)]) n2 c2 tc (iv) 24), [[i64 N, (sl 3 ne)]] ++ ([rc] ++ [ec] ++ [lc]) ++ [tc, [(sl 5 nl), (sl 2 nr), .slice (some ⟨18, 0, none⟩) n2 c2, .slice none 0 0], [i64 en, i64 t1, i64 tt, i64 at0]], true, [.b (decide (iv < (4 : Int))) (.val (.bool false))]) := by kernel_rfl
theorem tk_ssswn (ne nl nr n2 c2 e2 : Nat) (ec lc rc tc : List Value) (N fr tt at0 en t1 iv kv x c : Int) (bw : Bool) (row : Value) : rndK7 [17, 0, 4, 4] [2, 3, 5, 18, 21, 22] (K7 [17, 0, 4, 4] N fr tt at0 en t1 (sl 3 ne) (sl 2 nr) (sl 5 nl) ([(2, ro rc e2 1)] ++ [(3, own ec 31 4)] ++ [(5, own lc 3 1)]) n2 c2 tc iv (kv) 21) [tru 8, tru 18, got 20 (i64 x), tru 26, got 28 (row), got 30 (.tuple ⟨[i64 c, (.slice none 0 0), .bool bw]⟩), tru 54, got 56 (i64 x), tru 62, got 64 (row), got 66 (.tuple ⟨[i64 c, (.slice none 0 0), .bool bw]⟩), fls 89, fls 91, fls 93, fls 96, fls 99, fls 101, fls 103, got 104 (.bool true), fls 105, fls 108] 21 ([(2, 2, true)] ++ [(3, 3, true)] ++ [(5, 5, true)]) = some (.normal, some (K7 [17, 0, 4, 4] N fr tt at0 en t1 (sl 3 ne) (sl 2 nr) (sl 5 nl) ([(2, ro rc e2 1)] ++ [(3, own ec 31 4)] ++ [(5, own lc 3 1)]) n2 c2 tc iv (IntKind.wrap .i64 (kv + 1)) 21), [[i64 N, (sl 3 ne)]] ++ ([rc] ++ [ec] ++ [lc]) ++ [tc, [(sl 5 nl), (sl 2 nr), .slice (some ⟨18, 0, none⟩) n2 c2, .slice none 0 0], [i64 en, i64 t1, i64 tt, i64 at0]], true, [.b (decide (kv < (4 : Int))) (.val (.bool true)), .ib kv 4, .ld 3 (0 + kv.toNat * 1) (some (own [i64 en, i64 t1, i64 tt, i64 at0] 3 1)) (.val (i64 x)), .ib iv 4, .ld 25 (0 + iv.toNat * 1) (some (own [(sl 5 nl), (sl 2 nr), .slice (some ⟨18, 0, none⟩) n2 c2, .slice none 0 0] 25 1)) (.val row), .cr 24 [.agg ⟨[i64 N, (sl 3 ne)]⟩, i64 at0, i64 x, row] [some (ro rc e2 1), some (own ec 31 4), some (own lc 3 1), some (own tc 3 1), none, none] (.val (.tuple ⟨[i64 c, (.slice none 0 0), .bool bw]⟩)), .ib kv 4, .ld 3 (0 + kv.toNat * 1) (some (own [i64 en, i64 t1, i64 tt, i64 at0] 3 1)) (.val (i64 x)), .ib iv 4, .ld 25 (0 + iv.toNat * 1) (some (own [(sl 5 nl), (sl 2 nr), .slice (some ⟨18, 0, none⟩) n2 c2, .slice none 0 0] 25 1)) (.val row), .cr 25 [.agg ⟨[i64 N, (sl 3 ne)]⟩, i64 at0, i64 x, row] [some (ro rc e2 1), some (own ec 31 4), some (own lc 3 1), some (own tc 3 1), none, none] (.val (.tuple ⟨[i64 c, (.slice none 0 0), .bool bw]⟩)), .b ((c != c)) (.val (.bool false)), .b ((c != c)) (.val (.bool false)), .b ((c != c)) (.val (.bool false)), .b ((c != c)) (.val (.bool false)), .b ((bw != bw)) (.val (.bool false)), .b ((bw != bw)) (.val (.bool false)), .b ((bw != bw)) (.val (.bool false)), .cr 26 [(.slice none 0 0), (.slice none 0 0)] [some (ro rc e2 1), some (own ec 31 4), some (own lc 3 1), some (own tc 3 1), none, none] (.val (.bool true)), .b ((bw != bw)) (.val (.bool false)), .b ((bw != bw)) (.val (.bool false))]) := by kernel_rfl
theorem tk_sssws (ne nl nr n2 c2 e2 nw : Nat) (ec lc rc tc wc : List Value) (N fr tt at0 en t1 iv kv x c : Int) (row : Value) : rndK7 [17, 0, 4, 4] [2, 3, 5, 18, 21, 22] (K7 [17, 0, 4, 4] N fr tt at0 en t1 (sl 3 ne) (sl 2 nr) (sl 5 nl) ([(2, ro rc e2 1)] ++ [(3, own ec 31 4)] ++ [(5, own lc 3 1)]) n2 c2 tc iv (kv) 21) [tru 8, tru 18, got 20 (i64 x), tru 26, got 28 (row), madeB 30 (.tuple ⟨[i64 c, sl 21 nw, .bool true]⟩) (own wc 3 1), tru 54, got 56 (i64 x), tru 62, got 64 (row), madeB 66 (.tuple ⟨[i64 c, sl 22 nw, .bool true]⟩) (own wc 3 1), fls 89, fls 91, fls 93, fls 96, got 104 (.bool true)] 21 ([(2, 2, true)] ++ [(3, 3, true)] ++ [(5, 5, true)]) = some (.normal, some (K7 [17, 0, 4, 4] N fr tt at0 en t1 (sl 3 ne) (sl 2 nr) (sl 5 nl) ([(2, ro rc e2 1)] ++ [(3, own ec 31 4)] ++ [(5, own lc 3 1)]) n2 c2 tc iv (IntKind.wrap .i64 (kv + 1)) 21), [[i64 N, (sl 3 ne)]] ++ ([rc] ++ [ec] ++ [lc]) ++ [tc, [(sl 5 nl), (sl 2 nr), .slice (some ⟨18, 0, none⟩) n2 c2, .slice none 0 0], [i64 en, i64 t1, i64 tt, i64 at0]], true, [.b (decide (kv < (4 : Int))) (.val (.bool true)), .ib kv 4, .ld 3 (0 + kv.toNat * 1) (some (own [i64 en, i64 t1, i64 tt, i64 at0] 3 1)) (.val (i64 x)), .ib iv 4, .ld 25 (0 + iv.toNat * 1) (some (own [(sl 5 nl), (sl 2 nr), .slice (some ⟨18, 0, none⟩) n2 c2, .slice none 0 0] 25 1)) (.val row), .ca 24 [.agg ⟨[i64 N, (sl 3 ne)]⟩, i64 at0, i64 x, row] [some (ro rc e2 1), some (own ec 31 4), some (own lc 3 1), some (own tc 3 1), none, none] 21 (.val (.tuple ⟨[i64 c, sl 21 nw, .bool true]⟩)) (own wc 3 1), .ib kv 4, .ld 3 (0 + kv.toNat * 1) (some (own [i64 en, i64 t1, i64 tt, i64 at0] 3 1)) (.val (i64 x)), .ib iv 4, .ld 25 (0 + iv.toNat * 1) (some (own [(sl 5 nl), (sl 2 nr), .slice (some ⟨18, 0, none⟩) n2 c2, .slice none 0 0] 25 1)) (.val row), .ca 25 [.agg ⟨[i64 N, (sl 3 ne)]⟩, i64 at0, i64 x, row] [some (ro rc e2 1), some (own ec 31 4), some (own lc 3 1), some (own tc 3 1), some (own wc 3 1), none] 22 (.val (.tuple ⟨[i64 c, sl 22 nw, .bool true]⟩)) (own wc 3 1), .b ((c != c)) (.val (.bool false)), .b ((c != c)) (.val (.bool false)), .b ((c != c)) (.val (.bool false)), .b ((c != c)) (.val (.bool false)), .cr 26 [sl 21 nw, sl 22 nw] [some (ro rc e2 1), some (own ec 31 4), some (own lc 3 1), some (own tc 3 1), some (own wc 3 1), some (own wc 3 1)] (.val (.bool true))]) := by kernel_rfl
theorem tk_ssswE (ne nl nr n2 c2 e2 : Nat) (ec lc rc tc : List Value) (N fr tt at0 en t1 iv kv : Int) : rndK7 [17, 0, 4, 4] [2, 3, 5, 18, 21, 22] (K7 [17, 0, 4, 4] N fr tt at0 en t1 (sl 3 ne) (sl 2 nr) (sl 5 nl) ([(2, ro rc e2 1)] ++ [(3, own ec 31 4)] ++ [(5, own lc 3 1)]) n2 c2 tc iv (kv) 21) [fls 8] 24 ([(2, 2, true)] ++ [(3, 3, true)] ++ [(5, 5, true)]) = some (.exit 6, some (K7 [17, 0, 4, 4] N fr tt at0 en t1 (sl 3 ne) (sl 2 nr) (sl 5 nl) ([(2, ro rc e2 1)] ++ [(3, own ec 31 4)] ++ [(5, own lc 3 1)]) n2 c2 tc iv (kv) 24), [[i64 N, (sl 3 ne)]] ++ ([rc] ++ [ec] ++ [lc]) ++ [tc, [(sl 5 nl), (sl 2 nr), .slice (some ⟨18, 0, none⟩) n2 c2, .slice none 0 0], [i64 en, i64 t1, i64 tt, i64 at0]], true, [.b (decide (kv < (4 : Int))) (.val (.bool false))]) := by kernel_rfl
theorem tq_ssswT (ne nl nr n2 c2 e2 : Nat) (ec lc rc tc : List Value) (N fr tt at0 en t1 iv : Int) (g : Code → St → Option (AExit × St)) : rndQ7 [17, 0, 4, 4] ([(2, 2, true)] ++ [(3, 3, true)] ++ [(5, 5, true)]) g (Q7 [17, 0, 4, 4] N fr tt at0 en t1 (sl 3 ne) (sl 2 nr) (sl 5 nl) ([(2, ro rc e2 1)] ++ [(3, own ec 31 4)] ++ [(5, own lc 3 1)]) n2 c2 tc (iv) 21) [tru 8, past 11 .normal (K7 [17, 0, 4, 4] N fr tt at0 en t1 (sl 3 ne) (sl 2 nr) (sl 5 nl) ([(2, ro rc e2 1)] ++ [(3, own ec 31 4)] ++ [(5, own lc 3 1)]) n2 c2 tc iv (4) 24)] 21 ([(2, 2, true)] ++ [(3, 3, true)] ++ [(5, 5, true)]) = some (.normal, some (Q7 [17, 0, 4, 4] N fr tt at0 en t1 (sl 3 ne) (sl 2 nr) (sl 5 nl) ([(2, ro rc e2 1)] ++ [(3, own ec 31 4)] ++ [(5, own lc 3 1)]) n2 c2 tc (IntKind.wrap .i64 (iv + 1)) 21), [[i64 N, (sl 3 ne)]] ++ ([rc] ++ [ec] ++ [lc]) ++ [tc, [(sl 5 nl), (sl 2 nr), .slice (some ⟨18, 0, none⟩) n2 c2, .slice none 0 0], [i64 en, i64 t1, i64 tt, i64 at0]], true, [.b (decide (iv < (4 : Int))) (.val (.bool true)), .bk 6 (.loop loopK7) 21 ([0, 1, 4, 16, 17] ++ [17, 0, 4, 4]) (some (K7 [17, 0, 4, 4] N fr tt at0 en t1 (sl 3 ne) (sl 2 nr) (sl 5 nl) ([(2, ro rc e2 1)] ++ [(3, own ec 31 4)] ++ [(5, own lc 3 1)]) n2 c2 tc iv (0) 21)) ([[i64 N, (sl 3 ne)]] ++ ([rc] ++ [ec] ++ [lc]) ++ [tc, [(sl 5 nl), (sl 2 nr), .slice (some ⟨18, 0, none⟩) n2 c2, .slice none 0 0], [i64 en, i64 t1, i64 tt, i64 at0]]) true .normal (K7 [17, 0, 4, 4] N fr tt at0 en t1 (sl 3 ne) (sl 2 nr) (sl 5 nl) ([(2, ro rc e2 1)] ++ [(3, own ec 31 4)] ++ [(5, own lc 3 1)]) n2 c2 tc iv (4) 24)]) := by kernel_rfl
theorem tq_ssswE (ne nl nr n2 c2 e2 : Nat) (ec lc rc tc : List Value) (N fr tt at0 en t1 iv : Int) (g : Code → St → Option (AExit × St)) : rndQ7 [17, 0, 4, 4] ([(2, 2, true)] ++ [(3, 3, true)] ++ [(5, 5, true)]) g (Q7 [17, 0, 4, 4] N fr tt at0 en t1 (sl 3 ne) (sl 2 nr) (sl 5 nl) ([(2, ro rc e2 1)] ++ [(3, own ec 31 4)] ++ [(5, own lc 3 1)]) n2 c2 tc (iv) 21) [fls 8] 24 ([(2, 2, true)] ++ [(3, 3, true)] ++ [(5, 5, true)]) = some (.exit 4, some (Q7 [17, 0, 4, 4] N fr tt at0 en t1 (sl 3 ne) (sl 2 nr) (sl 5 nl) ([(2, ro rc e2 1)] ++ [(3, own ec 31 4)] ++ [(5, own lc 3 1)]) n2 c2 tc (iv) 24), [[i64 N, (sl 3 ne)]] ++ ([rc] ++ [ec] ++ [lc]) ++ [tc, [(sl 5 nl), (sl 2 nr), .slice (some ⟨18, 0, none⟩) n2 c2, .slice none 0 0], [i64 en, i64 t1, i64 tt, i64 at0]], true, [.b (decide (iv < (4 : Int))) (.val (.bool false))]) := by kernel_rfl
end Go.Proofs.YtlmifmodnkhidaaDoor

open Go Go.Am Go.Proofs
namespace Go.Proofs.YtlmifmodnkhidaaDoor
set_option maxRecDepth 10000

theorem renL_c {ρ : Moves} {v : Value} {l : List Value} (h1 : renV ρ v = some v) (h2 : renL ρ l = some l) : renL ρ (v :: l) = some (v :: l) := by simp [renL, h1, h2]
theorem renV_sl {ρ : Moves} {id o n c : Nat} (h : toTgt ρ id = some id) : renV ρ (.slice (some ⟨id, o, none⟩) n c) = some (.slice (some ⟨id, o, none⟩) n c) := by simp [renV, renAddr, h]
theorem stNil {ρ : Moves} : ∀ l ∈ ([] : List (List Value)), renL ρ l = some l := fun l hl => by cases hl
theorem stCons {ρ : Moves} {a : List Value} {r : List (List Value)} (h1 : renL ρ a = some a) (h2 : ∀ l ∈ r, renL ρ l = some l) : ∀ l ∈ a :: r, renL ρ l = some l := fun l hl => by
  rcases List.mem_cons.1 hl with rfl | hl
  · exact h1
  · exact h2 l hl
theorem ld25 (off : Nat) (b : ABlk) : aloadB Tryd.prog 25 off (some b) = b.cs[off]? := by kernel_rfl

/- Where a row, a network's edges lie. -/
def Lie (M : Mem) (v : Value) (L : List Int) : Prop := (v = .slice none 0 0 ∧ L = []) ∨ ∃ id A m c, v = .slice (some ⟨id, 0, none⟩) m c ∧ M.get id = some A ∧ A.cs = ints L ∧ A.esz = 1 ∧ L.length = m ∧ m ≤ 2 ^ 30 - 1
def NetLie (M : Mem) (v : Value) (es : List E) : Prop := (v = .slice none 0 0 ∧ es = []) ∨ ∃ id A m c, v = .slice (some ⟨id, 0, none⟩) m c ∧ M.get id = some A ∧ A.cs = ecOf es ∧ A.esz = 4 ∧ es.length = m
theorem gW_lie {M : Mem} {N fr tt : Int} {nv v : Value} {es : List E} {L : List Int} (hn : NetLie M nv es) (hl : Lie M v L) : gW [.agg ⟨[i64 N, nv]⟩, i64 fr, i64 tt, v] M = some (out24 M (walkR N es fr tt L)) := by
  rcases hn with ⟨rfl, rfl⟩ | ⟨a, A, ne, ca, rfl, hA, hAc, hAe, rfl⟩
  · rcases hl with ⟨rfl, rfl⟩ | ⟨b, Bk, nl, cb, rfl, hB, hBc, hBe, rfl, hlen⟩
    · rfl
    · show g24n [.agg ⟨[i64 N, .slice none 0 0]⟩, i64 fr, i64 tt, .slice (some ⟨b, 0, none⟩) L.length cb] M = _
      have e2 : ints? ((Bk.cs.drop 0).take L.length) = some L := by
        rw [List.drop_zero, hBc, ← ints_len, List.take_length]; exact ints?_ints L
      have e3 : (Nat.beq L.length L.length && Nat.ble (0 + L.length) Bk.cs.length && Nat.beq Bk.esz 1) = true := by
        rw [hBc, hBe, ints_len, Nat.beq_refl, Nat.ble_eq_true_of_le (show 0 + L.length ≤ L.length by omega)]; rfl
      unfold g24n
      simp only [hB, e2, e3, cond_true]
  · rcases hl with ⟨rfl, rfl⟩ | ⟨b, Bk, nl, cb, rfl, hB, hBc, hBe, rfl, hlen⟩
    · rfl
    · exact gW_ss (A := A) (Bk := Bk) (es := es) (ls := L) hAc (by rw [List.drop_zero, hBc, ← ints_len, List.take_length]; exact ints?_ints L) (by rw [hBc, ints_len]; omega) rfl rfl hlen hAe hBe hA hB

structure Fin7 where
  N : Int
  es : List E
  rw : Row
  ls : List Int
  fr : Int
  tt : Int
  at0 : Int
  en : Int
  t1 : Int
  n2 : Nat
  c2 : Nat
  g : Bool
def lgL : Bool → List Nat
  | false => [0, 4, 4]
  | true => [17, 0, 4, 4]
def rwL : Row → List Int
  | none => []
  | some (_, rs) => rs
structure Ok7 (n : Fin7) : Prop where
  g : n.g = true → n.rw ≠ none ∧ n.ls ≠ []
  e : n.es = [] → n.ls = []
  n2 : (n.ls ++ rwL n.rw).length = n.n2
  len : n.ls.length ≤ 20 ∧ (rwL n.rw).length ≤ 60
def eM : List E → Moves
  | [] => []
  | _ :: _ => [(3, 3, true)]
def dM (n : Fin7) : Moves := rM n.rw ++ eM n.es ++ lM 5 n.ls
def SK7 (n : Fin7) (i k nx : Nat) : St :=
  K7 (lgL n.g) n.N n.fr n.tt n.at0 n.en n.t1 (eV 3 n.es) (rV n.rw) (iV 5 n.ls) (rB n.rw ++ eB 3 n.es ++ iB 5 n.ls) n.n2 n.c2 (ints (n.ls ++ rwL n.rw)) (i : Nat) (k : Nat) nx
def SQ7 (n : Fin7) (i nx : Nat) : St :=
  Q7 (lgL n.g) n.N n.fr n.tt n.at0 n.en n.t1 (eV 3 n.es) (rV n.rw) (iV 5 n.ls) (rB n.rw ++ eB 3 n.es ++ iB 5 n.ls) n.n2 n.c2 (ints (n.ls ++ rwL n.rw)) (i : Nat) nx
def rowV (n : Fin7) : Nat → Value
  | 0 => iV 5 n.ls
  | 1 => rV n.rw
  | 2 => .slice (some ⟨18, 0, none⟩) n.n2 n.c2
  | _ => .slice none 0 0
def rowL (n : Fin7) : Nat → List Int
  | 0 => n.ls
  | 1 => rwL n.rw
  | 2 => n.ls ++ rwL n.rw
  | _ => []
def rO : Row → Option ABlk
  | none => none
  | some (e2, rs) => some (ro (ints rs) e2 1)
def eO : List E → Option ABlk
  | [] => none
  | e :: l => some (own (ecOf (e :: l)) 31 4)
def lO : List Int → Option ABlk
  | [] => none
  | x :: l => some (own (ints (x :: l)) 3 1)
theorem netLie {M : Mem} {es : List E} (h : M.get 3 = eO es) : NetLie M (eV 3 es) es := by
  cases es with
  | nil => exact .inl ⟨rfl, rfl⟩
  | cons e l => exact .inr ⟨3, own (ecOf (e :: l)) 31 4, l.length + 1, _, rfl, h, rfl, rfl, rfl⟩
theorem lieL {M : Mem} {ls : List Int} (h : M.get 5 = lO ls) (hl : ls.length ≤ 20) : Lie M (iV 5 ls) ls := by
  cases ls with
  | nil => exact .inl ⟨rfl, rfl⟩
  | cons x l => exact .inr ⟨5, own (ints (x :: l)) 3 1, l.length + 1, _, rfl, h, rfl, rfl, rfl, by simp only [List.length_cons] at hl; omega⟩
theorem lieR {M : Mem} {r : Row} (h : M.get 2 = rO r) (hl : (rwL r).length ≤ 60) : Lie M (rV r) (rwL r) := by
  cases r with
  | none => exact .inl ⟨rfl, rfl⟩
  | some p => exact .inr ⟨2, ro (ints p.2) p.1 1, p.2.length, _, rfl, h, rfl, rfl, rfl, by simp only [rwL] at hl; omega⟩
theorem lieRow {M : Mem} {n : Fin7} (ok : Ok7 n) (h2 : M.get 2 = rO n.rw) (h5 : M.get 5 = lO n.ls) (h18 : M.get 18 = some (own (ints (n.ls ++ rwL n.rw)) 3 1)) : ∀ i, Lie M (rowV n i) (rowL n i)
  | 0 => lieL h5 ok.len.1
  | 1 => lieR h2 ok.len.2
  | 2 => .inr ⟨18, own (ints (n.ls ++ rwL n.rw)) 3 1, n.n2, n.c2, rfl, h18, rfl, rfl, ok.n2, by have := ok.n2; have := ok.len; rw [List.length_append] at *; omega⟩
  | _ + 3 => .inl ⟨rfl, rfl⟩

section
variable {bs : List (Nat × (Code → St → Option (AExit × St)))} {D : Nat → Door} {n : Fin7} {i : Nat} {w y : Option ABlk}
abbrev LK (n : Fin7) (w y : Option ABlk) : List (Option ABlk) := [rO n.rw, eO n.es, lO n.ls, some (own (ints (n.ls ++ rwL n.rw)) 3 1), w, y]
theorem LK_get {M : Mem} (h : [2, 3, 5, 18, 21, 22].map M.get = LK n w y) : M.get 2 = rO n.rw ∧ M.get 3 = eO n.es ∧ M.get 5 = lO n.ls ∧ M.get 18 = some (own (ints (n.ls ++ rwL n.rw)) 3 1) ∧ M.get 21 = w ∧ M.get 22 = y := by
  simp only [List.map_cons, List.map_nil, List.cons.injEq, and_true] at h
  exact h
theorem gW_LK (ok : Ok7 n) {M : Mem} (h : [2, 3, 5, 18, 21, 22].map M.get = LK n w y) (a x : Int) : gW [.agg ⟨[i64 n.N, eV 3 n.es]⟩, i64 a, i64 x, rowV n i] { M with log := [] } = some (out24 { M with log := [] } (walkR n.N n.es a x (rowL n i))) := by
  obtain ⟨h2, h3, h5, h18, _, _⟩ := LK_get h
  exact gW_lie (M := { M with log := [] }) (netLie h3) (lieRow ok h2 h5 h18 i)
theorem q24n (ok : Ok7 n) {a x c : Int} {bw : Bool} (hw : (walkR n.N n.es a x (rowL n i) = none ∧ c = 0 ∧ bw = false) ∨ (walkR n.N n.es a x (rowL n i) = some (c, []) ∧ bw = true)) : (QV.cr 24 [.agg ⟨[i64 n.N, eV 3 n.es]⟩, i64 a, i64 x, rowV n i] (LK n w y) (.val (.tuple ⟨[i64 c, .slice none 0 0, .bool bw]⟩))).holds Tryd.prog (SP7 bs) D [2, 3, 5, 18, 21, 22] := fun M hm => acall_same (by
  refine (gW_LK ok hm a x).trans ?_
  rcases hw with ⟨hw, rfl, rfl⟩ | ⟨hw, rfl⟩ <;> (rw [hw]; try rfl))
theorem q25n (ok : Ok7 n) {a x c : Int} {bw : Bool} (hw : (walkR n.N n.es a x (rowL n i) = none ∧ c = 0 ∧ bw = false) ∨ (walkR n.N n.es a x (rowL n i) = some (c, []) ∧ bw = true)) : (QV.cr 25 [.agg ⟨[i64 n.N, eV 3 n.es]⟩, i64 a, i64 x, rowV n i] (LK n w y) (.val (.tuple ⟨[i64 c, .slice none 0 0, .bool bw]⟩))).holds Tryd.prog (SP7 bs) D [2, 3, 5, 18, 21, 22] := fun M hm => acall_same (by
  refine (gW_LK ok hm a x).trans ?_
  rcases hw with ⟨hw, rfl, rfl⟩ | ⟨hw, rfl⟩ <;> (rw [hw]; try rfl))
theorem q24s (ok : Ok7 n) {a x c z : Int} {ws : List Int} {nx : Nat} (hw : walkR n.N n.es a x (rowL n i) = some (c, z :: ws)) : (QV.ca 24 [.agg ⟨[i64 n.N, eV 3 n.es]⟩, i64 a, i64 x, rowV n i] (LK n w y) nx (.val (.tuple ⟨[i64 c, sl nx (ws.length + 1), .bool true]⟩)) (own (ints (z :: ws)) 3 1)).holds Tryd.prog (SP7 bs) D [2, 3, 5, 18, 21, 22] := fun M hm hnx => acall_alloc (by
  refine (gW_LK ok hm a x).trans ?_
  rw [hw]
  show some (Value.tuple ⟨[i64 c, sl M.next (ws.length + 1), .bool true]⟩, _) = _
  rw [hnx])
theorem q25s (ok : Ok7 n) {a x c z : Int} {ws : List Int} {nx : Nat} (hw : walkR n.N n.es a x (rowL n i) = some (c, z :: ws)) : (QV.ca 25 [.agg ⟨[i64 n.N, eV 3 n.es]⟩, i64 a, i64 x, rowV n i] (LK n w y) nx (.val (.tuple ⟨[i64 c, sl nx (ws.length + 1), .bool true]⟩)) (own (ints (z :: ws)) 3 1)).holds Tryd.prog (SP7 bs) D [2, 3, 5, 18, 21, 22] := fun M hm hnx => acall_alloc (by
  refine (gW_LK ok hm a x).trans ?_
  rw [hw]
  show some (Value.tuple ⟨[i64 c, sl M.next (ws.length + 1), .bool true]⟩, _) = _
  rw [hnx])
theorem q26 {ids : List Nat} {looks : List (Option ABlk)} {sv wv : Value} {xs : List Int} (h1 : ∀ M : Mem, ids.map M.get = looks → intsAt M sv = some xs ∧ intsAt M wv = some xs) : (QV.cr 26 [sv, wv] looks (.val (.bool true))).holds Tryd.prog (SP7 bs) D ids := fun M hm => acall_same (by
  obtain ⟨k1, k2⟩ := h1 M hm
  have k1' : intsAt ({ M with log := [] } : Mem) sv = some xs := k1
  have k2' : intsAt ({ M with log := [] } : Mem) wv = some xs := k2
  unfold onlySpecs viaSpecs
  rw [show (SP7 bs).calls 26 = some gI from rfl]
  simp only
  unfold gI
  simp only [k1', k2', eqB, decide_true])
theorem q26s {ws : List Int} (hl : ws.length ≤ 2 ^ 60 - 1) {z : Int} : (QV.cr 26 [sl 21 (ws.length + 1), sl 22 (ws.length + 1)] (LK n (some (own (ints (z :: ws)) 3 1)) (some (own (ints (z :: ws)) 3 1))) (.val (.bool true))).holds Tryd.prog (SP7 bs) D [2, 3, 5, 18, 21, 22] := q26 (xs := z :: ws) fun M hm => by
  obtain ⟨_, _, _, _, h21, h22⟩ := LK_get hm
  exact ⟨at_own h21 rfl rfl (by omega), at_own h22 rfl rfl (by omega)⟩
end
theorem go_words (es : List E) : ∀ (l : List Int) (a c : Int) (ws : List Int) (r : Int × Int × List Int), go es l a c ws = some r → r.2.2.length = ws.length + l.length
  | [], a, c, ws, r, h => by cases h; rfl
  | x :: l, a, c, ws, r, h => by
    unfold go at h
    split at h
    · split at h
      · split at h
        · have := go_words es l _ _ _ r h
          rw [this, List.length_append]; simp only [List.length_cons, List.length_nil]; omega
        · cases h
      · cases h
    · cases h
theorem walk_words {N fr tt c : Int} {es : List E} {l ws : List Int} (h : walkR N es fr tt l = some (c, ws)) : ws.length = l.length := by
  unfold walkR at h
  split at h
  · cases hg : go es l fr 0 [] with
    | none => rw [hg] at h; cases h
    | some r =>
      obtain ⟨a, c', ws'⟩ := r
      rw [hg] at h
      simp only at h
      split at h
      · cases h
        have := go_words es l fr 0 [] _ hg
        simpa using this
      · cases h
  · cases h
theorem rowL_len {n : Fin7} (ok : Ok7 n) : ∀ i, (rowL n i).length ≤ 80
  | 0 => by have := ok.len; show n.ls.length ≤ 80; omega
  | 1 => by have := ok.len; show (rwL n.rw).length ≤ 80; omega
  | 2 => by have := ok.len; show (n.ls ++ rwL n.rw).length ≤ 80; rw [List.length_append]; omega
  | _ + 3 => by show ([] : List Int).length ≤ 80; exact Nat.zero_le _
theorem ldRow {SP : Specs} {D : Nat → Door} {ids : List Nat} (n : Fin7) {i : Nat} (hi : i < 4) : (QV.ld 25 (0 + ((i : Nat) : Int).toNat * 1) (some (own [iV 5 n.ls, rV n.rw, .slice (some ⟨18, 0, none⟩) n.n2 n.c2, .slice none 0 0] 25 1)) (.val (rowV n i))).holds Tryd.prog SP D ids := by
  have h : i = 0 ∨ i = 1 ∨ i = 2 ∨ i = 3 := by omega
  rcases h with rfl | rfl | rfl | rfl <;> exact ⟨_, rfl, by rw [ld25]; rfl⟩

abbrev GoalK7 (n : Fin7) (i : Nat) (B k : Nat) : Prop :=
  ∃ SP m s1, SpecsOk Tryd.prog [] B SP ∧ s1.M.next ≤ 24 ∧
      ((∃ nx mv keep d', aexec Tryd.prog [] SP m loopK7 (SK7 n i k 21) = some (.normal, s1) ∧ View 21 nx mv keep [0, 1, 4, 16, 17] ([0, 1, 4, 16, 17] ++ lgL n.g) s1 (SK7 n i d' 21) ∧ d' ≤ 4 ∧ 4 - d' < 4 - k) ∨
        (∃ mv keep, aexec Tryd.prog [] SP m loopK7 (SK7 n i k 21) = some (.exit 6, s1) ∧ View 21 24 mv keep [0, 1, 4, 16, 17] ([0, 1, 4, 16, 17] ++ lgL n.g) s1 (SK7 n i 4 24)))
theorem stepK7 (n : Fin7) (ok : Ok7 n) (i : Nat) (hi : i < 4) (B k : Nat) (hk : k ≤ 4) : GoalK7 n i B k := by
  have hS := specs7 (bs := []) (fun _ p hp => by cases hp) B
  by_cases hlt : k < 4
  · obtain ⟨x, hx⟩ : ∃ x, [n.en, n.t1, n.tt, n.at0][k]? = some x := ⟨_, List.getElem?_eq_getElem (by simpa using hlt)⟩
    have hiv : IntKind.wrap .i64 ((k : Int) + 1) = ((k + 1 : Nat) : Int) := by rw [IntWalk.i64_in _ (by omega)]; omega
    have q1 : (QV.b (decide (((k : Nat) : Int) < 4)) (.val (.bool true))).holds Tryd.prog (SP7 []) noDoors [2, 3, 5, 18, 21, 22] := qd (by omega)
    have q2 : (QV.ib ((k : Nat) : Int) 4).holds Tryd.prog (SP7 []) noDoors [2, 3, 5, 18, 21, 22] := qib (by omega)
    have q3 : (QV.ld 3 (0 + ((k : Nat) : Int).toNat * 1) (some (own [i64 n.en, i64 n.t1, i64 n.tt, i64 n.at0] 3 1)) (.val (i64 x))).holds Tryd.prog (SP7 []) noDoors [2, 3, 5, 18, 21, 22] := ldi' (l := [n.en, n.t1, n.tt, n.at0]) hx
    have q4 : (QV.ib ((i : Nat) : Int) 4).holds Tryd.prog (SP7 []) noDoors [2, 3, 5, 18, 21, 22] := qib (by omega)
    have q5 := ldRow (SP := SP7 []) (D := noDoors) (ids := [2, 3, 5, 18, 21, 22]) n hi
    have close : ∀ {F : List Fact} {mv : Moves} {q : List QV} {st : List (List Value)}, rndK7 (lgL n.g) [2, 3, 5, 18, 21, 22] (SK7 n i k 21) F 21 mv = some (.normal, some (K7 (lgL n.g) n.N n.fr n.tt n.at0 n.en n.t1 (eV 3 n.es) (rV n.rw) (iV 5 n.ls) (rB n.rw ++ eB 3 n.es ++ iB 5 n.ls) n.n2 n.c2 (ints (n.ls ++ rwL n.rw)) (i : Nat) (IntKind.wrap .i64 ((k : Int) + 1)) 21), st, true, q) →
        (∀ p ∈ q, p.holds Tryd.prog (SP7 []) noDoors [2, 3, 5, 18, 21, 22]) → (∀ l ∈ st, renL (mvF mv) l = some l) → GoalK7 n i B k := fun hs hq hst => by
      unfold rndK7 at hs
      obtain ⟨s1, k1, k2, k3⟩ := round_of (doors := noDoors) (ids := [2, 3, 5, 18, 21, 22]) hs hq hst
      rw [hiv] at k3
      exact ⟨_, 60, s1, hS, k1, .inl ⟨21, _, _, k + 1, k2, k3, by omega, by omega⟩⟩
    have hcc : ∀ c : Int, (QV.b (c != c) (.val (.bool false))).holds Tryd.prog (SP7 []) noDoors [2, 3, 5, 18, 21, 22] := fun c => bb (by simp)
    have hbb : ∀ bw : Bool, (QV.b (bw != bw) (.val (.bool false))).holds Tryd.prog (SP7 []) noDoors [2, 3, 5, 18, 21, 22] := fun bw => by cases bw <;> rfl
    have q26n : (QV.cr 26 [.slice none 0 0, .slice none 0 0] (LK n none none) (.val (.bool true))).holds Tryd.prog (SP7 []) noDoors [2, 3, 5, 18, 21, 22] := q26 (xs := []) fun M _ => ⟨rfl, rfl⟩
    have hN : ∀ (c : Int) (bw : Bool), ((walkR n.N n.es n.at0 x (rowL n i) = none ∧ c = 0 ∧ bw = false) ∨ (walkR n.N n.es n.at0 x (rowL n i) = some (c, []) ∧ bw = true)) → GoalK7 n i B k := fun c bw hw => by
      have q6 := q24n (bs := []) (D := noDoors) (w := none) (y := none) ok hw
      have q7 := q25n (bs := []) (D := noDoors) (w := none) (y := none) ok hw
      have oke := ok.e
      have okg := ok.g
      clear hw ok hx
      obtain ⟨N, es, rw0, ls, fr, tt, at0, en, t1, n2, c2, gg⟩ := n
      simp only at oke okg
      cases es with
      | nil =>
        cases rw0 with
        | none =>
          obtain rfl := oke rfl
          cases gg with
          | true => exact absurd rfl (okg rfl).2
          | false =>
            exact close (mv := [] ++ [] ++ []) (tk_nnnn n2 c2 (ints ([] ++ [])) N fr tt at0 en t1 ((i : Nat) : Int) ((k : Nat) : Int) x c bw _) (by simp only [List.forall_mem_cons]; (repeat' apply And.intro) <;> first | exact q1 | exact q2 | exact q3 | exact q4 | exact q5 | exact q6 | exact q7 | exact hcc _ | exact hbb _ | exact q26n | (intro x hx; cases hx)) (by repeat' first | exact stNil | exact renL_flat _ _ (ints_flat _) | exact renL_flat _ _ (ecOf_flat _) | refine stCons ?_ ?_ | refine renL_c ?_ ?_ | exact renV_sl rfl | exact rfl)
        | some rw0 =>
          obtain ⟨e2, rs⟩ := rw0
          obtain rfl := oke rfl
          cases gg with
          | true => exact absurd rfl (okg rfl).2
          | false =>
            exact close (mv := [(2, 2, true)] ++ [] ++ []) (tk_nsnn rs.length n2 c2 e2 (ints rs) (ints ([] ++ rs)) N fr tt at0 en t1 ((i : Nat) : Int) ((k : Nat) : Int) x c bw _) (by simp only [List.forall_mem_cons]; (repeat' apply And.intro) <;> first | exact q1 | exact q2 | exact q3 | exact q4 | exact q5 | exact q6 | exact q7 | exact hcc _ | exact hbb _ | exact q26n | (intro x hx; cases hx)) (by repeat' first | exact stNil | exact renL_flat _ _ (ints_flat _) | exact renL_flat _ _ (ecOf_flat _) | refine stCons ?_ ?_ | refine renL_c ?_ ?_ | exact renV_sl rfl | exact rfl)
      | cons e0 l0 =>
        cases rw0 with
        | none =>
          cases ls with
          | nil =>
            cases gg with
            | true => exact absurd rfl (okg rfl).1
            | false =>
              exact close (mv := [] ++ [(3, 3, true)] ++ []) (tk_snnn (l0.length + 1) n2 c2 (ecOf (e0 :: l0)) (ints ([] ++ [])) N fr tt at0 en t1 ((i : Nat) : Int) ((k : Nat) : Int) x c bw _) (by simp only [List.forall_mem_cons]; (repeat' apply And.intro) <;> first | exact q1 | exact q2 | exact q3 | exact q4 | exact q5 | exact q6 | exact q7 | exact hcc _ | exact hbb _ | exact q26n | (intro x hx; cases hx)) (by repeat' first | exact stNil | exact renL_flat _ _ (ints_flat _) | exact renL_flat _ _ (ecOf_flat _) | refine stCons ?_ ?_ | refine renL_c ?_ ?_ | exact renV_sl rfl | exact rfl)
          | cons y ys =>
            cases gg with
            | true => exact absurd rfl (okg rfl).1
            | false =>
              exact close (mv := [] ++ [(3, 3, true)] ++ [(5, 5, true)]) (tk_snsn (l0.length + 1) (ys.length + 1) n2 c2 (ecOf (e0 :: l0)) (ints (y :: ys)) (ints ((y :: ys) ++ [])) N fr tt at0 en t1 ((i : Nat) : Int) ((k : Nat) : Int) x c bw _) (by simp only [List.forall_mem_cons]; (repeat' apply And.intro) <;> first | exact q1 | exact q2 | exact q3 | exact q4 | exact q5 | exact q6 | exact q7 | exact hcc _ | exact hbb _ | exact q26n | (intro x hx; cases hx)) (by repeat' first | exact stNil | exact renL_flat _ _ (ints_flat _) | exact renL_flat _ _ (ecOf_flat _) | refine stCons ?_ ?_ | refine renL_c ?_ ?_ | exact renV_sl rfl | exact rfl)
        | some rw0 =>
          obtain ⟨e2, rs⟩ := rw0
          cases ls with
          | nil =>
            cases gg with
            | true => exact absurd rfl (okg rfl).2
            | false =>
              exact close (mv := [(2, 2, true)] ++ [(3, 3, true)] ++ []) (tk_ssnn (l0.length + 1) rs.length n2 c2 e2 (ecOf (e0 :: l0)) (ints rs) (ints ([] ++ rs)) N fr tt at0 en t1 ((i : Nat) : Int) ((k : Nat) : Int) x c bw _) (by simp only [List.forall_mem_cons]; (repeat' apply And.intro) <;> first | exact q1 | exact q2 | exact q3 | exact q4 | exact q5 | exact q6 | exact q7 | exact hcc _ | exact hbb _ | exact q26n | (intro x hx; cases hx)) (by repeat' first | exact stNil | exact renL_flat _ _ (ints_flat _) | exact renL_flat _ _ (ecOf_flat _) | refine stCons ?_ ?_ | refine renL_c ?_ ?_ | exact renV_sl rfl | exact rfl)
          | cons y ys =>
            cases gg with
            | true =>
              exact close (mv := [(2, 2, true)] ++ [(3, 3, true)] ++ [(5, 5, true)]) (tk_ssswn (l0.length + 1) (ys.length + 1) rs.length n2 c2 e2 (ecOf (e0 :: l0)) (ints (y :: ys)) (ints rs) (ints ((y :: ys) ++ rs)) N fr tt at0 en t1 ((i : Nat) : Int) ((k : Nat) : Int) x c bw _) (by simp only [List.forall_mem_cons]; (repeat' apply And.intro) <;> first | exact q1 | exact q2 | exact q3 | exact q4 | exact q5 | exact q6 | exact q7 | exact hcc _ | exact hbb _ | exact q26n | (intro x hx; cases hx)) (by repeat' first | exact stNil | exact renL_flat _ _ (ints_flat _) | exact renL_flat _ _ (ecOf_flat _) | refine stCons ?_ ?_ | refine renL_c ?_ ?_ | exact renV_sl rfl | exact rfl)
            | false =>
              exact close (mv := [(2, 2, true)] ++ [(3, 3, true)] ++ [(5, 5, true)]) (tk_sssn (l0.length + 1) (ys.length + 1) rs.length n2 c2 e2 (ecOf (e0 :: l0)) (ints (y :: ys)) (ints rs) (ints ((y :: ys) ++ rs)) N fr tt at0 en t1 ((i : Nat) : Int) ((k : Nat) : Int) x c bw _) (by simp only [List.forall_mem_cons]; (repeat' apply And.intro) <;> first | exact q1 | exact q2 | exact q3 | exact q4 | exact q5 | exact q6 | exact q7 | exact hcc _ | exact hbb _ | exact q26n | (intro x hx; cases hx)) (by repeat' first | exact stNil | exact renL_flat _ _ (ints_flat _) | exact renL_flat _ _ (ecOf_flat _) | refine stCons ?_ ?_ | refine renL_c ?_ ?_ | exact renV_sl rfl | exact rfl)
    cases hw : walkR n.N n.es n.at0 x (rowL n i) with
    | none => exact hN 0 false (.inl ⟨hw, rfl, rfl⟩)
    | some r =>
      obtain ⟨c, ws⟩ := r
      cases ws with
      | nil => exact hN c true (.inr ⟨hw, rfl⟩)
      | cons z ws =>
        have hwl := walk_words hw
        have hrl := rowL_len ok i
        simp only [List.length_cons] at hwl
        have q6 := q24s (bs := []) (D := noDoors) (w := none) (y := none) (nx := 21) ok hw
        have q7 := q25s (bs := []) (D := noDoors) (w := some (own (ints (z :: ws)) 3 1)) (y := none) (nx := 22) ok hw
        have q8 := q26s (bs := []) (D := noDoors) (n := n) (ws := ws) (z := z) (by omega)
        have oke := ok.e
        have okg := ok.g
        clear hw ok hx hN hwl hrl
        obtain ⟨N, es, rw0, ls, fr, tt, at0, en, t1, n2, c2, gg⟩ := n
        simp only at oke okg
        cases es with
        | nil =>
          cases rw0 with
          | none =>
            obtain rfl := oke rfl
            cases gg with
            | true => exact absurd rfl (okg rfl).2
            | false =>
              exact close (mv := [] ++ [] ++ []) (tk_nnns n2 c2 (ws.length + 1) (ints ([] ++ [])) (ints (z :: ws)) N fr tt at0 en t1 ((i : Nat) : Int) ((k : Nat) : Int) x c _) (by simp only [List.forall_mem_cons]; (repeat' apply And.intro) <;> first | exact q1 | exact q2 | exact q3 | exact q4 | exact q5 | exact q6 | exact q7 | exact hcc _ | exact q8 | (intro x hx; cases hx)) (by repeat' first | exact stNil | exact renL_flat _ _ (ints_flat _) | exact renL_flat _ _ (ecOf_flat _) | refine stCons ?_ ?_ | refine renL_c ?_ ?_ | exact renV_sl rfl | exact rfl)
          | some rw0 =>
            obtain ⟨e2, rs⟩ := rw0
            obtain rfl := oke rfl
            cases gg with
            | true => exact absurd rfl (okg rfl).2
            | false =>
              exact close (mv := [(2, 2, true)] ++ [] ++ []) (tk_nsns rs.length n2 c2 e2 (ws.length + 1) (ints rs) (ints ([] ++ rs)) (ints (z :: ws)) N fr tt at0 en t1 ((i : Nat) : Int) ((k : Nat) : Int) x c _) (by simp only [List.forall_mem_cons]; (repeat' apply And.intro) <;> first | exact q1 | exact q2 | exact q3 | exact q4 | exact q5 | exact q6 | exact q7 | exact hcc _ | exact q8 | (intro x hx; cases hx)) (by repeat' first | exact stNil | exact renL_flat _ _ (ints_flat _) | exact renL_flat _ _ (ecOf_flat _) | refine stCons ?_ ?_ | refine renL_c ?_ ?_ | exact renV_sl rfl | exact rfl)
        | cons e0 l0 =>
          cases rw0 with
          | none =>
            cases ls with
            | nil =>
              cases gg with
              | true => exact absurd rfl (okg rfl).1
              | false =>
                exact close (mv := [] ++ [(3, 3, true)] ++ []) (tk_snns (l0.length + 1) n2 c2 (ws.length + 1) (ecOf (e0 :: l0)) (ints ([] ++ [])) (ints (z :: ws)) N fr tt at0 en t1 ((i : Nat) : Int) ((k : Nat) : Int) x c _) (by simp only [List.forall_mem_cons]; (repeat' apply And.intro) <;> first | exact q1 | exact q2 | exact q3 | exact q4 | exact q5 | exact q6 | exact q7 | exact hcc _ | exact q8 | (intro x hx; cases hx)) (by repeat' first | exact stNil | exact renL_flat _ _ (ints_flat _) | exact renL_flat _ _ (ecOf_flat _) | refine stCons ?_ ?_ | refine renL_c ?_ ?_ | exact renV_sl rfl | exact rfl)
            | cons y ys =>
              cases gg with
              | true => exact absurd rfl (okg rfl).1
              | false =>
                exact close (mv := [] ++ [(3, 3, true)] ++ [(5, 5, true)]) (tk_snss (l0.length + 1) (ys.length + 1) n2 c2 (ws.length + 1) (ecOf (e0 :: l0)) (ints (y :: ys)) (ints ((y :: ys) ++ [])) (ints (z :: ws)) N fr tt at0 en t1 ((i : Nat) : Int) ((k : Nat) : Int) x c _) (by simp only [List.forall_mem_cons]; (repeat' apply And.intro) <;> first | exact q1 | exact q2 | exact q3 | exact q4 | exact q5 | exact q6 | exact q7 | exact hcc _ | exact q8 | (intro x hx; cases hx)) (by repeat' first | exact stNil | exact renL_flat _ _ (ints_flat _) | exact renL_flat _ _ (ecOf_flat _) | refine stCons ?_ ?_ | refine renL_c ?_ ?_ | exact renV_sl rfl | exact rfl)
          | some rw0 =>
            obtain ⟨e2, rs⟩ := rw0
            cases ls with
            | nil =>
              cases gg with
              | true => exact absurd rfl (okg rfl).2
              | false =>
                exact close (mv := [(2, 2, true)] ++ [(3, 3, true)] ++ []) (tk_ssns (l0.length + 1) rs.length n2 c2 e2 (ws.length + 1) (ecOf (e0 :: l0)) (ints rs) (ints ([] ++ rs)) (ints (z :: ws)) N fr tt at0 en t1 ((i : Nat) : Int) ((k : Nat) : Int) x c _) (by simp only [List.forall_mem_cons]; (repeat' apply And.intro) <;> first | exact q1 | exact q2 | exact q3 | exact q4 | exact q5 | exact q6 | exact q7 | exact hcc _ | exact q8 | (intro x hx; cases hx)) (by repeat' first | exact stNil | exact renL_flat _ _ (ints_flat _) | exact renL_flat _ _ (ecOf_flat _) | refine stCons ?_ ?_ | refine renL_c ?_ ?_ | exact renV_sl rfl | exact rfl)
            | cons y ys =>
              cases gg with
              | true =>
                exact close (mv := [(2, 2, true)] ++ [(3, 3, true)] ++ [(5, 5, true)]) (tk_sssws (l0.length + 1) (ys.length + 1) rs.length n2 c2 e2 (ws.length + 1) (ecOf (e0 :: l0)) (ints (y :: ys)) (ints rs) (ints ((y :: ys) ++ rs)) (ints (z :: ws)) N fr tt at0 en t1 ((i : Nat) : Int) ((k : Nat) : Int) x c _) (by simp only [List.forall_mem_cons]; (repeat' apply And.intro) <;> first | exact q1 | exact q2 | exact q3 | exact q4 | exact q5 | exact q6 | exact q7 | exact hcc _ | exact q8 | (intro x hx; cases hx)) (by repeat' first | exact stNil | exact renL_flat _ _ (ints_flat _) | exact renL_flat _ _ (ecOf_flat _) | refine stCons ?_ ?_ | refine renL_c ?_ ?_ | exact renV_sl rfl | exact rfl)
              | false =>
                exact close (mv := [(2, 2, true)] ++ [(3, 3, true)] ++ [(5, 5, true)]) (tk_ssss (l0.length + 1) (ys.length + 1) rs.length n2 c2 e2 (ws.length + 1) (ecOf (e0 :: l0)) (ints (y :: ys)) (ints rs) (ints ((y :: ys) ++ rs)) (ints (z :: ws)) N fr tt at0 en t1 ((i : Nat) : Int) ((k : Nat) : Int) x c _) (by simp only [List.forall_mem_cons]; (repeat' apply And.intro) <;> first | exact q1 | exact q2 | exact q3 | exact q4 | exact q5 | exact q6 | exact q7 | exact hcc _ | exact q8 | (intro x hx; cases hx)) (by repeat' first | exact stNil | exact renL_flat _ _ (ints_flat _) | exact renL_flat _ _ (ecOf_flat _) | refine stCons ?_ ?_ | refine renL_c ?_ ?_ | exact renV_sl rfl | exact rfl)
  · have he : k = 4 := by omega
    subst he
    have q1 : (QV.b (decide (((4 : Nat) : Int) < 4)) (.val (.bool false))).holds Tryd.prog (SP7 []) noDoors [2, 3, 5, 18, 21, 22] := qdn (by omega)
    have close : ∀ {F : List Fact} {mv : Moves} {q : List QV} {st : List (List Value)}, rndK7 (lgL n.g) [2, 3, 5, 18, 21, 22] (SK7 n i 4 21) F 24 mv = some (.exit 6, some (SK7 n i 4 24), st, true, q) →
        (∀ p ∈ q, p.holds Tryd.prog (SP7 []) noDoors [2, 3, 5, 18, 21, 22]) → (∀ l ∈ st, renL (mvF mv) l = some l) → GoalK7 n i B 4 := fun hs hq hst => by
      unfold rndK7 at hs
      obtain ⟨s1, k1, k2, k3⟩ := round_of (doors := noDoors) (ids := [2, 3, 5, 18, 21, 22]) hs hq hst
      exact ⟨_, 60, s1, hS, k1, .inr ⟨_, _, k2, k3⟩⟩
    have oke := ok.e
    have okg := ok.g
    clear ok
    obtain ⟨N, es, rw0, ls, fr, tt, at0, en, t1, n2, c2, gg⟩ := n
    simp only at oke okg
    cases es with
    | nil =>
      cases rw0 with
      | none =>
        obtain rfl := oke rfl
        cases gg with
        | true => exact absurd rfl (okg rfl).2
        | false =>
          exact close (mv := [] ++ [] ++ []) (tk_nnnE n2 c2 (ints ([] ++ [])) N fr tt at0 en t1 ((i : Nat) : Int) ((4 : Nat) : Int)) (by simp only [List.forall_mem_cons]; (repeat' apply And.intro) <;> first | exact q1 | (intro x hx; cases hx)) (by repeat' first | exact stNil | exact renL_flat _ _ (ints_flat _) | exact renL_flat _ _ (ecOf_flat _) | refine stCons ?_ ?_ | refine renL_c ?_ ?_ | exact renV_sl rfl | exact rfl)
      | some rw0 =>
        obtain ⟨e2, rs⟩ := rw0
        obtain rfl := oke rfl
        cases gg with
        | true => exact absurd rfl (okg rfl).2
        | false =>
          exact close (mv := [(2, 2, true)] ++ [] ++ []) (tk_nsnE rs.length n2 c2 e2 (ints rs) (ints ([] ++ rs)) N fr tt at0 en t1 ((i : Nat) : Int) ((4 : Nat) : Int)) (by simp only [List.forall_mem_cons]; (repeat' apply And.intro) <;> first | exact q1 | (intro x hx; cases hx)) (by repeat' first | exact stNil | exact renL_flat _ _ (ints_flat _) | exact renL_flat _ _ (ecOf_flat _) | refine stCons ?_ ?_ | refine renL_c ?_ ?_ | exact renV_sl rfl | exact rfl)
    | cons e0 l0 =>
      cases rw0 with
      | none =>
        cases ls with
        | nil =>
          cases gg with
          | true => exact absurd rfl (okg rfl).1
          | false =>
            exact close (mv := [] ++ [(3, 3, true)] ++ []) (tk_snnE (l0.length + 1) n2 c2 (ecOf (e0 :: l0)) (ints ([] ++ [])) N fr tt at0 en t1 ((i : Nat) : Int) ((4 : Nat) : Int)) (by simp only [List.forall_mem_cons]; (repeat' apply And.intro) <;> first | exact q1 | (intro x hx; cases hx)) (by repeat' first | exact stNil | exact renL_flat _ _ (ints_flat _) | exact renL_flat _ _ (ecOf_flat _) | refine stCons ?_ ?_ | refine renL_c ?_ ?_ | exact renV_sl rfl | exact rfl)
        | cons y ys =>
          cases gg with
          | true => exact absurd rfl (okg rfl).1
          | false =>
            exact close (mv := [] ++ [(3, 3, true)] ++ [(5, 5, true)]) (tk_snsE (l0.length + 1) (ys.length + 1) n2 c2 (ecOf (e0 :: l0)) (ints (y :: ys)) (ints ((y :: ys) ++ [])) N fr tt at0 en t1 ((i : Nat) : Int) ((4 : Nat) : Int)) (by simp only [List.forall_mem_cons]; (repeat' apply And.intro) <;> first | exact q1 | (intro x hx; cases hx)) (by repeat' first | exact stNil | exact renL_flat _ _ (ints_flat _) | exact renL_flat _ _ (ecOf_flat _) | refine stCons ?_ ?_ | refine renL_c ?_ ?_ | exact renV_sl rfl | exact rfl)
      | some rw0 =>
        obtain ⟨e2, rs⟩ := rw0
        cases ls with
        | nil =>
          cases gg with
          | true => exact absurd rfl (okg rfl).2
          | false =>
            exact close (mv := [(2, 2, true)] ++ [(3, 3, true)] ++ []) (tk_ssnE (l0.length + 1) rs.length n2 c2 e2 (ecOf (e0 :: l0)) (ints rs) (ints ([] ++ rs)) N fr tt at0 en t1 ((i : Nat) : Int) ((4 : Nat) : Int)) (by simp only [List.forall_mem_cons]; (repeat' apply And.intro) <;> first | exact q1 | (intro x hx; cases hx)) (by repeat' first | exact stNil | exact renL_flat _ _ (ints_flat _) | exact renL_flat _ _ (ecOf_flat _) | refine stCons ?_ ?_ | refine renL_c ?_ ?_ | exact renV_sl rfl | exact rfl)
        | cons y ys =>
          cases gg with
          | true =>
            exact close (mv := [(2, 2, true)] ++ [(3, 3, true)] ++ [(5, 5, true)]) (tk_ssswE (l0.length + 1) (ys.length + 1) rs.length n2 c2 e2 (ecOf (e0 :: l0)) (ints (y :: ys)) (ints rs) (ints ((y :: ys) ++ rs)) N fr tt at0 en t1 ((i : Nat) : Int) ((4 : Nat) : Int)) (by simp only [List.forall_mem_cons]; (repeat' apply And.intro) <;> first | exact q1 | (intro x hx; cases hx)) (by repeat' first | exact stNil | exact renL_flat _ _ (ints_flat _) | exact renL_flat _ _ (ecOf_flat _) | refine stCons ?_ ?_ | refine renL_c ?_ ?_ | exact renV_sl rfl | exact rfl)
          | false =>
            exact close (mv := [(2, 2, true)] ++ [(3, 3, true)] ++ [(5, 5, true)]) (tk_sssE (l0.length + 1) (ys.length + 1) rs.length n2 c2 e2 (ecOf (e0 :: l0)) (ints (y :: ys)) (ints rs) (ints ((y :: ys) ++ rs)) N fr tt at0 en t1 ((i : Nat) : Int) ((4 : Nat) : Int)) (by simp only [List.forall_mem_cons]; (repeat' apply And.intro) <;> first | exact q1 | (intro x hx; cases hx)) (by repeat' first | exact stNil | exact renL_flat _ _ (ints_flat _) | exact renL_flat _ _ (ecOf_flat _) | refine stCons ?_ ?_ | refine renL_c ?_ ?_ | exact renV_sl rfl | exact rfl)
theorem blkK7 (n : Fin7) (ok : Ok7 n) (i : Nat) (hi : i < 4) (B : Nat) :
    BlkOk Tryd.prog [] B 6 (loopG (.loop loopK7) (doorF (lgL n.g) (dM n) 6) (SK7 n i 0 21) (.normal, SK7 n i 4 24)) := by
  exact loopG_ok (e := .exit 6) noNumP mixedP (fun d : Nat => SK7 n i d 21) (fun d => d ≤ 4) (fun d => 4 - d) (K := 24) (by intro h; cases h) (Nat.zero_le _) (show (21 : Nat) ≤ 24 by decide) rfl rfl rfl (fun _ _ _ => rfl) (stepK7 n ok i hi B)
abbrev GoalQ7 (n : Fin7) (B i : Nat) : Prop :=
  ∃ SP m s1, SpecsOk Tryd.prog [] B SP ∧ s1.M.next ≤ 24 ∧
      ((∃ nx mv keep d', aexec Tryd.prog [] SP m loopQ7 (SQ7 n i 21) = some (.normal, s1) ∧ View 21 nx mv keep [0, 1, 4, 16, 17] (lgL n.g) s1 (SQ7 n d' 21) ∧ d' ≤ 4 ∧ 4 - d' < 4 - i) ∨
        (∃ mv keep, aexec Tryd.prog [] SP m loopQ7 (SQ7 n i 21) = some (.exit 4, s1) ∧ View 21 24 mv keep [0, 1, 4, 16, 17] (lgL n.g) s1 (SQ7 n 4 24)))
theorem stepQ7 (n : Fin7) (ok : Ok7 n) (B i : Nat) (hi : i ≤ 4) : GoalQ7 n B i := by
  by_cases hlt : i < 4
  · let g := loopG (.loop loopK7) (doorF (lgL n.g) (dM n) 6) (SK7 n i 0 21) (.normal, SK7 n i 4 24)
    have hS : SpecsOk Tryd.prog [] B (SP7 [(6, g)]) := specs7 (fun B p hp => by rw [List.mem_singleton.1 hp]; exact blkK7 n ok i hlt B) B
    have hiv : IntKind.wrap .i64 ((i : Int) + 1) = ((i + 1 : Nat) : Int) := by rw [IntWalk.i64_in _ (by omega)]; omega
    have q1 : (QV.b (decide (((i : Nat) : Int) < 4)) (.val (.bool true))).holds Tryd.prog (SP7 [(6, g)]) (doorF (lgL n.g) (dM n)) [] := qd (by omega)
    have close : ∀ {F : List Fact} {mv : Moves} {q : List QV} {st : List (List Value)}, rndQ7 (lgL n.g) (dM n) g (SQ7 n i 21) F 21 mv = some (.normal, some (Q7 (lgL n.g) n.N n.fr n.tt n.at0 n.en n.t1 (eV 3 n.es) (rV n.rw) (iV 5 n.ls) (rB n.rw ++ eB 3 n.es ++ iB 5 n.ls) n.n2 n.c2 (ints (n.ls ++ rwL n.rw)) (IntKind.wrap .i64 ((i : Int) + 1)) 21), st, true, q) →
        (∀ p ∈ q, p.holds Tryd.prog (SP7 [(6, g)]) (doorF (lgL n.g) (dM n)) []) → (∀ l ∈ st, renL (mvF mv) l = some l) → GoalQ7 n B i := fun hs hq hst => by
      unfold rndQ7 at hs
      obtain ⟨s1, k1, k2, k3⟩ := round_of (doors := doorF (lgL n.g) (dM n)) (ids := []) hs hq hst
      rw [hiv] at k3
      exact ⟨_, 60, s1, hS, k1, .inl ⟨21, _, _, i + 1, k2, k3, by omega, by omega⟩⟩
    have hbk : ∀ (t sf : St) (st : List (List Value)), t = SK7 n i 0 21 → sf = SK7 n i 4 24 → (∀ l ∈ st, renL (mvF (dM n)) l = some l) → (QV.bk 6 (.loop loopK7) 21 ([0, 1, 4, 16, 17] ++ lgL n.g) (some t) st true .normal sf).holds Tryd.prog (SP7 [(6, g)]) (doorF (lgL n.g) (dM n)) [] := fun t sf st ht hsf hst => by
      subst ht; subst hsf
      exact ⟨_, rfl, rfl, rfl, rfl, hst, rfl⟩
    have oke := ok.e
    have okg := ok.g
    clear ok
    obtain ⟨N, es, rw0, ls, fr, tt, at0, en, t1, n2, c2, gg⟩ := n
    simp only at oke okg
    cases es with
    | nil =>
      cases rw0 with
      | none =>
        obtain rfl := oke rfl
        cases gg with
        | true => exact absurd rfl (okg rfl).2
        | false =>
          exact close (mv := [] ++ [] ++ []) (tq_nnnT n2 c2 (ints ([] ++ [])) N fr tt at0 en t1 ((i : Nat) : Int) _) (by simp only [List.forall_mem_cons]; (repeat' apply And.intro) <;> first | exact q1 | exact hbk _ _ _ rfl rfl (by repeat' first | exact stNil | exact renL_flat _ _ (ints_flat _) | exact renL_flat _ _ (ecOf_flat _) | refine stCons ?_ ?_ | refine renL_c ?_ ?_ | exact renV_sl rfl | exact rfl) | (intro x hx; cases hx)) (by repeat' first | exact stNil | exact renL_flat _ _ (ints_flat _) | exact renL_flat _ _ (ecOf_flat _) | refine stCons ?_ ?_ | refine renL_c ?_ ?_ | exact renV_sl rfl | exact rfl)
      | some rw0 =>
        obtain ⟨e2, rs⟩ := rw0
        obtain rfl := oke rfl
        cases gg with
        | true => exact absurd rfl (okg rfl).2
        | false =>
          exact close (mv := [(2, 2, true)] ++ [] ++ []) (tq_nsnT rs.length n2 c2 e2 (ints rs) (ints ([] ++ rs)) N fr tt at0 en t1 ((i : Nat) : Int) _) (by simp only [List.forall_mem_cons]; (repeat' apply And.intro) <;> first | exact q1 | exact hbk _ _ _ rfl rfl (by repeat' first | exact stNil | exact renL_flat _ _ (ints_flat _) | exact renL_flat _ _ (ecOf_flat _) | refine stCons ?_ ?_ | refine renL_c ?_ ?_ | exact renV_sl rfl | exact rfl) | (intro x hx; cases hx)) (by repeat' first | exact stNil | exact renL_flat _ _ (ints_flat _) | exact renL_flat _ _ (ecOf_flat _) | refine stCons ?_ ?_ | refine renL_c ?_ ?_ | exact renV_sl rfl | exact rfl)
    | cons e0 l0 =>
      cases rw0 with
      | none =>
        cases ls with
        | nil =>
          cases gg with
          | true => exact absurd rfl (okg rfl).1
          | false =>
            exact close (mv := [] ++ [(3, 3, true)] ++ []) (tq_snnT (l0.length + 1) n2 c2 (ecOf (e0 :: l0)) (ints ([] ++ [])) N fr tt at0 en t1 ((i : Nat) : Int) _) (by simp only [List.forall_mem_cons]; (repeat' apply And.intro) <;> first | exact q1 | exact hbk _ _ _ rfl rfl (by repeat' first | exact stNil | exact renL_flat _ _ (ints_flat _) | exact renL_flat _ _ (ecOf_flat _) | refine stCons ?_ ?_ | refine renL_c ?_ ?_ | exact renV_sl rfl | exact rfl) | (intro x hx; cases hx)) (by repeat' first | exact stNil | exact renL_flat _ _ (ints_flat _) | exact renL_flat _ _ (ecOf_flat _) | refine stCons ?_ ?_ | refine renL_c ?_ ?_ | exact renV_sl rfl | exact rfl)
        | cons y ys =>
          cases gg with
          | true => exact absurd rfl (okg rfl).1
          | false =>
            exact close (mv := [] ++ [(3, 3, true)] ++ [(5, 5, true)]) (tq_snsT (l0.length + 1) (ys.length + 1) n2 c2 (ecOf (e0 :: l0)) (ints (y :: ys)) (ints ((y :: ys) ++ [])) N fr tt at0 en t1 ((i : Nat) : Int) _) (by simp only [List.forall_mem_cons]; (repeat' apply And.intro) <;> first | exact q1 | exact hbk _ _ _ rfl rfl (by repeat' first | exact stNil | exact renL_flat _ _ (ints_flat _) | exact renL_flat _ _ (ecOf_flat _) | refine stCons ?_ ?_ | refine renL_c ?_ ?_ | exact renV_sl rfl | exact rfl) | (intro x hx; cases hx)) (by repeat' first | exact stNil | exact renL_flat _ _ (ints_flat _) | exact renL_flat _ _ (ecOf_flat _) | refine stCons ?_ ?_ | refine renL_c ?_ ?_ | exact renV_sl rfl | exact rfl)
      | some rw0 =>
        obtain ⟨e2, rs⟩ := rw0
        cases ls with
        | nil =>
          cases gg with
          | true => exact absurd rfl (okg rfl).2
          | false =>
            exact close (mv := [(2, 2, true)] ++ [(3, 3, true)] ++ []) (tq_ssnT (l0.length + 1) rs.length n2 c2 e2 (ecOf (e0 :: l0)) (ints rs) (ints ([] ++ rs)) N fr tt at0 en t1 ((i : Nat) : Int) _) (by simp only [List.forall_mem_cons]; (repeat' apply And.intro) <;> first | exact q1 | exact hbk _ _ _ rfl rfl (by repeat' first | exact stNil | exact renL_flat _ _ (ints_flat _) | exact renL_flat _ _ (ecOf_flat _) | refine stCons ?_ ?_ | refine renL_c ?_ ?_ | exact renV_sl rfl | exact rfl) | (intro x hx; cases hx)) (by repeat' first | exact stNil | exact renL_flat _ _ (ints_flat _) | exact renL_flat _ _ (ecOf_flat _) | refine stCons ?_ ?_ | refine renL_c ?_ ?_ | exact renV_sl rfl | exact rfl)
        | cons y ys =>
          cases gg with
          | true =>
            exact close (mv := [(2, 2, true)] ++ [(3, 3, true)] ++ [(5, 5, true)]) (tq_ssswT (l0.length + 1) (ys.length + 1) rs.length n2 c2 e2 (ecOf (e0 :: l0)) (ints (y :: ys)) (ints rs) (ints ((y :: ys) ++ rs)) N fr tt at0 en t1 ((i : Nat) : Int) _) (by simp only [List.forall_mem_cons]; (repeat' apply And.intro) <;> first | exact q1 | exact hbk _ _ _ rfl rfl (by repeat' first | exact stNil | exact renL_flat _ _ (ints_flat _) | exact renL_flat _ _ (ecOf_flat _) | refine stCons ?_ ?_ | refine renL_c ?_ ?_ | exact renV_sl rfl | exact rfl) | (intro x hx; cases hx)) (by repeat' first | exact stNil | exact renL_flat _ _ (ints_flat _) | exact renL_flat _ _ (ecOf_flat _) | refine stCons ?_ ?_ | refine renL_c ?_ ?_ | exact renV_sl rfl | exact rfl)
          | false =>
            exact close (mv := [(2, 2, true)] ++ [(3, 3, true)] ++ [(5, 5, true)]) (tq_sssT (l0.length + 1) (ys.length + 1) rs.length n2 c2 e2 (ecOf (e0 :: l0)) (ints (y :: ys)) (ints rs) (ints ((y :: ys) ++ rs)) N fr tt at0 en t1 ((i : Nat) : Int) _) (by simp only [List.forall_mem_cons]; (repeat' apply And.intro) <;> first | exact q1 | exact hbk _ _ _ rfl rfl (by repeat' first | exact stNil | exact renL_flat _ _ (ints_flat _) | exact renL_flat _ _ (ecOf_flat _) | refine stCons ?_ ?_ | refine renL_c ?_ ?_ | exact renV_sl rfl | exact rfl) | (intro x hx; cases hx)) (by repeat' first | exact stNil | exact renL_flat _ _ (ints_flat _) | exact renL_flat _ _ (ecOf_flat _) | refine stCons ?_ ?_ | refine renL_c ?_ ?_ | exact renV_sl rfl | exact rfl)
  · have he : i = 4 := by omega
    subst he
    have hS : SpecsOk Tryd.prog [] B (SP7 [(6, fun _ _ => none)]) := specs7 (fun B p hp => by rw [List.mem_singleton.1 hp]; exact ⟨fun b s e s' h => (by cases h), fun b s e s' h => (by cases h)⟩) B
    have q1 : (QV.b (decide (((4 : Nat) : Int) < 4)) (.val (.bool false))).holds Tryd.prog (SP7 [(6, fun _ _ => none)]) (doorF (lgL n.g) (dM n)) [] := qdn (by omega)
    have close : ∀ {F : List Fact} {mv : Moves} {q : List QV} {st : List (List Value)}, rndQ7 (lgL n.g) (dM n) (fun _ _ => none) (SQ7 n 4 21) F 24 mv = some (.exit 4, some (SQ7 n 4 24), st, true, q) →
        (∀ p ∈ q, p.holds Tryd.prog (SP7 [(6, fun _ _ => none)]) (doorF (lgL n.g) (dM n)) []) → (∀ l ∈ st, renL (mvF mv) l = some l) → GoalQ7 n B 4 := fun hs hq hst => by
      unfold rndQ7 at hs
      obtain ⟨s1, k1, k2, k3⟩ := round_of (doors := doorF (lgL n.g) (dM n)) (ids := []) hs hq hst
      exact ⟨_, 60, s1, hS, k1, .inr ⟨_, _, k2, k3⟩⟩
    have oke := ok.e
    have okg := ok.g
    clear ok
    obtain ⟨N, es, rw0, ls, fr, tt, at0, en, t1, n2, c2, gg⟩ := n
    simp only at oke okg
    cases es with
    | nil =>
      cases rw0 with
      | none =>
        obtain rfl := oke rfl
        cases gg with
        | true => exact absurd rfl (okg rfl).2
        | false =>
          exact close (mv := [] ++ [] ++ []) (tq_nnnE n2 c2 (ints ([] ++ [])) N fr tt at0 en t1 ((4 : Nat) : Int) _) (by simp only [List.forall_mem_cons]; (repeat' apply And.intro) <;> first | exact q1 | (intro x hx; cases hx)) (by repeat' first | exact stNil | exact renL_flat _ _ (ints_flat _) | exact renL_flat _ _ (ecOf_flat _) | refine stCons ?_ ?_ | refine renL_c ?_ ?_ | exact renV_sl rfl | exact rfl)
      | some rw0 =>
        obtain ⟨e2, rs⟩ := rw0
        obtain rfl := oke rfl
        cases gg with
        | true => exact absurd rfl (okg rfl).2
        | false =>
          exact close (mv := [(2, 2, true)] ++ [] ++ []) (tq_nsnE rs.length n2 c2 e2 (ints rs) (ints ([] ++ rs)) N fr tt at0 en t1 ((4 : Nat) : Int) _) (by simp only [List.forall_mem_cons]; (repeat' apply And.intro) <;> first | exact q1 | (intro x hx; cases hx)) (by repeat' first | exact stNil | exact renL_flat _ _ (ints_flat _) | exact renL_flat _ _ (ecOf_flat _) | refine stCons ?_ ?_ | refine renL_c ?_ ?_ | exact renV_sl rfl | exact rfl)
    | cons e0 l0 =>
      cases rw0 with
      | none =>
        cases ls with
        | nil =>
          cases gg with
          | true => exact absurd rfl (okg rfl).1
          | false =>
            exact close (mv := [] ++ [(3, 3, true)] ++ []) (tq_snnE (l0.length + 1) n2 c2 (ecOf (e0 :: l0)) (ints ([] ++ [])) N fr tt at0 en t1 ((4 : Nat) : Int) _) (by simp only [List.forall_mem_cons]; (repeat' apply And.intro) <;> first | exact q1 | (intro x hx; cases hx)) (by repeat' first | exact stNil | exact renL_flat _ _ (ints_flat _) | exact renL_flat _ _ (ecOf_flat _) | refine stCons ?_ ?_ | refine renL_c ?_ ?_ | exact renV_sl rfl | exact rfl)
        | cons y ys =>
          cases gg with
          | true => exact absurd rfl (okg rfl).1
          | false =>
            exact close (mv := [] ++ [(3, 3, true)] ++ [(5, 5, true)]) (tq_snsE (l0.length + 1) (ys.length + 1) n2 c2 (ecOf (e0 :: l0)) (ints (y :: ys)) (ints ((y :: ys) ++ [])) N fr tt at0 en t1 ((4 : Nat) : Int) _) (by simp only [List.forall_mem_cons]; (repeat' apply And.intro) <;> first | exact q1 | (intro x hx; cases hx)) (by repeat' first | exact stNil | exact renL_flat _ _ (ints_flat _) | exact renL_flat _ _ (ecOf_flat _) | refine stCons ?_ ?_ | refine renL_c ?_ ?_ | exact renV_sl rfl | exact rfl)
      | some rw0 =>
        obtain ⟨e2, rs⟩ := rw0
        cases ls with
        | nil =>
          cases gg with
          | true => exact absurd rfl (okg rfl).2
          | false =>
            exact close (mv := [(2, 2, true)] ++ [(3, 3, true)] ++ []) (tq_ssnE (l0.length + 1) rs.length n2 c2 e2 (ecOf (e0 :: l0)) (ints rs) (ints ([] ++ rs)) N fr tt at0 en t1 ((4 : Nat) : Int) _) (by simp only [List.forall_mem_cons]; (repeat' apply And.intro) <;> first | exact q1 | (intro x hx; cases hx)) (by repeat' first | exact stNil | exact renL_flat _ _ (ints_flat _) | exact renL_flat _ _ (ecOf_flat _) | refine stCons ?_ ?_ | refine renL_c ?_ ?_ | exact renV_sl rfl | exact rfl)
        | cons y ys =>
          cases gg with
          | true =>
            exact close (mv := [(2, 2, true)] ++ [(3, 3, true)] ++ [(5, 5, true)]) (tq_ssswE (l0.length + 1) (ys.length + 1) rs.length n2 c2 e2 (ecOf (e0 :: l0)) (ints (y :: ys)) (ints rs) (ints ((y :: ys) ++ rs)) N fr tt at0 en t1 ((4 : Nat) : Int) _) (by simp only [List.forall_mem_cons]; (repeat' apply And.intro) <;> first | exact q1 | (intro x hx; cases hx)) (by repeat' first | exact stNil | exact renL_flat _ _ (ints_flat _) | exact renL_flat _ _ (ecOf_flat _) | refine stCons ?_ ?_ | refine renL_c ?_ ?_ | exact renV_sl rfl | exact rfl)
          | false =>
            exact close (mv := [(2, 2, true)] ++ [(3, 3, true)] ++ [(5, 5, true)]) (tq_sssE (l0.length + 1) (ys.length + 1) rs.length n2 c2 e2 (ecOf (e0 :: l0)) (ints (y :: ys)) (ints rs) (ints ((y :: ys) ++ rs)) N fr tt at0 en t1 ((4 : Nat) : Int) _) (by simp only [List.forall_mem_cons]; (repeat' apply And.intro) <;> first | exact q1 | (intro x hx; cases hx)) (by repeat' first | exact stNil | exact renL_flat _ _ (ints_flat _) | exact renL_flat _ _ (ecOf_flat _) | refine stCons ?_ ?_ | refine renL_c ?_ ?_ | exact renV_sl rfl | exact rfl)
theorem blkQ7 (n : Fin7) (ok : Ok7 n) (B : Nat) :
    BlkOk Tryd.prog [] B 4 (loopG (.loop loopQ7) (doorF (lgL n.g) (dM n) 4) (SQ7 n 0 21) (.normal, SQ7 n 4 24)) := by
  exact loopG_ok (e := .exit 4) noNumP mixedP (fun d : Nat => SQ7 n d 21) (fun d => d ≤ 4) (fun d => 4 - d) (K := 24) (by intro h; cases h) (Nat.zero_le _) (show (21 : Nat) ≤ 24 by decide) rfl rfl rfl (fun _ _ _ => rfl) (stepQ7 n ok B)
end Go.Proofs.YtlmifmodnkhidaaDoor
