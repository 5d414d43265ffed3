/-
  P101, NetChecks: for every network, every number, every row of numbers that is handed in the law answers true, and its arguments read as they did. No condition but the row's own.
-/
import Derived.Test.YtlmifmodnkhidaaDoorW6
open Go Go.Am Go.Proofs
namespace Go.Proofs.YtlmifmodnkhidaaDoor
set_option maxRecDepth 10000
noncomputable def B11 : Code := Tryd.f11.body.get!
theorem body11 : Tryd.f11.body = some B11 := by kernel_rfl
noncomputable def loop11a : Code := unloop ((inner 2 100 B11).get!)
noncomputable def loop11b : Code := unloop ((inner 4 100 B11).get!)
noncomputable def SP11 (bs : List (Nat × (Code → St → Option (AExit × St)))) : Specs := specsB [(13, ansNone (.bool true)), (18, g18), (24, g24)] bs
def xV (ne : Nat) : List Value := [i64 2, sl 10 ne]
def blks11 (ec : List Value) (wb : List (Nat × ABlk)) : List (Nat × ABlk) := [(0, own (xV 5) 24 2), (10, own ec 31 4)] ++ wb
def lg11 : List Nat := [0, 8, 0, 6, 0, 4, 0, 2, 0, 0]
def L11 : List Nat := [0, 1, 2, 3, 4, 5, 6, 7, 8, 9]
def L11b : List Nat := [0, 1, 2, 3, 4, 5, 6, 7, 8, 9, 10, 11]
def I11 (nx : Nat) (ec : List Value) (c : Int) (k : Nat) (want iv : Int) (wv : Value) (wb : List (Nat × ABlk)) : St :=
  ⟨tabT [(5, i64 k), (6, .pointer (some ⟨0, 0, none⟩)), (7, i64 c), (8, wv), (10, i64 want), (11, i64 iv)], 86, ⟨blkTree (blks11 ec wb), nx, [], L11 ++ lg11⟩⟩
def keep11 : List Nat := [5, 6, 7, 8, 10, 11]
def mv11 (l : Moves) : Moves := [(0, 0, true), (10, 10, true)] ++ l
noncomputable def rnd11 (s : St) (F : List Fact) (nx : Nat) (l : Moves) :=
  (hexec Tryd.prog [] noSpecs 60 loop11a s F 0).map (fun r => (r.1.1, rebase 11 nx (mv11 l) keep11 L11 lg11 r.1.2, stills r.1.2.M (mv11 l), Nat.ble r.1.2.M.next 20, r.2.2.2.map (view noDoors [])))
variable (ec wc : List Value) (c want iv : Int) (k nw : Nat)
theorem st11A : rnd11 (I11 12 ec c k want iv (.slice none 0 0) []) [tru 6] 12 [(11, 13, true)] =
    some (.normal, some (I11 12 ec c k (IntKind.wrap .i64 (IntKind.wrap .i64 (want + c) - iv.tmod 5)) (IntKind.wrap .i64 (iv + 1)) (sl 11 1) [(11, own [i64 (iv.tmod 5)] 3 1)]), [xV 5, ec, [i64 (iv.tmod 5)]], true, [q1 iv k true]) := by kernel_rfl
theorem st11B : rnd11 (I11 12 ec c k want iv (sl 11 nw) [(11, own wc 3 1)]) [tru 6, onto 16 wc] 12 [(11, 13, true)] =
    some (.normal, some (I11 12 ec c k (IntKind.wrap .i64 (IntKind.wrap .i64 (want + c) - iv.tmod 5)) (IntKind.wrap .i64 (iv + 1)) (sl 11 (nw + 1)) [(11, own (wc ++ [i64 (iv.tmod 5)]) 3 1)]), [xV 5, ec, wc ++ [i64 (iv.tmod 5)]], true,
      [q1 iv k true, .ap [25, 25] (sl 11 nw) (.slice (some ⟨12, 0, none⟩) 1 2) wc (own wc 3 1) [i64 (iv.tmod 5)]]) := by kernel_rfl
theorem st11E : rnd11 (I11 12 ec c k want iv (sl 11 nw) [(11, own wc 3 1)]) [fls 6] 20 [(11, 11, true)] =
    some (.exit 2, some (I11 20 ec c k want iv (sl 11 nw) [(11, own wc 3 1)]), [xV 5, ec, wc], true, [q1 iv k false]) := by kernel_rfl

def I11b (nx : Nat) (wc : List Value) (k : Nat) (iv : Int) : St :=
  ⟨tabT [(5, i64 k), (13, sl 20 k), (15, i64 iv)], 86, ⟨blkTree [(20, own wc 3 1)], nx, [], L11b ++ (L11 ++ lg11)⟩⟩
noncomputable def rnd11b (s : St) (F : List Fact) (nx : Nat) :=
  (hexec Tryd.prog [] noSpecs 60 loop11b s F 0).map (fun r => (r.1.1, rebase 21 nx [(20, 20, true)] [5, 13, 15] L11b (L11 ++ lg11) r.1.2, stills r.1.2.M [(20, 20, true)], Nat.ble r.1.2.M.next 21, r.2.2.2.map (view noDoors [])))
theorem st11bA (wi : Int) : rnd11b (I11b 21 wc k iv) [tru 6, tru 12, got 14 (i64 wi), fls 21] 21 =
    some (.normal, some (I11b 21 wc k (IntKind.wrap .i64 (iv + 1))), [wc], true, [q1 iv k true, .ib iv k, .ld 3 (0 + iv.toNat * 1) (some (own wc 3 1)) (.val (i64 wi)), .b (wi != iv.tmod 5) (.val (.bool false))]) := by kernel_rfl
theorem st11bE : rnd11b (I11b 21 wc k iv) [fls 6] 21 = some (.exit 4, some (I11b 21 wc k iv), [wc], true, [q1 iv k false]) := by kernel_rfl

def door11 : Nat → Door
  | 2 => ⟨11, 12, mv11 [], keep11, L11, lg11⟩
  | _ => ⟨21, 21, [(20, 20, true)], [5, 13, 15], L11b, L11 ++ lg11⟩
def ec11 (c : Int) : List Value := [i64 0, i64 0, i64 0, i64 (IntKind.wrap .i64 (c - 0)), i64 0, i64 0, i64 1, i64 (IntKind.wrap .i64 (c - 1)), i64 0, i64 0, i64 2, i64 (IntKind.wrap .i64 (c - 2)), i64 0, i64 0, i64 3, i64 (IntKind.wrap .i64 (c - 3)), i64 0, i64 0, i64 4, i64 (IntKind.wrap .i64 (c - 4))]
noncomputable def run11 (SP : Specs) (n x : Int) (F : List Fact) :=
  (hexec Tryd.prog [] SP 90 B11 ⟨initT [i64 n, i64 x] 0 .nil, Tryd.f11.ntmps, zeroMem⟩ F 0).map (fun r => (r.1.1, (), aresults Tryd.prog Tryd.f11 r.1.2, r.2.2.2.map (view door11 [10, 11])))
def c11 (j : Nat) : Int := IntKind.wrap .i64 (2147483647 - (j : Int))
theorem run11z (n x : Int) (j : Nat) : (hexec Tryd.prog [] (specs [(13, ansNone (.bool true)), (18, g18)]) 90 B11 ⟨initT [i64 n, i64 x] 0 .nil, Tryd.f11.ntmps, zeroMem⟩ [got 10 (i64 (0 : Nat)), got 22 (i64 j)] 0).map (fun r => (r.1.1, (), aresults Tryd.prog Tryd.f11 r.1.2, r.2.2.2.map (view door11 []))) =
    some (.ret, (), some (.bool true), [.cr 18 [i64 n, i64 300] [] (.val (i64 (0 : Nat))), .cr 18 [i64 x, i64 5] [] (.val (i64 j))]) := by kernel_rfl
theorem run11k (n x d w : Int) (j : Nat) (g2 g4 : Code → St → Option (AExit × St)) : run11 (SP11 [(2, g2), (4, g4)]) n x [got 10 (i64 k), got 22 (i64 j), past 205 .normal (I11 20 (ec11 (c11 j)) (c11 j) k w k (sl 11 k) [(11, own wc 3 1)]),
      madeB 211 (.tuple ⟨[i64 d, sl 20 k, .bool true]⟩) (own wc 3 1), fls 242, fls 244, fls 246, fls 248, fls 251, fls 252, past 255 .normal (I11b 21 wc k k)] =
    some (.ret, (), some (.bool true), [.cr 18 [i64 n, i64 300] [none, none] (.val (i64 k)), .cr 18 [i64 x, i64 5] [none, none] (.val (i64 j)),
      .bk 2 (.loop loop11a) 11 lg11 (some (I11 12 (ec11 (c11 j)) (c11 j) k 0 0 (.slice none 0 0) [])) [xV 5, ec11 (c11 j)] true .normal (I11 20 (ec11 (c11 j)) (c11 j) k w k (sl 11 k) [(11, own wc 3 1)]),
      .ca 24 [.agg ⟨xV 5⟩, i64 0, i64 0, sl 11 k] [some (own (ec11 (c11 j)) 31 4), some (own wc 3 1)] 20 (.val (.tuple ⟨[i64 d, sl 20 k, .bool true]⟩)) (own wc 3 1),
      .b (d != w) (.val (.bool false)), .b (d != w) (.val (.bool false)), .b (d != w) (.val (.bool false)), .b (d != w) (.val (.bool false)), .b (d != w) (.val (.bool false)), .b ((k : Int) != (k : Int)) (.val (.bool false)),
      .bk 4 (.loop loop11b) 21 (L11 ++ lg11) (some (I11b 21 wc k 0)) [wc] true .normal (I11b 21 wc k k)]) := by kernel_rfl
end Go.Proofs.YtlmifmodnkhidaaDoor
