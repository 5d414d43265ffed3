/-
  P101, NetChecks: for every network, every number, every row of numbers that is handed in the law answers true, and its arguments read as they did. No condition but the row's own.
-/
import Derived.Test.YtlmifmodnkhidaaDoorW1
open Go Go.Am Go.Proofs
namespace Go.Proofs.YtlmifmodnkhidaaDoor
set_option maxRecDepth 10000

/- net.Walk -/
noncomputable def B24 : Code := Tryd.f24.body.get!
theorem body24 : Tryd.f24.body = some B24 := by kernel_rfl
/- The loop of a body, as it stands in block id. -/
def inner (id : Nat) : Nat → Code → Option Code
  | 0, _ => none
  | n + 1, .seq a b => match inner id n a with | some c => some c | none => inner id n b
  | n + 1, .block i b => bif Nat.beq i id then some b else inner id n b
  | n + 1, .loop b => inner id n b
  | n + 1, .cond _ a b => match inner id n a with | some c => some c | none => inner id n b
  | _, _ => none
def unloop : Code → Code
  | .loop b => b
  | c => c
noncomputable def loop24 : Code := unloop ((inner 0 100 B24).get!)

def sl (id n : Nat) : Value := .slice (some ⟨id, 0, none⟩) n n
abbrev ro (cs : List Value) (elem esz : Nat) : ABlk := ⟨cs, elem, esz, cs.length, false⟩
abbrev own (cs : List Value) (elem esz : Nat) : ABlk := ⟨cs, elem, esz, 0, true⟩
def blks24 (N : Int) (ne e0 e1 : Nat) (ec lc : List Value) (wb : List (Nat × ABlk)) : List (Nat × ABlk) := [(0, ro ec e0 4), (1, ro lc e1 1), (2, own [i64 N, sl 0 ne] 24 2)] ++ wb
def I24 (N tt : Int) (ne nl e0 e1 : Nat) (ec lc : List Value) (at' cost iv : Int) (wv : Value) (wb : List (Nat × ABlk)) : St :=
  ⟨tabT [(2, i64 tt), (4, .pointer (some ⟨2, 0, none⟩)), (8, i64 cost), (9, wv), (10, .bool false), (11, i64 at'), (28, sl 1 nl), (29, i64 nl), (30, i64 iv)], 72, ⟨blkTree (blks24 N ne e0 e1 ec lc wb), 4, [], []⟩⟩
noncomputable def SP24 : Specs := specs [(38, g38)]
def keep24 : List Nat := [2, 4, 8, 9, 10, 11, 28, 29, 30]
def mv24 (l : Moves) : Moves := [(0, 0, true), (1, 1, true), (2, 2, true)] ++ l
def edgeV (f t m c : Int) : Value := .agg ⟨[i64 f, i64 t, i64 m, i64 c]⟩
def fin24 (N tt : Int) (ne e0 e1 : Nat) (ec lc : List Value) (at' cost : Int) (wv : Value) (wb : List (Nat × ABlk)) : St :=
  ⟨tabT [(2, i64 tt), (8, i64 cost), (9, wv), (10, .bool false), (11, i64 at')], 72, ⟨blkTree (blks24 N ne e0 e1 ec lc wb), 10, [], []⟩⟩
def bad24 (N : Int) (ne e0 e1 : Nat) (ec lc : List Value) : St :=
  ⟨tabT [(8, i64 0), (9, .slice none 0 0), (10, .bool false)], 72, ⟨blkTree (blks24 N ne e0 e1 ec lc []), 10, [], []⟩⟩
noncomputable def rnd24 (s : St) (F : List Fact) (nx : Nat) (keep : List Nat) (l : Moves) :=
  (hexec Tryd.prog [] SP24 60 loop24 s F 0).map (fun r => (r.1.1, rebase 3 nx (mv24 l) keep [] [] r.1.2, stills r.1.2.M (mv24 l), Nat.ble r.1.2.M.next 10, r.2.2.2.map (view noDoors [])))
variable (N tt at' cost iv li f t m c : Int) (ne nl nw e0 e1 : Nat) (ec lc wc : List Value)
def q1 (b : Bool) : QV := .b (decide (iv < (nl : Int))) (.val (.bool b))
def q2 : List QV := [.ib iv nl, .ld 3 (0 + iv.toNat * 1) (some (ro lc e1 1)) (.val (i64 li))]
def q3 (b : Bool) : QV := .cr 38 [i64 li, i64 ne] [] (.val (.bool b))
def q4 : List QV := [.ib li ne, .ld 3 (0 + li.toNat * 4 + 0) (some (ro ec e0 4)) (.val (i64 f))]
def q5 (b : Bool) : QV := .b (f != at') (.val (.bool b))
def q6 : List QV := [.ib li ne, .ld 31 (0 + li.toNat * 4) (some (ro ec e0 4)) (.val (edgeV f t m c))]
def boxC : List Value := [i64 N, sl 0 ne]
theorem stepA : rnd24 (I24 N tt ne nl e0 e1 ec lc at' cost iv (.slice none 0 0) []) [tru 2, tru 4, got 6 (i64 li), got 18 (.bool true), tru 30, got 34 (i64 f), fls 41, tru 49, got 51 (edgeV f t m c)] 4 keep24 [(3, 6, true)] =
    some (.normal, some (I24 N tt ne nl e0 e1 ec lc t (IntKind.wrap .i64 (cost + c)) (IntKind.wrap .i64 (iv + 1)) (sl 3 1) [(3, own [i64 m] 3 1)]), [ec, lc, boxC N ne, [i64 m]], true,
      [q1 iv nl true] ++ q2 iv li nl e1 lc ++ [q3 li ne true] ++ q4 li f ne e0 ec ++ [q5 at' f false] ++ q6 li f t m c ne e0 ec) := by kernel_rfl
theorem stepB : rnd24 (I24 N tt ne nl e0 e1 ec lc at' cost iv (sl 3 nw) [(3, own wc 3 1)]) [tru 2, tru 4, got 6 (i64 li), got 18 (.bool true), tru 30, got 34 (i64 f), fls 41, tru 49, got 51 (edgeV f t m c), onto 81 wc] 4 keep24 [(3, 6, true)] =
    some (.normal, some (I24 N tt ne nl e0 e1 ec lc t (IntKind.wrap .i64 (cost + c)) (IntKind.wrap .i64 (iv + 1)) (sl 3 (nw + 1)) [(3, own (wc ++ [i64 m]) 3 1)]), [ec, lc, boxC N ne, wc ++ [i64 m]], true,
      [q1 iv nl true] ++ q2 iv li nl e1 lc ++ [q3 li ne true] ++ q4 li f ne e0 ec ++ [q5 at' f false] ++ q6 li f t m c ne e0 ec ++ [.ap [25, 25] (sl 3 nw) (.slice (some ⟨5, 0, none⟩) 1 2) wc (own wc 3 1) [i64 m]]) := by kernel_rfl
theorem stepBad1 (wv : Value) (wb : List (Nat × ABlk)) (hw : (wv = .slice none 0 0 ∧ wb = []) ∨ (wv = sl 3 nw ∧ wb = [(3, own wc 3 1)])) : rnd24 (I24 N tt ne nl e0 e1 ec lc at' cost iv wv wb) [tru 2, tru 4, got 6 (i64 li), got 18 (.bool false)] 10 [8, 9, 10] [] =
    some (.ret, some (bad24 N ne e0 e1 ec lc), [ec, lc, boxC N ne], true, [q1 iv nl true] ++ q2 iv li nl e1 lc ++ [q3 li ne false]) := by
  rcases hw with ⟨rfl, rfl⟩ | ⟨rfl, rfl⟩ <;> kernel_rfl
theorem stepBad2 (wv : Value) (wb : List (Nat × ABlk)) (hw : (wv = .slice none 0 0 ∧ wb = []) ∨ (wv = sl 3 nw ∧ wb = [(3, own wc 3 1)])) : rnd24 (I24 N tt ne nl e0 e1 ec lc at' cost iv wv wb) [tru 2, tru 4, got 6 (i64 li), got 18 (.bool true), tru 30, got 34 (i64 f), tru 41] 10 [8, 9, 10] [] =
    some (.ret, some (bad24 N ne e0 e1 ec lc), [ec, lc, boxC N ne], true, [q1 iv nl true] ++ q2 iv li nl e1 lc ++ [q3 li ne true] ++ q4 li f ne e0 ec ++ [q5 at' f true]) := by
  rcases hw with ⟨rfl, rfl⟩ | ⟨rfl, rfl⟩ <;> kernel_rfl
theorem stepEndA : rnd24 (I24 N tt ne nl e0 e1 ec lc at' cost iv (.slice none 0 0) []) [fls 2] 10 [2, 8, 9, 10, 11] [] =
    some (.exit 0, some (fin24 N tt ne e0 e1 ec lc at' cost (.slice none 0 0) []), [ec, lc, boxC N ne], true, [q1 iv nl false]) := by kernel_rfl
theorem stepEndB : rnd24 (I24 N tt ne nl e0 e1 ec lc at' cost iv (sl 3 nw) [(3, own wc 3 1)]) [fls 2] 10 [2, 8, 9, 10, 11] [(3, 3, true)] =
    some (.exit 0, some (fin24 N tt ne e0 e1 ec lc at' cost (sl 3 nw) [(3, own wc 3 1)]), [ec, lc, boxC N ne, wc], true, [q1 iv nl false]) := by kernel_rfl
end Go.Proofs.YtlmifmodnkhidaaDoor
