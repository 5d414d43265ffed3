/-
  NetWalks: whether any edges are a walk, its cost and its word, are the document's: of any network of at most twelve vertices that is made of the numbers handed in, and of any rows of edges, of at most sixty where they are handed in; the answer is true for every argument.
-/
import Derived.Test.YtlmifmodnkhidaaDoorGW20
import Derived.Test.YtlmifmodnkhidaaDoorGW16
open Go Go.Am Go.Proofs
namespace Go.Proofs.YtlmifmodnkhidaaDoor
set_option maxRecDepth 10000

/- NetJoins -/
noncomputable def B8 : Code := Tryd.f8.body.get!
theorem body8 : Tryd.f8.body = some B8 := by kernel_rfl
noncomputable def loop8 : Code := unloop ((inner 0 100 B8).get!)
noncomputable def loop8j : Code := unloop ((inner 2 100 B8).get!)
noncomputable def SP8 (bs : List (Nat × (Code → St → Option (AExit × St)))) : Specs := specsB [(13, ansNone (.bool true)), (15, g15), (18, g18), (24, gW), (26, gI)] bs
def blks8 (ne e1 : Nat) (pc ec : List Value) (N : Int) (r : List (Nat × ABlk)) : List (Nat × ABlk) := [(1, ro pc e1 1), (2, own ec 31 4), (3, own [i64 N, sl 2 ne] 24 2)] ++ r
def J8 (np ne kk e1 : Nat) (pc ec : List Value) (N at' mid iv : Int) (lv : Value) (lb : List (Nat × ABlk)) (ov : Value) (ob : List (Nat × ABlk)) (jv : Int) (nx : Nat) : St :=
  ⟨tabT [(2, sl 1 np), (9, .pointer (some ⟨3, 0, none⟩)), (10, lv), (11, i64 at'), (12, i64 mid), (13, i64 kk), (14, i64 iv), (15, ov), (16, i64 jv)], 150, ⟨blkTree (blks8 ne e1 pc ec N (lb ++ ob)), nx, [], [0, 3] ++ [0, 3, 3]⟩⟩
def I8 (np ne kk e1 : Nat) (pc ec : List Value) (N at' mid iv : Int) (lv : Value) (lb : List (Nat × ABlk)) (nx : Nat) : St :=
  ⟨tabT [(2, sl 1 np), (9, .pointer (some ⟨3, 0, none⟩)), (10, lv), (11, i64 at'), (12, i64 mid), (13, i64 kk), (14, i64 iv)], 150, ⟨blkTree (blks8 ne e1 pc ec N lb), nx, [], [0, 3] ++ [3]⟩⟩
def keepJ : List Nat := [2, 9, 10, 11, 12, 13, 14, 15, 16]
def mv8 (l : Moves) : Moves := [(1, 1, true), (2, 2, true), (3, 3, true)] ++ l
noncomputable def rndJ (s : St) (F : List Fact) (nx : Nat) (keep : List Nat) (l : Moves) :=
  (hexec Tryd.prog [] (SP8 []) 60 loop8j s F 0).map (fun r => (r.1.1, rebase 5 nx (mv8 l) keep [0, 3] [0, 3, 3] r.1.2, stills r.1.2.M (mv8 l), Nat.ble r.1.2.M.next 10, r.2.2.2.map (view noDoors [])))
def door8 (l : Moves) : Nat → Door
  | 2 => ⟨5, 6, mv8 l, keepJ, [0, 3], [0, 3, 3]⟩
  | _ => ⟨4, 5, mv8 [], [2, 9, 10, 11, 12, 13, 14], [0, 3], [3]⟩
noncomputable def rnd8 (dl : Moves) (g : Code → St → Option (AExit × St)) (s : St) (F : List Fact) (nx : Nat) (l : Moves) :=
  (hexec Tryd.prog [] (SP8 [(2, g)]) 60 loop8 s F 0).map (fun r => (r.1.1, rebase 4 nx (mv8 l) [2, 9, 10, 11, 12, 13, 14] [0, 3] [3] r.1.2, stills r.1.2.M (mv8 l), Nat.ble r.1.2.M.next 15, r.2.2.2.map (view (door8 dl) [])))
theorem sj_nnF (np ne kk e1 : Nat) (pc ec : List Value) (N at' mid iv jv f : Int) : rndJ (J8 np ne kk e1 pc ec N at' mid iv (.slice none 0 0) [] (.slice none 0 0) [] (jv) 6) [tru 10, tru 18, got 22 (i64 f), fls 27] 6 keepJ ([] ++ []) = some (.normal, some (J8 np ne kk e1 pc ec N at' mid iv (.slice none 0 0) [] (.slice none 0 0) [] (IntKind.wrap .i64 (jv + 1)) 6), [pc, ec, [i64 N, sl 2 ne]] ++ [] ++ [], true, [.b (decide (jv < (ne : Int))) (.val (.bool true)), .ib jv ne, .ld 3 (0 + jv.toNat * 4) (some (own ec 31 4)) (.val (i64 f)), .b ((f == at')) (.val (.bool false))]) := by kernel_rfl
theorem sj_nnT (np ne kk e1 : Nat) (pc ec : List Value) (N at' mid iv jv f : Int) : rndJ (J8 np ne kk e1 pc ec N at' mid iv (.slice none 0 0) [] (.slice none 0 0) [] (jv) 6) [tru 10, tru 18, got 22 (i64 f), tru 27] 6 keepJ ([] ++ [(5, 7, true)]) = some (.normal, some (J8 np ne kk e1 pc ec N at' mid iv (.slice none 0 0) [] (sl 5 1) [(5, own [i64 jv] 3 1)] (IntKind.wrap .i64 (jv + 1)) 6), [pc, ec, [i64 N, sl 2 ne]] ++ [] ++ [[i64 jv]], true, [.b (decide (jv < (ne : Int))) (.val (.bool true)), .ib jv ne, .ld 3 (0 + jv.toNat * 4) (some (own ec 31 4)) (.val (i64 f)), .b ((f == at')) (.val (.bool true))]) := by kernel_rfl
theorem sj_nnE (np ne kk e1 : Nat) (pc ec : List Value) (N at' mid iv jv : Int) : rndJ (J8 np ne kk e1 pc ec N at' mid iv (.slice none 0 0) [] (.slice none 0 0) [] (jv) 6) [fls 10] 10 keepJ ([] ++ []) = some (.exit 2, some (J8 np ne kk e1 pc ec N at' mid iv (.slice none 0 0) [] (.slice none 0 0) [] (jv) 10), [pc, ec, [i64 N, sl 2 ne]] ++ [] ++ [], true, [.b (decide (jv < (ne : Int))) (.val (.bool false))]) := by kernel_rfl
theorem sj_nsF (np ne no kk e1 : Nat) (pc ec oc : List Value) (N at' mid iv jv f : Int) : rndJ (J8 np ne kk e1 pc ec N at' mid iv (.slice none 0 0) [] (sl 5 no) [(5, own oc 3 1)] (jv) 6) [tru 10, tru 18, got 22 (i64 f), fls 27] 6 keepJ ([] ++ [(5, 5, true)]) = some (.normal, some (J8 np ne kk e1 pc ec N at' mid iv (.slice none 0 0) [] (sl 5 no) [(5, own oc 3 1)] (IntKind.wrap .i64 (jv + 1)) 6), [pc, ec, [i64 N, sl 2 ne]] ++ [] ++ [oc], true, [.b (decide (jv < (ne : Int))) (.val (.bool true)), .ib jv ne, .ld 3 (0 + jv.toNat * 4) (some (own ec 31 4)) (.val (i64 f)), .b ((f == at')) (.val (.bool false))]) := by kernel_rfl
theorem sj_nsT (np ne no kk e1 : Nat) (pc ec oc : List Value) (N at' mid iv jv f : Int) : rndJ (J8 np ne kk e1 pc ec N at' mid iv (.slice none 0 0) [] (sl 5 no) [(5, own oc 3 1)] (jv) 6) [tru 10, tru 18, got 22 (i64 f), tru 27, onto 35 (oc)] 6 keepJ ([] ++ [(5, 7, true)]) = some (.normal, some (J8 np ne kk e1 pc ec N at' mid iv (.slice none 0 0) [] (sl 5 (no + 1)) [(5, own (oc ++ [i64 jv]) 3 1)] (IntKind.wrap .i64 (jv + 1)) 6), [pc, ec, [i64 N, sl 2 ne]] ++ [] ++ [oc ++ [i64 jv]], true, [.b (decide (jv < (ne : Int))) (.val (.bool true)), .ib jv ne, .ld 3 (0 + jv.toNat * 4) (some (own ec 31 4)) (.val (i64 f)), .b ((f == at')) (.val (.bool true)), .ap [25, 25] (sl 5 no) (.slice (some ⟨6, 0, none⟩) 1 2) oc (own oc 3 1) [i64 jv]]) := by kernel_rfl
theorem sj_nsE (np ne no kk e1 : Nat) (pc ec oc : List Value) (N at' mid iv jv : Int) : rndJ (J8 np ne kk e1 pc ec N at' mid iv (.slice none 0 0) [] (sl 5 no) [(5, own oc 3 1)] (jv) 6) [fls 10] 10 keepJ ([] ++ [(5, 5, true)]) = some (.exit 2, some (J8 np ne kk e1 pc ec N at' mid iv (.slice none 0 0) [] (sl 5 no) [(5, own oc 3 1)] (jv) 10), [pc, ec, [i64 N, sl 2 ne]] ++ [] ++ [oc], true, [.b (decide (jv < (ne : Int))) (.val (.bool false))]) := by kernel_rfl
theorem sj_snF (np ne nl kk e1 : Nat) (pc ec lc : List Value) (N at' mid iv jv f : Int) : rndJ (J8 np ne kk e1 pc ec N at' mid iv (sl 4 nl) [(4, own lc 3 1)] (.slice none 0 0) [] (jv) 6) [tru 10, tru 18, got 22 (i64 f), fls 27] 6 keepJ ([(4, 4, true)] ++ []) = some (.normal, some (J8 np ne kk e1 pc ec N at' mid iv (sl 4 nl) [(4, own lc 3 1)] (.slice none 0 0) [] (IntKind.wrap .i64 (jv + 1)) 6), [pc, ec, [i64 N, sl 2 ne]] ++ [lc] ++ [], true, [.b (decide (jv < (ne : Int))) (.val (.bool true)), .ib jv ne, .ld 3 (0 + jv.toNat * 4) (some (own ec 31 4)) (.val (i64 f)), .b ((f == at')) (.val (.bool false))]) := by kernel_rfl
theorem sj_snT (np ne nl kk e1 : Nat) (pc ec lc : List Value) (N at' mid iv jv f : Int) : rndJ (J8 np ne kk e1 pc ec N at' mid iv (sl 4 nl) [(4, own lc 3 1)] (.slice none 0 0) [] (jv) 6) [tru 10, tru 18, got 22 (i64 f), tru 27] 6 keepJ ([(4, 4, true)] ++ [(5, 7, true)]) = some (.normal, some (J8 np ne kk e1 pc ec N at' mid iv (sl 4 nl) [(4, own lc 3 1)] (sl 5 1) [(5, own [i64 jv] 3 1)] (IntKind.wrap .i64 (jv + 1)) 6), [pc, ec, [i64 N, sl 2 ne]] ++ [lc] ++ [[i64 jv]], true, [.b (decide (jv < (ne : Int))) (.val (.bool true)), .ib jv ne, .ld 3 (0 + jv.toNat * 4) (some (own ec 31 4)) (.val (i64 f)), .b ((f == at')) (.val (.bool true))]) := by kernel_rfl
theorem sj_snE (np ne nl kk e1 : Nat) (pc ec lc : List Value) (N at' mid iv jv : Int) : rndJ (J8 np ne kk e1 pc ec N at' mid iv (sl 4 nl) [(4, own lc 3 1)] (.slice none 0 0) [] (jv) 6) [fls 10] 10 keepJ ([(4, 4, true)] ++ []) = some (.exit 2, some (J8 np ne kk e1 pc ec N at' mid iv (sl 4 nl) [(4, own lc 3 1)] (.slice none 0 0) [] (jv) 10), [pc, ec, [i64 N, sl 2 ne]] ++ [lc] ++ [], true, [.b (decide (jv < (ne : Int))) (.val (.bool false))]) := by kernel_rfl
theorem sj_ssF (np ne no nl kk e1 : Nat) (pc ec lc oc : List Value) (N at' mid iv jv f : Int) : rndJ (J8 np ne kk e1 pc ec N at' mid iv (sl 4 nl) [(4, own lc 3 1)] (sl 5 no) [(5, own oc 3 1)] (jv) 6) [tru 10, tru 18, got 22 (i64 f), fls 27] 6 keepJ ([(4, 4, true)] ++ [(5, 5, true)]) = some (.normal, some (J8 np ne kk e1 pc ec N at' mid iv (sl 4 nl) [(4, own lc 3 1)] (sl 5 no) [(5, own oc 3 1)] (IntKind.wrap .i64 (jv + 1)) 6), [pc, ec, [i64 N, sl 2 ne]] ++ [lc] ++ [oc], true, [.b (decide (jv < (ne : Int))) (.val (.bool true)), .ib jv ne, .ld 3 (0 + jv.toNat * 4) (some (own ec 31 4)) (.val (i64 f)), .b ((f == at')) (.val (.bool false))]) := by kernel_rfl
theorem sj_ssT (np ne no nl kk e1 : Nat) (pc ec lc oc : List Value) (N at' mid iv jv f : Int) : rndJ (J8 np ne kk e1 pc ec N at' mid iv (sl 4 nl) [(4, own lc 3 1)] (sl 5 no) [(5, own oc 3 1)] (jv) 6) [tru 10, tru 18, got 22 (i64 f), tru 27, onto 35 (oc)] 6 keepJ ([(4, 4, true)] ++ [(5, 7, true)]) = some (.normal, some (J8 np ne kk e1 pc ec N at' mid iv (sl 4 nl) [(4, own lc 3 1)] (sl 5 (no + 1)) [(5, own (oc ++ [i64 jv]) 3 1)] (IntKind.wrap .i64 (jv + 1)) 6), [pc, ec, [i64 N, sl 2 ne]] ++ [lc] ++ [oc ++ [i64 jv]], true, [.b (decide (jv < (ne : Int))) (.val (.bool true)), .ib jv ne, .ld 3 (0 + jv.toNat * 4) (some (own ec 31 4)) (.val (i64 f)), .b ((f == at')) (.val (.bool true)), .ap [25, 25] (sl 5 no) (.slice (some ⟨6, 0, none⟩) 1 2) oc (own oc 3 1) [i64 jv]]) := by kernel_rfl
theorem sj_ssE (np ne no nl kk e1 : Nat) (pc ec lc oc : List Value) (N at' mid iv jv : Int) : rndJ (J8 np ne kk e1 pc ec N at' mid iv (sl 4 nl) [(4, own lc 3 1)] (sl 5 no) [(5, own oc 3 1)] (jv) 6) [fls 10] 10 keepJ ([(4, 4, true)] ++ [(5, 5, true)]) = some (.exit 2, some (J8 np ne kk e1 pc ec N at' mid iv (sl 4 nl) [(4, own lc 3 1)] (sl 5 no) [(5, own oc 3 1)] (jv) 10), [pc, ec, [i64 N, sl 2 ne]] ++ [lc] ++ [oc], true, [.b (decide (jv < (ne : Int))) (.val (.bool false))]) := by kernel_rfl
theorem so_nX (np ne kk e1 : Nat) (pc ec : List Value) (N at' mid iv jv : Int) (g : Code → St → Option (AExit × St)) : rnd8 [] g (I8 np ne kk e1 pc ec N (at') (mid) (iv) (.slice none 0 0) [] 5) [tru 10, tru 12, tru 15, tru 16, past 21 .normal (J8 np ne kk e1 pc ec N at' mid iv (.slice none 0 0) [] (.slice none 0 0) [] (jv) 10)] 15 ([]) = some (.exit 0, some (I8 np ne kk e1 pc ec N (at') (mid) (iv) (.slice none 0 0) [] 15), [pc, ec, [i64 N, sl 2 ne]] ++ [], true, [.b (decide (iv < (np : Int))) (.val (.bool true)), .b (decide (iv < (np : Int))) (.val (.bool true)), .b (decide (iv < (np : Int))) (.val (.bool true)), .b (decide (iv < 20)) (.val (.bool true)), .bk 2 (.loop loop8j) 5 [0, 3, 3] (some (J8 np ne kk e1 pc ec N at' mid iv (.slice none 0 0) [] (.slice none 0 0) [] (0) 6)) ([pc, ec, [i64 N, sl 2 ne]] ++ []) true .normal (J8 np ne kk e1 pc ec N at' mid iv (.slice none 0 0) [] (.slice none 0 0) [] (jv) 10)]) := by kernel_rfl
theorem so_nT (np ne no kk e1 : Nat) (pc ec oc : List Value) (N at' mid iv jv z w ej t : Int) (g : Code → St → Option (AExit × St)) : rnd8 [] g (I8 np ne kk e1 pc ec N (at') (mid) (iv) (.slice none 0 0) [] 5) [tru 10, tru 12, tru 15, tru 16, past 21 .normal (J8 np ne kk e1 pc ec N at' mid iv (.slice none 0 0) [] (sl 5 no) [(5, own oc 3 1)] (jv) 10), fls 28, tru 38, got 40 (i64 z), got 46 (i64 w), tru 48, got 50 (i64 ej), tru 74, got 78 (i64 t), tru 89] 5 ([(4, 11, true)]) = some (.normal, some (I8 np ne kk e1 pc ec N (t) (t) (IntKind.wrap .i64 (iv + 1)) (sl 4 1) [(4, own [i64 ej] 3 1)] 5), [pc, ec, [i64 N, sl 2 ne]] ++ [[i64 ej]], true, [.b (decide (iv < (np : Int))) (.val (.bool true)), .b (decide (iv < (np : Int))) (.val (.bool true)), .b (decide (iv < (np : Int))) (.val (.bool true)), .b (decide (iv < 20)) (.val (.bool true)), .bk 2 (.loop loop8j) 5 [0, 3, 3] (some (J8 np ne kk e1 pc ec N at' mid iv (.slice none 0 0) [] (.slice none 0 0) [] (0) 6)) ([pc, ec, [i64 N, sl 2 ne]] ++ []) true .normal (J8 np ne kk e1 pc ec N at' mid iv (.slice none 0 0) [] (sl 5 no) [(5, own oc 3 1)] (jv) 10), .b (((no : Int) == 0)) (.val (.bool false)), .ib iv np, .ld 3 (0 + iv.toNat * 1) (some (ro pc e1 1)) (.val (i64 z)), .cr 18 [i64 z, i64 no] [] (.val (i64 w)), .ib w no, .ld 3 (0 + w.toNat * 1) (some (own oc 3 1)) (.val (i64 ej)), .ib ej ne, .ld 3 (0 + ej.toNat * 4 + 1) (some (own ec 31 4)) (.val (i64 t)), .b (decide ((1 : Int) ≤ (kk : Int))) (.val (.bool true))]) := by kernel_rfl
theorem so_nF (np ne no kk e1 : Nat) (pc ec oc : List Value) (N at' mid iv jv z w ej t : Int) (g : Code → St → Option (AExit × St)) : rnd8 [] g (I8 np ne kk e1 pc ec N (at') (mid) (iv) (.slice none 0 0) [] 5) [tru 10, tru 12, tru 15, tru 16, past 21 .normal (J8 np ne kk e1 pc ec N at' mid iv (.slice none 0 0) [] (sl 5 no) [(5, own oc 3 1)] (jv) 10), fls 28, tru 38, got 40 (i64 z), got 46 (i64 w), tru 48, got 50 (i64 ej), tru 74, got 78 (i64 t), fls 89] 5 ([(4, 11, true)]) = some (.normal, some (I8 np ne kk e1 pc ec N (t) (mid) (IntKind.wrap .i64 (iv + 1)) (sl 4 1) [(4, own [i64 ej] 3 1)] 5), [pc, ec, [i64 N, sl 2 ne]] ++ [[i64 ej]], true, [.b (decide (iv < (np : Int))) (.val (.bool true)), .b (decide (iv < (np : Int))) (.val (.bool true)), .b (decide (iv < (np : Int))) (.val (.bool true)), .b (decide (iv < 20)) (.val (.bool true)), .bk 2 (.loop loop8j) 5 [0, 3, 3] (some (J8 np ne kk e1 pc ec N at' mid iv (.slice none 0 0) [] (.slice none 0 0) [] (0) 6)) ([pc, ec, [i64 N, sl 2 ne]] ++ []) true .normal (J8 np ne kk e1 pc ec N at' mid iv (.slice none 0 0) [] (sl 5 no) [(5, own oc 3 1)] (jv) 10), .b (((no : Int) == 0)) (.val (.bool false)), .ib iv np, .ld 3 (0 + iv.toNat * 1) (some (ro pc e1 1)) (.val (i64 z)), .cr 18 [i64 z, i64 no] [] (.val (i64 w)), .ib w no, .ld 3 (0 + w.toNat * 1) (some (own oc 3 1)) (.val (i64 ej)), .ib ej ne, .ld 3 (0 + ej.toNat * 4 + 1) (some (own ec 31 4)) (.val (i64 t)), .b (decide ((1 : Int) ≤ (kk : Int))) (.val (.bool false))]) := by kernel_rfl
theorem so_nE (np ne kk e1 : Nat) (pc ec : List Value) (N at' mid iv : Int) (g : Code → St → Option (AExit × St)) : rnd8 [] g (I8 np ne kk e1 pc ec N (at') (mid) (iv) (.slice none 0 0) [] 5) [fls 10, fls 12, fls 15] 15 ([]) = some (.exit 0, some (I8 np ne kk e1 pc ec N (at') (mid) (iv) (.slice none 0 0) [] 15), [pc, ec, [i64 N, sl 2 ne]] ++ [], true, [.b (decide (iv < (np : Int))) (.val (.bool false)), .b (decide (iv < (np : Int))) (.val (.bool false)), .b (decide (iv < (np : Int))) (.val (.bool false))]) := by kernel_rfl
theorem so_nG (np ne kk e1 : Nat) (pc ec : List Value) (N at' mid iv : Int) (g : Code → St → Option (AExit × St)) : rnd8 [] g (I8 np ne kk e1 pc ec N (at') (mid) (iv) (.slice none 0 0) [] 5) [tru 10, tru 12, tru 15, fls 16] 15 ([]) = some (.exit 0, some (I8 np ne kk e1 pc ec N (at') (mid) (iv) (.slice none 0 0) [] 15), [pc, ec, [i64 N, sl 2 ne]] ++ [], true, [.b (decide (iv < (np : Int))) (.val (.bool true)), .b (decide (iv < (np : Int))) (.val (.bool true)), .b (decide (iv < (np : Int))) (.val (.bool true)), .b (decide (iv < 20)) (.val (.bool false))]) := by kernel_rfl
theorem so_sX (np ne nl kk e1 : Nat) (pc ec lc : List Value) (N at' mid iv jv : Int) (g : Code → St → Option (AExit × St)) : rnd8 [(4, 4, true)] g (I8 np ne kk e1 pc ec N (at') (mid) (iv) (sl 4 nl) [(4, own lc 3 1)] 5) [tru 10, tru 12, tru 15, tru 16, past 21 .normal (J8 np ne kk e1 pc ec N at' mid iv (sl 4 nl) [(4, own lc 3 1)] (.slice none 0 0) [] (jv) 10)] 15 ([(4, 4, true)]) = some (.exit 0, some (I8 np ne kk e1 pc ec N (at') (mid) (iv) (sl 4 nl) [(4, own lc 3 1)] 15), [pc, ec, [i64 N, sl 2 ne]] ++ [lc], true, [.b (decide (iv < (np : Int))) (.val (.bool true)), .b (decide (iv < (np : Int))) (.val (.bool true)), .b (decide (iv < (np : Int))) (.val (.bool true)), .b (decide (iv < 20)) (.val (.bool true)), .bk 2 (.loop loop8j) 5 [0, 3, 3] (some (J8 np ne kk e1 pc ec N at' mid iv (sl 4 nl) [(4, own lc 3 1)] (.slice none 0 0) [] (0) 6)) ([pc, ec, [i64 N, sl 2 ne]] ++ [lc]) true .normal (J8 np ne kk e1 pc ec N at' mid iv (sl 4 nl) [(4, own lc 3 1)] (.slice none 0 0) [] (jv) 10)]) := by kernel_rfl
theorem so_sT (np ne no nl kk e1 : Nat) (pc ec lc oc : List Value) (N at' mid iv jv z w ej t : Int) (g : Code → St → Option (AExit × St)) : rnd8 [(4, 4, true)] g (I8 np ne kk e1 pc ec N (at') (mid) (iv) (sl 4 nl) [(4, own lc 3 1)] 5) [tru 10, tru 12, tru 15, tru 16, past 21 .normal (J8 np ne kk e1 pc ec N at' mid iv (sl 4 nl) [(4, own lc 3 1)] (sl 5 no) [(5, own oc 3 1)] (jv) 10), fls 28, tru 38, got 40 (i64 z), got 46 (i64 w), tru 48, got 50 (i64 ej), onto 54 (lc), tru 70, got 72 (i64 ej), tru 74, got 78 (i64 t), tru 89] 5 ([(4, 11, true)]) = some (.normal, some (I8 np ne kk e1 pc ec N (t) (t) (IntKind.wrap .i64 (iv + 1)) (sl 4 (nl + 1)) [(4, own (lc ++ [i64 ej]) 3 1)] 5), [pc, ec, [i64 N, sl 2 ne]] ++ [lc ++ [i64 ej]], true, [.b (decide (iv < (np : Int))) (.val (.bool true)), .b (decide (iv < (np : Int))) (.val (.bool true)), .b (decide (iv < (np : Int))) (.val (.bool true)), .b (decide (iv < 20)) (.val (.bool true)), .bk 2 (.loop loop8j) 5 [0, 3, 3] (some (J8 np ne kk e1 pc ec N at' mid iv (sl 4 nl) [(4, own lc 3 1)] (.slice none 0 0) [] (0) 6)) ([pc, ec, [i64 N, sl 2 ne]] ++ [lc]) true .normal (J8 np ne kk e1 pc ec N at' mid iv (sl 4 nl) [(4, own lc 3 1)] (sl 5 no) [(5, own oc 3 1)] (jv) 10), .b (((no : Int) == 0)) (.val (.bool false)), .ib iv np, .ld 3 (0 + iv.toNat * 1) (some (ro pc e1 1)) (.val (i64 z)), .cr 18 [i64 z, i64 no] [] (.val (i64 w)), .ib w no, .ld 3 (0 + w.toNat * 1) (some (own oc 3 1)) (.val (i64 ej)), .ap [25, 25] (sl 4 nl) (.slice (some ⟨10, 0, none⟩) 1 2) lc (own lc 3 1) [i64 ej], .ib (IntKind.wrap .i64 (((nl + 1 : Nat) : Int) - 1)) (nl + 1), .ld 3 (0 + (IntKind.wrap .i64 (((nl + 1 : Nat) : Int) - 1)).toNat * 1) (some (own (lc ++ [i64 ej]) 3 1)) (.val (i64 ej)), .ib ej ne, .ld 3 (0 + ej.toNat * 4 + 1) (some (own ec 31 4)) (.val (i64 t)), .b (decide (((nl + 1 : Nat) : Int) ≤ (kk : Int))) (.val (.bool true))]) := by kernel_rfl
theorem so_sF (np ne no nl kk e1 : Nat) (pc ec lc oc : List Value) (N at' mid iv jv z w ej t : Int) (g : Code → St → Option (AExit × St)) : rnd8 [(4, 4, true)] g (I8 np ne kk e1 pc ec N (at') (mid) (iv) (sl 4 nl) [(4, own lc 3 1)] 5) [tru 10, tru 12, tru 15, tru 16, past 21 .normal (J8 np ne kk e1 pc ec N at' mid iv (sl 4 nl) [(4, own lc 3 1)] (sl 5 no) [(5, own oc 3 1)] (jv) 10), fls 28, tru 38, got 40 (i64 z), got 46 (i64 w), tru 48, got 50 (i64 ej), onto 54 (lc), tru 70, got 72 (i64 ej), tru 74, got 78 (i64 t), fls 89] 5 ([(4, 11, true)]) = some (.normal, some (I8 np ne kk e1 pc ec N (t) (mid) (IntKind.wrap .i64 (iv + 1)) (sl 4 (nl + 1)) [(4, own (lc ++ [i64 ej]) 3 1)] 5), [pc, ec, [i64 N, sl 2 ne]] ++ [lc ++ [i64 ej]], true, [.b (decide (iv < (np : Int))) (.val (.bool true)), .b (decide (iv < (np : Int))) (.val (.bool true)), .b (decide (iv < (np : Int))) (.val (.bool true)), .b (decide (iv < 20)) (.val (.bool true)), .bk 2 (.loop loop8j) 5 [0, 3, 3] (some (J8 np ne kk e1 pc ec N at' mid iv (sl 4 nl) [(4, own lc 3 1)] (.slice none 0 0) [] (0) 6)) ([pc, ec, [i64 N, sl 2 ne]] ++ [lc]) true .normal (J8 np ne kk e1 pc ec N at' mid iv (sl 4 nl) [(4, own lc 3 1)] (sl 5 no) [(5, own oc 3 1)] (jv) 10), .b (((no : Int) == 0)) (.val (.bool false)), .ib iv np, .ld 3 (0 + iv.toNat * 1) (some (ro pc e1 1)) (.val (i64 z)), .cr 18 [i64 z, i64 no] [] (.val (i64 w)), .ib w no, .ld 3 (0 + w.toNat * 1) (some (own oc 3 1)) (.val (i64 ej)), .ap [25, 25] (sl 4 nl) (.slice (some ⟨10, 0, none⟩) 1 2) lc (own lc 3 1) [i64 ej], .ib (IntKind.wrap .i64 (((nl + 1 : Nat) : Int) - 1)) (nl + 1), .ld 3 (0 + (IntKind.wrap .i64 (((nl + 1 : Nat) : Int) - 1)).toNat * 1) (some (own (lc ++ [i64 ej]) 3 1)) (.val (i64 ej)), .ib ej ne, .ld 3 (0 + ej.toNat * 4 + 1) (some (own ec 31 4)) (.val (i64 t)), .b (decide (((nl + 1 : Nat) : Int) ≤ (kk : Int))) (.val (.bool false))]) := by kernel_rfl
theorem so_sE (np ne nl kk e1 : Nat) (pc ec lc : List Value) (N at' mid iv : Int) (g : Code → St → Option (AExit × St)) : rnd8 [(4, 4, true)] g (I8 np ne kk e1 pc ec N (at') (mid) (iv) (sl 4 nl) [(4, own lc 3 1)] 5) [fls 10, fls 12, fls 15] 15 ([(4, 4, true)]) = some (.exit 0, some (I8 np ne kk e1 pc ec N (at') (mid) (iv) (sl 4 nl) [(4, own lc 3 1)] 15), [pc, ec, [i64 N, sl 2 ne]] ++ [lc], true, [.b (decide (iv < (np : Int))) (.val (.bool false)), .b (decide (iv < (np : Int))) (.val (.bool false)), .b (decide (iv < (np : Int))) (.val (.bool false))]) := by kernel_rfl
theorem so_sG (np ne nl kk e1 : Nat) (pc ec lc : List Value) (N at' mid iv : Int) (g : Code → St → Option (AExit × St)) : rnd8 [(4, 4, true)] g (I8 np ne kk e1 pc ec N (at') (mid) (iv) (sl 4 nl) [(4, own lc 3 1)] 5) [tru 10, tru 12, tru 15, fls 16] 15 ([(4, 4, true)]) = some (.exit 0, some (I8 np ne kk e1 pc ec N (at') (mid) (iv) (sl 4 nl) [(4, own lc 3 1)] 15), [pc, ec, [i64 N, sl 2 ne]] ++ [lc], true, [.b (decide (iv < (np : Int))) (.val (.bool true)), .b (decide (iv < (np : Int))) (.val (.bool true)), .b (decide (iv < (np : Int))) (.val (.bool true)), .b (decide (iv < 20)) (.val (.bool false))]) := by kernel_rfl
end Go.Proofs.YtlmifmodnkhidaaDoor

open Go Go.Am Go.Proofs
namespace Go.Proofs.YtlmifmodnkhidaaDoor
set_option maxRecDepth 10000

/- A row of numbers that grows. -/
def iV (id : Nat) : List Int → Value
  | [] => .slice none 0 0
  | _ :: l => sl id (l.length + 1)
def iB (id : Nat) : List Int → List (Nat × ABlk)
  | [] => []
  | x :: l => [(id, own (ints (x :: l)) 3 1)]
theorem iV_snoc (id : Nat) (l : List Int) (x : Int) : iV id (l ++ [x]) = sl id (l.length + 1) := by cases l <;> simp [iV]
theorem iB_snoc (id : Nat) (l : List Int) (x : Int) : iB id (l ++ [x]) = [(id, own (ints l ++ [i64 x]) 3 1)] := by cases l <;> simp [iB, ints]

/- Which edges lead from a vertex. -/
def outs (es : List E) (a : Int) (j : Nat) : List Int := ((List.range j).filter fun (i : Nat) => decide ((es[i]?.map E.f) = some a)).map fun (i : Nat) => (i : Int)
theorem outs_succ (es : List E) (a : Int) (j : Nat) {e : E} (h : es[j]? = some e) : outs es a (j + 1) = if e.f = a then outs es a j ++ [(j : Int)] else outs es a j := by
  unfold outs
  rw [List.range_succ, List.filter_append, List.map_append]
  by_cases hf : e.f = a
  · rw [if_pos hf]; simp [h, hf]
  · rw [if_neg hf]; simp [h, hf]
theorem outs_len (es : List E) (a : Int) (j : Nat) : (outs es a j).length ≤ j := by
  unfold outs
  rw [List.length_map]
  exact Nat.le_trans (List.length_filter_le _ _) (by simp)
theorem outs_mem {es : List E} {a : Int} {j : Nat} {x : Int} (h : x ∈ outs es a j) : ∃ i e, x = ((i : Nat) : Int) ∧ es[i]? = some e ∧ e.f = a := by
  simp only [outs, List.mem_map, List.mem_filter, decide_eq_true_eq] at h
  obtain ⟨i, ⟨_, h1⟩, rfl⟩ := h
  cases he : es[i]? with
  | none => rw [he] at h1; cases h1
  | some e => rw [he] at h1; simp at h1; exact ⟨i, e, rfl, he, h1⟩

def SJ (N : Int) (e1 kk : Nat) (es : List E) (ps ls : List Int) (at' mid iv : Int) (j nx : Nat) : St :=
  J8 ps.length es.length kk e1 (ints ps) (ecOf es) N at' mid iv (iV 4 ls) (iB 4 ls) (iV 5 (outs es at' j)) (iB 5 (outs es at' j)) j nx
def lm : List Int → Moves
  | [] => []
  | _ :: _ => [(4, 4, true)]
theorem specs8 {bs : List (Nat × (Code → St → Option (AExit × St)))} (hb : ∀ B, ∀ p ∈ bs, BlkOk Tryd.prog [] B p.1 p.2) (B : Nat) : SpecsOk Tryd.prog [] B (SP8 bs) := specsB_ok (fun p hp => by
  simp only [List.mem_cons, List.not_mem_nil, or_false] at hp
  rcases hp with rfl | rfl | rfl | rfl | rfl
  · exact ok13 B
  · exact ok15 B
  · exact ok18 B
  · exact ok24W B
  · exact ok26 B) (hb B)
def nb (N : Int) (ne : Nat) : List Value := [i64 N, sl 2 ne]
theorem nb_still (mv : Moves) (N : Int) (ne : Nat) (h : toTgt mv 2 = some 2) : renL mv (nb N ne) = some (nb N ne) := by
  simp [nb, renL, renV, leaf, sl, renAddr, h]
theorem ints_snoc_flat (l : List Int) (x : Int) : flatL (ints l ++ [i64 x]) = true := by
  have := ints_flat (l ++ [x])
  simpa [ints] using this
theorem one_flat (x : Int) : flatL [i64 x] = true := rfl
theorem still8 {mv : Moves} {N : Int} {es : List E} {ps : List Int} {r : List (List Value)} (h : toTgt mv 2 = some 2) (hr : r.all flatL = true) : ∀ l ∈ [ints ps, ecOf es, [i64 N, sl 2 es.length]] ++ r, renL mv l = some l := fun l hl => by
  rcases List.mem_append.1 hl with hl | hl
  · simp only [List.mem_cons, List.not_mem_nil, or_false] at hl
    rcases hl with rfl | rfl | rfl
    · exact renL_flat _ _ (ints_flat ps)
    · exact renL_flat _ _ (ecOf_flat es)
    · exact nb_still mv N _ h
  · exact renL_flat _ _ (List.all_eq_true.1 hr l hl)
abbrev GoalJ (N : Int) (e1 kk : Nat) (es : List E) (ps ls : List Int) (at' mid iv : Int) (B j : Nat) : Prop :=
  ∃ SP n s1, SpecsOk Tryd.prog [] B SP ∧ s1.M.next ≤ 10 ∧
      ((∃ nx mv keep d', aexec Tryd.prog [] SP n loop8j (SJ N e1 kk es ps ls at' mid iv j 6) = some (.normal, s1) ∧ View 5 nx mv keep [0, 3] [0, 3, 3] s1 (SJ N e1 kk es ps ls at' mid iv d' 6) ∧ d' ≤ es.length ∧ es.length - d' < es.length - j) ∨
        (∃ mv keep, aexec Tryd.prog [] SP n loop8j (SJ N e1 kk es ps ls at' mid iv j 6) = some (.exit 2, s1) ∧ View 5 10 mv keep [0, 3] [0, 3, 3] s1 (SJ N e1 kk es ps ls at' mid iv es.length 10)))
theorem stepJ (N : Int) (e1 kk : Nat) (es : List E) (hes : es.length ≤ 100) (ps ls : List Int) (at' mid iv : Int) (B j : Nat) (hj : j ≤ es.length) : GoalJ N e1 kk es ps ls at' mid iv B j := by
  have hS := specs8 (bs := []) (fun _ p hp => by cases hp) B
  have hol := outs_len es at' j
  by_cases hlt : j < es.length
  · obtain ⟨e, he⟩ : ∃ e, es[j]? = some e := ⟨es[j], List.getElem?_eq_getElem hlt⟩
    have g1 : (QV.b (decide ((j : Int) < (es.length : Int))) (.val (.bool true))).holds Tryd.prog (SP8 []) noDoors [] := dq (by simp; omega)
    have g2 : (QV.ib (j : Int) es.length).holds Tryd.prog (SP8 []) noDoors [] := by simp only [QV.holds, inB, Bool.and_eq_true, decide_eq_true_eq]; omega
    have g3 : (QV.ld 3 (0 + ((j : Nat) : Int).toNat * 4) (some (own (ecOf es) 31 4)) (.val (i64 e.f))).holds Tryd.prog (SP8 []) noDoors [] := ⟨_, rfl, by rw [ld3]; simpa using ecOf_get he⟩
    have hiv : IntKind.wrap .i64 ((j : Int) + 1) = ((j + 1 : Nat) : Int) := by rw [IntWalk.i64_in _ (by omega)]; omega
    have hou := outs_succ es at' j he
    by_cases hf : e.f = at'
    · rw [if_pos hf] at hou
      have g4 : (QV.b (e.f == at') (.val (.bool true))).holds Tryd.prog (SP8 []) noDoors [] := by simp [QV.holds, hf]
      have close : ∀ {mv : Moves} {F : List Fact} {q : List QV} {ov : Value} {ob : List Value} {r : List (List Value)}, rndJ (SJ N e1 kk es ps ls at' mid iv j 6) F 6 keepJ mv = some (.normal, some (J8 ps.length es.length kk e1 (ints ps) (ecOf es) N at' mid iv (iV 4 ls) (iB 4 ls) ov [(5, own ob 3 1)] (IntKind.wrap .i64 ((j : Int) + 1)) 6), [ints ps, ecOf es, [i64 N, sl 2 es.length]] ++ r, true, q) →
          (∀ p ∈ q, p.holds Tryd.prog (SP8 []) noDoors []) → toTgt (mv8 mv) 2 = some 2 → r.all flatL = true → ov = sl 5 ((outs es at' j).length + 1) → ob = ints (outs es at' j) ++ [i64 (j : Int)] → GoalJ N e1 kk es ps ls at' mid iv B j := fun hs hq hm hr hov hob => by
        subst hov; subst hob
        unfold rndJ at hs
        obtain ⟨s1, k1, k2, k3⟩ := round_of (doors := noDoors) (ids := []) hs hq (still8 hm hr)
        rw [hiv, ← iV_snoc 5, ← iB_snoc 5, ← hou] at k3
        exact ⟨_, 60, s1, hS, k1, .inl ⟨6, _, _, j + 1, k2, k3, by omega, by omega⟩⟩
      have g5 : ∀ x l, outs es at' j = x :: l → (QV.ap [25, 25] (sl 5 (l.length + 1)) (.slice (some ⟨6, 0, none⟩) 1 2) (ints (x :: l)) (own (ints (x :: l)) 3 1) [i64 (j : Int)]).holds Tryd.prog (SP8 []) noDoors [] := fun x l h M r hM => by
        rw [h] at hol
        exact ap25 (ws := x :: l) (nw := l.length + 1) (n := 1) rfl (by decide) rfl (by simp only [List.length_cons] at hol; omega) rfl rfl M r hM
      cases ls with
      | nil =>
        cases ho : outs es at' j with
        | nil =>
          refine close (mv := [] ++ [(5, 7, true)]) (r := _) (by unfold SJ; rw [ho]; exact (sj_nnT ps.length es.length kk e1 (ints ps) (ecOf es) N at' mid iv j e.f)) (by simp only [List.forall_mem_cons]; exact ⟨g1, g2, g3, g4, by simp⟩) rfl (by simp [ints_flat, ints_snoc_flat, one_flat]) (by rw [ho]; first | done | rfl) (by rw [ho]; first | done | rfl)
        | cons x l =>
          refine close (mv := [] ++ [(5, 7, true)]) (r := _) (by unfold SJ; rw [ho]; exact (sj_nsT ps.length es.length (l.length + 1) kk e1 (ints ps) (ecOf es) (ints (x :: l)) N at' mid iv j e.f)) (by simp only [List.forall_mem_cons]; exact ⟨g1, g2, g3, g4, g5 x l ho, by simp⟩) rfl (by simp [ints_flat, ints_snoc_flat, one_flat]) (by rw [ho]; first | done | rfl) (by rw [ho]; first | done | rfl)
      | cons y ys =>
        cases ho : outs es at' j with
        | nil =>
          refine close (mv := [(4, 4, true)] ++ [(5, 7, true)]) (r := _) (by unfold SJ; rw [ho]; exact (sj_snT ps.length es.length (ys.length + 1) kk e1 (ints ps) (ecOf es) (ints (y :: ys)) N at' mid iv j e.f)) (by simp only [List.forall_mem_cons]; exact ⟨g1, g2, g3, g4, by simp⟩) rfl (by simp [ints_flat, ints_snoc_flat, one_flat]) (by rw [ho]; first | done | rfl) (by rw [ho]; first | done | rfl)
        | cons x l =>
          refine close (mv := [(4, 4, true)] ++ [(5, 7, true)]) (r := _) (by unfold SJ; rw [ho]; exact (sj_ssT ps.length es.length (l.length + 1) (ys.length + 1) kk e1 (ints ps) (ecOf es) (ints (y :: ys)) (ints (x :: l)) N at' mid iv j e.f)) (by simp only [List.forall_mem_cons]; exact ⟨g1, g2, g3, g4, g5 x l ho, by simp⟩) rfl (by simp [ints_flat, ints_snoc_flat, one_flat]) (by rw [ho]; first | done | rfl) (by rw [ho]; first | done | rfl)
    · rw [if_neg hf] at hou
      have g4 : (QV.b (e.f == at') (.val (.bool false))).holds Tryd.prog (SP8 []) noDoors [] := by simp [QV.holds, hf]
      have close : ∀ {mv : Moves} {F : List Fact} {q : List QV} {r : List (List Value)}, rndJ (SJ N e1 kk es ps ls at' mid iv j 6) F 6 keepJ mv = some (.normal, some (J8 ps.length es.length kk e1 (ints ps) (ecOf es) N at' mid iv (iV 4 ls) (iB 4 ls) (iV 5 (outs es at' j)) (iB 5 (outs es at' j)) (IntKind.wrap .i64 ((j : Int) + 1)) 6), [ints ps, ecOf es, [i64 N, sl 2 es.length]] ++ r, true, q) →
          (∀ p ∈ q, p.holds Tryd.prog (SP8 []) noDoors []) → toTgt (mv8 mv) 2 = some 2 → r.all flatL = true → GoalJ N e1 kk es ps ls at' mid iv B j := fun hs hq hm hr => by
        unfold rndJ at hs
        obtain ⟨s1, k1, k2, k3⟩ := round_of (doors := noDoors) (ids := []) hs hq (still8 hm hr)
        rw [hiv, ← hou] at k3
        exact ⟨_, 60, s1, hS, k1, .inl ⟨6, _, _, j + 1, k2, k3, by omega, by omega⟩⟩
      cases ls with
      | nil =>
        cases ho : outs es at' j with
        | nil =>
          refine close (mv := [] ++ []) (r := _) (by unfold SJ; rw [ho]; exact (sj_nnF ps.length es.length kk e1 (ints ps) (ecOf es) N at' mid iv j e.f)) (by simp only [List.forall_mem_cons]; exact ⟨g1, g2, g3, g4, by simp⟩) rfl (by simp [ints_flat, ints_snoc_flat, one_flat])
        | cons x l =>
          refine close (mv := [] ++ [(5, 5, true)]) (r := _) (by unfold SJ; rw [ho]; exact (sj_nsF ps.length es.length (l.length + 1) kk e1 (ints ps) (ecOf es) (ints (x :: l)) N at' mid iv j e.f)) (by simp only [List.forall_mem_cons]; exact ⟨g1, g2, g3, g4, by simp⟩) rfl (by simp [ints_flat, ints_snoc_flat, one_flat])
      | cons y ys =>
        cases ho : outs es at' j with
        | nil =>
          refine close (mv := [(4, 4, true)] ++ []) (r := _) (by unfold SJ; rw [ho]; exact (sj_snF ps.length es.length (ys.length + 1) kk e1 (ints ps) (ecOf es) (ints (y :: ys)) N at' mid iv j e.f)) (by simp only [List.forall_mem_cons]; exact ⟨g1, g2, g3, g4, by simp⟩) rfl (by simp [ints_flat, ints_snoc_flat, one_flat])
        | cons x l =>
          refine close (mv := [(4, 4, true)] ++ [(5, 5, true)]) (r := _) (by unfold SJ; rw [ho]; exact (sj_ssF ps.length es.length (l.length + 1) (ys.length + 1) kk e1 (ints ps) (ecOf es) (ints (y :: ys)) (ints (x :: l)) N at' mid iv j e.f)) (by simp only [List.forall_mem_cons]; exact ⟨g1, g2, g3, g4, by simp⟩) rfl (by simp [ints_flat, ints_snoc_flat, one_flat])
  · have he : j = es.length := by omega
    have g1 : (QV.b (decide ((j : Int) < (es.length : Int))) (.val (.bool false))).holds Tryd.prog (SP8 []) noDoors [] := dq (by simp; omega)
    have close : ∀ {mv : Moves} {F : List Fact} {q : List QV} {r : List (List Value)}, rndJ (SJ N e1 kk es ps ls at' mid iv j 6) F 10 keepJ mv = some (.exit 2, some (SJ N e1 kk es ps ls at' mid iv j 10), [ints ps, ecOf es, [i64 N, sl 2 es.length]] ++ r, true, q) →
        (∀ p ∈ q, p.holds Tryd.prog (SP8 []) noDoors []) → toTgt (mv8 mv) 2 = some 2 → r.all flatL = true → GoalJ N e1 kk es ps ls at' mid iv B j := fun hs hq hm hr => by
      unfold rndJ at hs
      obtain ⟨s1, k1, k2, k3⟩ := round_of (doors := noDoors) (ids := []) hs hq (still8 hm hr)
      rw [he] at k2 k3
      unfold GoalJ
      rw [he]
      exact ⟨_, 60, s1, hS, k1, .inr ⟨_, _, k2, k3⟩⟩
    cases ls with
    | nil =>
      cases ho : outs es at' j with
      | nil =>
        refine close (mv := [] ++ []) (r := _) (by unfold SJ; rw [ho]; exact (sj_nnE ps.length es.length kk e1 (ints ps) (ecOf es) N at' mid iv j)) (by simp only [List.forall_mem_cons]; exact ⟨g1, by simp⟩) rfl (by simp [ints_flat, ints_snoc_flat, one_flat])
      | cons x l =>
        refine close (mv := [] ++ [(5, 5, true)]) (r := _) (by unfold SJ; rw [ho]; exact (sj_nsE ps.length es.length (l.length + 1) kk e1 (ints ps) (ecOf es) (ints (x :: l)) N at' mid iv j)) (by simp only [List.forall_mem_cons]; exact ⟨g1, by simp⟩) rfl (by simp [ints_flat, ints_snoc_flat, one_flat])
    | cons y ys =>
      cases ho : outs es at' j with
      | nil =>
        refine close (mv := [(4, 4, true)] ++ []) (r := _) (by unfold SJ; rw [ho]; exact (sj_snE ps.length es.length (ys.length + 1) kk e1 (ints ps) (ecOf es) (ints (y :: ys)) N at' mid iv j)) (by simp only [List.forall_mem_cons]; exact ⟨g1, by simp⟩) rfl (by simp [ints_flat, ints_snoc_flat, one_flat])
      | cons x l =>
        refine close (mv := [(4, 4, true)] ++ [(5, 5, true)]) (r := _) (by unfold SJ; rw [ho]; exact (sj_ssE ps.length es.length (l.length + 1) (ys.length + 1) kk e1 (ints ps) (ecOf es) (ints (y :: ys)) (ints (x :: l)) N at' mid iv j)) (by simp only [List.forall_mem_cons]; exact ⟨g1, by simp⟩) rfl (by simp [ints_flat, ints_snoc_flat, one_flat])
end Go.Proofs.YtlmifmodnkhidaaDoor

open Go Go.Am Go.Proofs
namespace Go.Proofs.YtlmifmodnkhidaaDoor
set_option maxRecDepth 10000

theorem blkJ (N : Int) (e1 kk : Nat) (es : List E) (hes : es.length ≤ 100) (ps ls : List Int) (at' mid iv : Int) (B : Nat) :
    BlkOk Tryd.prog [] B 2 (loopG (.loop loop8j) (door8 (lm ls) 2) (SJ N e1 kk es ps ls at' mid iv 0 6) (.normal, SJ N e1 kk es ps ls at' mid iv es.length 10)) := by
  refine loopG_ok (e := .exit 2) noNumP mixedP (fun d : Nat => SJ N e1 kk es ps ls at' mid iv d 6) (fun d => d ≤ es.length) (fun d => es.length - d) (K := 10) (by intro h; cases h) (Nat.zero_le _) (show (5 : Nat) ≤ 10 by decide) rfl rfl rfl ?_ (stepJ N e1 kk es hes ps ls at' mid iv B)
  intro id hid hn
  have h5 : id < 5 := hid
  simp only [door8, List.mem_cons, List.not_mem_nil, or_false] at hn
  have h3 : id = 1 ∨ id = 2 ∨ id = 4 := by omega
  have gen : ∀ (ob ob' : List (Nat × ABlk)), (ob = [] ∨ ∃ b, ob = [(5, b)]) → (ob' = [] ∨ ∃ b, ob' = [(5, b)]) → ∀ lb, (lb = [] ∨ ∃ b, lb = [(4, b)]) → (blkTree (blks8 es.length e1 (ints ps) (ecOf es) N (lb ++ ob))).get id = (blkTree (blks8 es.length e1 (ints ps) (ecOf es) N (lb ++ ob'))).get id := by
    intro ob ob' ho ho' lb hl
    rcases ho with rfl | ⟨b, rfl⟩ <;> rcases ho' with rfl | ⟨b', rfl⟩ <;> rcases hl with rfl | ⟨b2, rfl⟩ <;> rcases h3 with rfl | rfl | rfl <;> rfl
  have hB : ∀ (k : Nat) (l : List Int), iB k l = [] ∨ ∃ b, iB k l = [(k, b)] := fun k l => by cases l <;> simp [iB]
  exact gen _ _ (hB 5 _) (hB 5 _) _ (hB 4 ls)

abbrev D8 := List Int × Int × Int
def nxt (es : List E) (ps : List Int) (kk : Nat) (d : D8) : Option D8 :=
  if d.1.length < ps.length ∧ d.1.length < 20 then
    match outs es d.2.1 es.length, ps[d.1.length]? with
    | x :: l, some z => match (x :: l)[(modI z (l.length + 1 : Nat)).toNat]? with
      | some ej => match es[ej.toNat]? with
        | some e => some (d.1 ++ [ej], e.t, if d.1.length + 1 ≤ kk then e.t else d.2.2)
        | none => none
      | none => none
    | _, _ => none
  else none
def runD (es : List E) (ps : List Int) (kk : Nat) : Nat → D8 → D8
  | 0, d => d
  | n + 1, d => match nxt es ps kk d with
    | some d' => runD es ps kk n d'
    | none => d
theorem runD_none {es : List E} {ps : List Int} {kk : Nat} {d : D8} (h : nxt es ps kk d = none) : ∀ n, runD es ps kk n d = d
  | 0 => rfl
  | n + 1 => by unfold runD; rw [h]
theorem runD_some {es : List E} {ps : List Int} {kk : Nat} {d d' : D8} (h : nxt es ps kk d = some d') (n : Nat) : runD es ps kk (n + 1) d = runD es ps kk n d' := by
  show (match nxt es ps kk d with | some d' => runD es ps kk n d' | none => d) = _
  rw [h]
def SI (N : Int) (e1 kk : Nat) (es : List E) (ps : List Int) (d : D8) (nx : Nat) : St :=
  I8 ps.length es.length kk e1 (ints ps) (ecOf es) N d.2.1 d.2.2 (d.1.length : Nat) (iV 4 d.1) (iB 4 d.1) nx
abbrev GoalO (N : Int) (e1 kk : Nat) (es : List E) (ps : List Int) (DF : D8) (B : Nat) (d : D8) : Prop :=
  ∃ SP n s1, SpecsOk Tryd.prog [] B SP ∧ s1.M.next ≤ 15 ∧
      ((∃ nx mv keep d', aexec Tryd.prog [] SP n loop8 (SI N e1 kk es ps d 5) = some (.normal, s1) ∧ View 4 nx mv keep [0, 3] [3] s1 (SI N e1 kk es ps d' 5) ∧ (d'.1.length ≤ 20 ∧ runD es ps kk (20 - d'.1.length) d' = DF) ∧ 20 - d'.1.length < 20 - d.1.length) ∨
        (∃ mv keep, aexec Tryd.prog [] SP n loop8 (SI N e1 kk es ps d 5) = some (.exit 0, s1) ∧ View 4 15 mv keep [0, 3] [3] s1 (SI N e1 kk es ps DF 15)))
theorem ld3e {SP : Specs} {D : Nat → Door} {ids : List Nat} {es : List E} {k : Nat} {e : E} (h : es[k]? = some e) : (QV.ld 3 (0 + k * 4 + 1) (some (own (ecOf es) 31 4)) (.val (i64 e.t))).holds Tryd.prog SP D ids := by
  obtain ⟨r, hr⟩ := ecOf_drop h
  refine ⟨_, rfl, ?_⟩
  rw [ld3]
  have : ((ecOf es).drop (k * 4))[1]? = some (i64 e.t) := by rw [hr]; rfl
  simpa using this
theorem ldi {SP : Specs} {D : Nat → Door} {ids : List Nat} {l : List Int} {k : Nat} {z : Int} {elem esz : Nat} {wf : Nat} {app : Bool} (h : l[k]? = some z) : (QV.ld 3 (0 + k * 1) (some ⟨ints l, elem, esz, wf, app⟩) (.val (i64 z))).holds Tryd.prog SP D ids :=
  ⟨_, rfl, by rw [ld3]; simpa using ints_get h⟩

theorem step8 (N : Int) (e1 kk : Nat) (es : List E) (hes : es.length ≤ 100) (ps : List Int) (DF : D8) (B : Nat) (d : D8) (hd : d.1.length ≤ 20 ∧ runD es ps kk (20 - d.1.length) d = DF) : GoalO N e1 kk es ps DF B d := by
  obtain ⟨ls, at', mid⟩ := d
  obtain ⟨hl, hr⟩ := hd
  simp only at hl hr
  let g := loopG (.loop loop8j) (door8 (lm ls) 2) (SJ N e1 kk es ps ls at' mid (ls.length : Nat) 0 6) (.normal, SJ N e1 kk es ps ls at' mid (ls.length : Nat) es.length 10)
  have hS : SpecsOk Tryd.prog [] B (SP8 [(2, g)]) := specs8 (fun B p hp => by rw [List.mem_singleton.1 hp]; exact blkJ N e1 kk es hes ps ls at' mid _ B) B
  have fin : ∀ {F : List Fact} {mv : Moves} {q : List QV} {r : List (List Value)}, nxt es ps kk (ls, at', mid) = none → rnd8 (lm ls) g (SI N e1 kk es ps (ls, at', mid) 5) F 15 mv = some (.exit 0, some (SI N e1 kk es ps (ls, at', mid) 15), [ints ps, ecOf es, [i64 N, sl 2 es.length]] ++ r, true, q) →
      (∀ p ∈ q, p.holds Tryd.prog (SP8 [(2, g)]) (door8 (lm ls)) []) → toTgt (mv8 mv) 2 = some 2 → r.all flatL = true → GoalO N e1 kk es ps DF B (ls, at', mid) := fun hn hs hq hm hrr => by
    unfold rnd8 at hs
    obtain ⟨s1, k1, k2, k3⟩ := round_of (doors := door8 (lm ls)) (ids := []) hs hq (still8 hm hrr)
    rw [runD_none hn] at hr
    rw [hr] at k3
    exact ⟨_, 60, s1, hS, k1, .inr ⟨_, _, k2, k3⟩⟩
  have go1 : ∀ {F : List Fact} {mv : Moves} {q : List QV} {r : List (List Value)} {ls' : List Int} {t m : Int} {lv : Value} {lb : List (Nat × ABlk)}, nxt es ps kk (ls, at', mid) = some (ls', t, m) → rnd8 (lm ls) g (SI N e1 kk es ps (ls, at', mid) 5) F 5 mv = some (.normal, some (I8 ps.length es.length kk e1 (ints ps) (ecOf es) N t m (IntKind.wrap .i64 ((ls.length : Nat) + 1)) lv lb 5), [ints ps, ecOf es, [i64 N, sl 2 es.length]] ++ r, true, q) →
      (∀ p ∈ q, p.holds Tryd.prog (SP8 [(2, g)]) (door8 (lm ls)) []) → toTgt (mv8 mv) 2 = some 2 → r.all flatL = true → ls'.length = ls.length + 1 → ls.length < 20 → lv = iV 4 ls' → lb = iB 4 ls' → GoalO N e1 kk es ps DF B (ls, at', mid) := fun hn hs hq hm hrr hl' hlt hlv hlb => by
    subst hlv; subst hlb
    unfold rnd8 at hs
    obtain ⟨s1, k1, k2, k3⟩ := round_of (doors := door8 (lm ls)) (ids := []) hs hq (still8 hm hrr)
    have hiv : IntKind.wrap .i64 (((ls.length : Nat) : Int) + 1) = ((ls.length + 1 : Nat) : Int) := by rw [IntWalk.i64_in _ (by omega)]; omega
    rw [hiv, ← hl'] at k3
    rename_i F mv q r ls' t m
    refine ⟨_, 60, s1, hS, k1, .inl ⟨5, _, _, (ls', t, m), k2, k3, ⟨by simp only; omega, ?_⟩, by simp only; omega⟩⟩
    rw [← hr, show 20 - ls.length = (20 - (ls.length + 1)) + 1 by omega, runD_some hn]
    simp only [hl']
  have hbk : ∀ (t : St), t = SJ N e1 kk es ps ls at' mid (ls.length : Nat) 0 6 → ∀ (sf : St), sf = SJ N e1 kk es ps ls at' mid (ls.length : Nat) es.length 10 → ∀ r : List (List Value), r.all flatL = true → (QV.bk 2 (.loop loop8j) 5 [0, 3, 3] (some t) ([ints ps, ecOf es, [i64 N, sl 2 es.length]] ++ r) true .normal sf).holds Tryd.prog (SP8 [(2, g)]) (door8 (lm ls)) [] := fun t ht sf hsf r hrr => by
    subst ht; subst hsf
    exact ⟨_, rfl, rfl, rfl, rfl, still8 (by cases ls <;> rfl) hrr, rfl⟩
  by_cases hnp : ls.length < ps.length
  · have q1 : (QV.b (decide (((ls.length : Nat) : Int) < (ps.length : Int))) (.val (.bool true))).holds Tryd.prog (SP8 [(2, g)]) (door8 (lm ls)) [] := by simp only [QV.holds]; rw [decide_eq_true (by omega)]
    by_cases h20 : ls.length < 20
    · have q2 : (QV.b (decide (((ls.length : Nat) : Int) < 20)) (.val (.bool true))).holds Tryd.prog (SP8 [(2, g)]) (door8 (lm ls)) [] := by simp only [QV.holds]; rw [decide_eq_true (by omega)]
      obtain ⟨z, hz⟩ : ∃ z, ps[ls.length]? = some z := ⟨ps[ls.length], List.getElem?_eq_getElem hnp⟩
      have q3 : (QV.ib ((ls.length : Nat) : Int) ps.length).holds Tryd.prog (SP8 [(2, g)]) (door8 (lm ls)) [] := by simp only [QV.holds, inB, Bool.and_eq_true, decide_eq_true_eq]; omega
      have q4 : (QV.ld 3 (0 + (((ls.length : Nat) : Int)).toNat * 1) (some (ro (ints ps) e1 1)) (.val (i64 z))).holds Tryd.prog (SP8 [(2, g)]) (door8 (lm ls)) [] := ldi (k := ls.length) hz
      have hob := outs_len es at' es.length
      cases ho : outs es at' es.length with
      | nil =>
        have hn : nxt es ps kk (ls, at', mid) = none := by unfold nxt; rw [if_pos ⟨hnp, h20⟩]; simp only [ho]
        have hsf : ∀ lv lb, lv = iV 4 ls → lb = iB 4 ls → J8 ps.length es.length kk e1 (ints ps) (ecOf es) N at' mid (ls.length : Nat) lv lb (.slice none 0 0) [] (es.length : Nat) 10 = SJ N e1 kk es ps ls at' mid (ls.length : Nat) es.length 10 := fun lv lb h1 h2 => by subst h1; subst h2; unfold SJ; rw [ho]; rfl
        cases ls with
        | nil =>
          exact fin (mv := []) (r := _) hn (so_nX ps.length es.length kk e1 (ints ps) (ecOf es) N at' mid ((0 : Nat) : Int) (es.length : Nat) _) (by simp only [List.forall_mem_cons]; (repeat' apply And.intro) <;> first | exact q1 | exact q2 | exact q3 | exact q4 | exact hbk _ rfl _ (hsf _ _ rfl rfl) _ (by simp [ints_flat]) | (intro x hx; cases hx)) rfl (by simp [ints_flat])
        | cons y ys =>
          exact fin (mv := [(4, 4, true)]) (r := _) hn (so_sX ps.length es.length (ys.length + 1) kk e1 (ints ps) (ecOf es) (ints (y :: ys)) N at' mid ((ys.length + 1 : Nat) : Int) (es.length : Nat) _) (by simp only [List.forall_mem_cons]; (repeat' apply And.intro) <;> first | exact q1 | exact q2 | exact q3 | exact q4 | exact hbk _ rfl _ (hsf _ _ rfl rfl) _ (by simp [ints_flat]) | (intro x hx; cases hx)) rfl (by simp [ints_flat])
      | cons x l =>
        rw [ho] at hob
        simp only [List.length_cons] at hob
        have hwr := modI_range (x := z) (n := ((l.length + 1 : Nat) : Int)) (by omega)
        obtain ⟨wn, hwn⟩ : ∃ wn : Nat, modI z ((l.length + 1 : Nat) : Int) = (wn : Int) := ⟨(modI z ((l.length + 1 : Nat) : Int)).toNat, by omega⟩
        rw [hwn] at hwr
        obtain ⟨ej, hej⟩ : ∃ ej, (x :: l)[wn]? = some ej := ⟨(x :: l)[wn]'(by simp only [List.length_cons]; omega), List.getElem?_eq_getElem (by simp only [List.length_cons]; omega)⟩
        obtain ⟨en, e, rfl, hen, hef⟩ := outs_mem (es := es) (a := at') (j := es.length) (x := ej) (by rw [ho]; exact List.mem_of_getElem? hej)
        have hel : en < es.length := by
          by_cases hh : en < es.length
          · exact hh
          · rw [List.getElem?_eq_none (by omega)] at hen; cases hen
        have hn : nxt es ps kk (ls, at', mid) = some (ls ++ [(en : Int)], e.t, if ls.length + 1 ≤ kk then e.t else mid) := by
          unfold nxt
          rw [if_pos ⟨hnp, h20⟩]
          simp only [ho, hz, hwn, Int.toNat_natCast, hej, hen]
        have hsf : ∀ lv lb, lv = iV 4 ls → lb = iB 4 ls → J8 ps.length es.length kk e1 (ints ps) (ecOf es) N at' mid (ls.length : Nat) lv lb (sl 5 (l.length + 1)) [(5, own (ints (x :: l)) 3 1)] (es.length : Nat) 10 = SJ N e1 kk es ps ls at' mid (ls.length : Nat) es.length 10 := fun lv lb h1 h2 => by subst h1; subst h2; unfold SJ; rw [ho]; rfl
        have q5 : (QV.b (((l.length + 1 : Nat) : Int) == 0) (.val (.bool false))).holds Tryd.prog (SP8 [(2, g)]) (door8 (lm ls)) [] := by simp [QV.holds]; omega
        have q6 : (QV.cr 18 [i64 z, i64 ((l.length + 1 : Nat) : Int)] [] (.val (i64 (wn : Nat)))).holds Tryd.prog (SP8 [(2, g)]) (door8 (lm ls)) [] := fun M _ => call18 rfl z _ (by omega) (by omega) _ hwn M
        have q7 : (QV.ib (wn : Nat) (l.length + 1)).holds Tryd.prog (SP8 [(2, g)]) (door8 (lm ls)) [] := by simp only [QV.holds, inB, Bool.and_eq_true, decide_eq_true_eq]; omega
        have q8 : (QV.ld 3 (0 + ((wn : Nat) : Int).toNat * 1) (some (own (ints (x :: l)) 3 1)) (.val (i64 (en : Nat)))).holds Tryd.prog (SP8 [(2, g)]) (door8 (lm ls)) [] := ldi (k := wn) hej
        have q9 : (QV.ib (en : Nat) es.length).holds Tryd.prog (SP8 [(2, g)]) (door8 (lm ls)) [] := by simp only [QV.holds, inB, Bool.and_eq_true, decide_eq_true_eq]; omega
        have q10 : (QV.ld 3 (0 + ((en : Nat) : Int).toNat * 4 + 1) (some (own (ecOf es) 31 4)) (.val (i64 e.t))).holds Tryd.prog (SP8 [(2, g)]) (door8 (lm ls)) [] := ld3e (k := en) hen
        by_cases hk : ls.length + 1 ≤ kk
        · rw [if_pos hk] at hn
          cases ls with
          | nil =>
            have h4 : (QV.b (decide ((1 : Int) ≤ (kk : Int))) (.val (.bool true))).holds Tryd.prog (SP8 [(2, g)]) (door8 (lm [])) [] := by simp only [List.length_nil] at hk; simp only [QV.holds]; rw [decide_eq_true (by omega)]
            exact go1 (mv := [(4, 11, true)]) (r := _) hn (so_nT ps.length es.length (l.length + 1) kk e1 (ints ps) (ecOf es) (ints (x :: l)) N at' mid ((0 : Nat) : Int) (es.length : Nat) z (wn : Nat) (en : Nat) e.t _) (by simp only [List.forall_mem_cons]; (repeat' apply And.intro) <;> first | exact q1 | exact q2 | exact q3 | exact q4 | exact hbk _ rfl _ (hsf _ _ rfl rfl) _ (by simp [ints_flat]) | exact q5 | exact q6 | exact q7 | exact q8 | exact q9 | exact q10 | exact h4 | (intro x hx; cases hx)) rfl (by simp [ints_snoc_flat, one_flat]) (by simp) h20 (by rfl) (by rfl)
          | cons y ys =>
            have hwx : IntKind.wrap .i64 ((((ys.length + 1) + 1 : Nat) : Int) - 1) = ((ys.length + 1 : Nat) : Int) := by simp only [List.length_cons] at h20; rw [IntWalk.i64_in _ (by omega)]; omega
            have h1 : (QV.ap [25, 25] (sl 4 (ys.length + 1)) (.slice (some ⟨10, 0, none⟩) 1 2) (ints (y :: ys)) (own (ints (y :: ys)) 3 1) [i64 (en : Nat)]).holds Tryd.prog (SP8 [(2, g)]) (door8 (lm (y :: ys))) [] := fun M r hM => by
              simp only [List.length_cons] at h20
              exact ap25 (ws := y :: ys) (nw := ys.length + 1) (n := 1) rfl (by decide) rfl (by omega) rfl rfl M r hM
            have h2 : (QV.ib (IntKind.wrap .i64 ((((ys.length + 1) + 1 : Nat) : Int) - 1)) ((ys.length + 1) + 1)).holds Tryd.prog (SP8 [(2, g)]) (door8 (lm (y :: ys))) [] := by rw [hwx]; simp only [QV.holds, inB, Bool.and_eq_true, decide_eq_true_eq]; omega
            have h3 : (QV.ld 3 (0 + (IntKind.wrap .i64 ((((ys.length + 1) + 1 : Nat) : Int) - 1)).toNat * 1) (some (own (ints (y :: ys) ++ [i64 (en : Nat)]) 3 1)) (.val (i64 (en : Nat)))).holds Tryd.prog (SP8 [(2, g)]) (door8 (lm (y :: ys))) [] := by
              rw [hwx, show ints (y :: ys) ++ [i64 (en : Nat)] = ints ((y :: ys) ++ [((en : Nat) : Int)]) by simp [ints]]
              exact ldi (k := ys.length + 1) (by simp)
            have h4 : (QV.b (decide ((((ys.length + 1) + 1 : Nat) : Int) ≤ (kk : Int))) (.val (.bool true))).holds Tryd.prog (SP8 [(2, g)]) (door8 (lm (y :: ys))) [] := by simp only [List.length_cons] at hk; simp only [QV.holds]; rw [decide_eq_true (by omega)]
            exact go1 (mv := [(4, 11, true)]) (r := _) hn (so_sT ps.length es.length (l.length + 1) (ys.length + 1) kk e1 (ints ps) (ecOf es) (ints (y :: ys)) (ints (x :: l)) N at' mid ((ys.length + 1 : Nat) : Int) (es.length : Nat) z (wn : Nat) (en : Nat) e.t _) (by simp only [List.forall_mem_cons]; (repeat' apply And.intro) <;> first | exact q1 | exact q2 | exact q3 | exact q4 | exact hbk _ rfl _ (hsf _ _ rfl rfl) _ (by simp [ints_flat]) | exact q5 | exact q6 | exact q7 | exact q8 | exact q9 | exact q10 | exact h1 | exact h2 | exact h3 | exact h4 | (intro x hx; cases hx)) rfl (by simp [ints_snoc_flat, one_flat]) (by simp) h20 (by rw [iV_snoc]; rfl) (by rw [iB_snoc])
        · rw [if_neg hk] at hn
          cases ls with
          | nil =>
            have h4 : (QV.b (decide ((1 : Int) ≤ (kk : Int))) (.val (.bool false))).holds Tryd.prog (SP8 [(2, g)]) (door8 (lm [])) [] := by simp only [List.length_nil] at hk; simp only [QV.holds]; rw [decide_eq_false (by omega)]
            exact go1 (mv := [(4, 11, true)]) (r := _) hn (so_nF ps.length es.length (l.length + 1) kk e1 (ints ps) (ecOf es) (ints (x :: l)) N at' mid ((0 : Nat) : Int) (es.length : Nat) z (wn : Nat) (en : Nat) e.t _) (by simp only [List.forall_mem_cons]; (repeat' apply And.intro) <;> first | exact q1 | exact q2 | exact q3 | exact q4 | exact hbk _ rfl _ (hsf _ _ rfl rfl) _ (by simp [ints_flat]) | exact q5 | exact q6 | exact q7 | exact q8 | exact q9 | exact q10 | exact h4 | (intro x hx; cases hx)) rfl (by simp [ints_snoc_flat, one_flat]) (by simp) h20 (by rfl) (by rfl)
          | cons y ys =>
            have hwx : IntKind.wrap .i64 ((((ys.length + 1) + 1 : Nat) : Int) - 1) = ((ys.length + 1 : Nat) : Int) := by simp only [List.length_cons] at h20; rw [IntWalk.i64_in _ (by omega)]; omega
            have h1 : (QV.ap [25, 25] (sl 4 (ys.length + 1)) (.slice (some ⟨10, 0, none⟩) 1 2) (ints (y :: ys)) (own (ints (y :: ys)) 3 1) [i64 (en : Nat)]).holds Tryd.prog (SP8 [(2, g)]) (door8 (lm (y :: ys))) [] := fun M r hM => by
              simp only [List.length_cons] at h20
              exact ap25 (ws := y :: ys) (nw := ys.length + 1) (n := 1) rfl (by decide) rfl (by omega) rfl rfl M r hM
            have h2 : (QV.ib (IntKind.wrap .i64 ((((ys.length + 1) + 1 : Nat) : Int) - 1)) ((ys.length + 1) + 1)).holds Tryd.prog (SP8 [(2, g)]) (door8 (lm (y :: ys))) [] := by rw [hwx]; simp only [QV.holds, inB, Bool.and_eq_true, decide_eq_true_eq]; omega
            have h3 : (QV.ld 3 (0 + (IntKind.wrap .i64 ((((ys.length + 1) + 1 : Nat) : Int) - 1)).toNat * 1) (some (own (ints (y :: ys) ++ [i64 (en : Nat)]) 3 1)) (.val (i64 (en : Nat)))).holds Tryd.prog (SP8 [(2, g)]) (door8 (lm (y :: ys))) [] := by
              rw [hwx, show ints (y :: ys) ++ [i64 (en : Nat)] = ints ((y :: ys) ++ [((en : Nat) : Int)]) by simp [ints]]
              exact ldi (k := ys.length + 1) (by simp)
            have h4 : (QV.b (decide ((((ys.length + 1) + 1 : Nat) : Int) ≤ (kk : Int))) (.val (.bool false))).holds Tryd.prog (SP8 [(2, g)]) (door8 (lm (y :: ys))) [] := by simp only [List.length_cons] at hk; simp only [QV.holds]; rw [decide_eq_false (by omega)]
            exact go1 (mv := [(4, 11, true)]) (r := _) hn (so_sF ps.length es.length (l.length + 1) (ys.length + 1) kk e1 (ints ps) (ecOf es) (ints (y :: ys)) (ints (x :: l)) N at' mid ((ys.length + 1 : Nat) : Int) (es.length : Nat) z (wn : Nat) (en : Nat) e.t _) (by simp only [List.forall_mem_cons]; (repeat' apply And.intro) <;> first | exact q1 | exact q2 | exact q3 | exact q4 | exact hbk _ rfl _ (hsf _ _ rfl rfl) _ (by simp [ints_flat]) | exact q5 | exact q6 | exact q7 | exact q8 | exact q9 | exact q10 | exact h1 | exact h2 | exact h3 | exact h4 | (intro x hx; cases hx)) rfl (by simp [ints_snoc_flat, one_flat]) (by simp) h20 (by rw [iV_snoc]; rfl) (by rw [iB_snoc])
    · have q2 : (QV.b (decide (((ls.length : Nat) : Int) < 20)) (.val (.bool false))).holds Tryd.prog (SP8 [(2, g)]) (door8 (lm ls)) [] := by simp only [QV.holds]; rw [decide_eq_false (by omega)]
      have hn : nxt es ps kk (ls, at', mid) = none := by unfold nxt; rw [if_neg (fun h => h20 h.2)]
      cases ls with
      | nil =>
        exact fin (mv := []) (r := _) hn (so_nG ps.length es.length kk e1 (ints ps) (ecOf es) N at' mid ((0 : Nat) : Int) _) (by simp only [List.forall_mem_cons]; (repeat' apply And.intro) <;> first | exact q1 | exact q2 | (intro x hx; cases hx)) rfl (by simp [ints_flat])
      | cons y ys =>
        exact fin (mv := [(4, 4, true)]) (r := _) hn (so_sG ps.length es.length (ys.length + 1) kk e1 (ints ps) (ecOf es) (ints (y :: ys)) N at' mid ((ys.length + 1 : Nat) : Int) _) (by simp only [List.forall_mem_cons]; (repeat' apply And.intro) <;> first | exact q1 | exact q2 | (intro x hx; cases hx)) rfl (by simp [ints_flat])
  · have q1 : (QV.b (decide (((ls.length : Nat) : Int) < (ps.length : Int))) (.val (.bool false))).holds Tryd.prog (SP8 [(2, g)]) (door8 (lm ls)) [] := by simp only [QV.holds]; rw [decide_eq_false (by omega)]
    have hn : nxt es ps kk (ls, at', mid) = none := by unfold nxt; rw [if_neg (fun h => hnp h.1)]
    cases ls with
    | nil =>
      exact fin (mv := []) (r := _) hn (so_nE ps.length es.length kk e1 (ints ps) (ecOf es) N at' mid ((0 : Nat) : Int) _) (by simp only [List.forall_mem_cons]; (repeat' apply And.intro) <;> first | exact q1 | exact q2 | (intro x hx; cases hx)) rfl (by simp [ints_flat])
    | cons y ys =>
      exact fin (mv := [(4, 4, true)]) (r := _) hn (so_sE ps.length es.length (ys.length + 1) kk e1 (ints ps) (ecOf es) (ints (y :: ys)) N at' mid ((ys.length + 1 : Nat) : Int) _) (by simp only [List.forall_mem_cons]; (repeat' apply And.intro) <;> first | exact q1 | exact q2 | (intro x hx; cases hx)) rfl (by simp [ints_flat])
end Go.Proofs.YtlmifmodnkhidaaDoor
