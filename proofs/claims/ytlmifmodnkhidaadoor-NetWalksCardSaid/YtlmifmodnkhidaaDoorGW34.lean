/-
  NetWalks: whether any edges are a walk, its cost and its word, are the document's: of any network of at most twelve vertices that is made of the numbers handed in, and of any rows of edges, of at most sixty where they are handed in; the answer is true for every argument.
-/
import Derived.Test.YtlmifmodnkhidaaDoorGW31
import Derived.Test.YtlmifmodnkhidaaDoorGW26
open Go Go.Am Go.Proofs
namespace Go.Proofs.YtlmifmodnkhidaaDoor
set_option maxRecDepth 10000

/- NetWalks: which edges are picked. -/
noncomputable def B7 : Code := Tryd.f7.body.get!
theorem body7 : Tryd.f7.body = some B7 := by kernel_rfl
noncomputable def loop7 : Code := unloop ((inner 0 100 B7).get!)
noncomputable def loop7j : Code := unloop ((inner 2 100 B7).get!)
noncomputable def SP7 (bs : List (Nat × (Code → St → Option (AExit × St)))) : Specs := specsB [(13, ansNone (.bool true)), (15, g15), (18, g18), (24, gW), (25, gW), (26, gI)] bs
def blks7 (ne e1 : Nat) (pc ec : List Value) (N : Int) (r : List (Nat × ABlk)) : List (Nat × ABlk) := [(1, ro pc e1 1), (3, own ec 31 4), (4, own [i64 N, sl 3 ne] 24 2)] ++ r
def J7 (np ne e1 : Nat) (pc ec : List Value) (N fr tt at0 at' iv : Int) (rv : Value) (rb : List (Nat × ABlk)) (lv : Value) (lb : List (Nat × ABlk)) (ov : Value) (ob : List (Nat × ABlk)) (jv : Int) (nx : Nat) : St :=
  ⟨tabT [(2, i64 fr), (3, i64 tt), (4, sl 1 np), (5, rv), (13, .pointer (some ⟨4, 0, none⟩)), (14, i64 at0), (15, lv), (16, i64 at'), (17, i64 iv), (18, ov), (19, i64 jv)], 213, ⟨blkTree (blks7 ne e1 pc ec N (rb ++ lb ++ ob)), nx, [], [0, 4] ++ [0, 4, 4]⟩⟩
def I7 (np ne e1 : Nat) (pc ec : List Value) (N fr tt at0 at' iv : Int) (rv : Value) (rb : List (Nat × ABlk)) (lv : Value) (lb : List (Nat × ABlk)) (nx : Nat) : St :=
  ⟨tabT [(2, i64 fr), (3, i64 tt), (4, sl 1 np), (5, rv), (13, .pointer (some ⟨4, 0, none⟩)), (14, i64 at0), (15, lv), (16, i64 at'), (17, i64 iv)], 213, ⟨blkTree (blks7 ne e1 pc ec N (rb ++ lb)), nx, [], [0, 4] ++ [4]⟩⟩
def keepJ7 : List Nat := [2, 3, 4, 5, 13, 14, 15, 16, 17, 18, 19]
def mv7 (l : Moves) : Moves := [(1, 1, true), (3, 3, true), (4, 4, true)] ++ l
noncomputable def rndJ7 (s : St) (F : List Fact) (nx : Nat) (keep : List Nat) (l : Moves) :=
  (hexec Tryd.prog [] (SP7 []) 60 loop7j s F 0).map (fun r => (r.1.1, rebase 6 nx (mv7 l) keep [0, 4] [0, 4, 4] r.1.2, stills r.1.2.M (mv7 l), Nat.ble r.1.2.M.next 11, r.2.2.2.map (view noDoors [])))
def door7 (r l : Moves) : Nat → Door
  | 2 => ⟨6, 7, mv7 (r ++ l), keepJ7, [0, 4], [0, 4, 4]⟩
  | _ => ⟨5, 6, mv7 r, [2, 3, 4, 5, 13, 14, 15, 16, 17], [0, 4], [4]⟩
noncomputable def rnd7 (dr dl : Moves) (g : Code → St → Option (AExit × St)) (s : St) (F : List Fact) (nx : Nat) (l : Moves) :=
  (hexec Tryd.prog [] (SP7 [(2, g)]) 60 loop7 s F 0).map (fun r => (r.1.1, rebase 5 nx (mv7 l) [2, 3, 4, 5, 13, 14, 15, 16, 17] [0, 4] [4] r.1.2, stills r.1.2.M (mv7 l), Nat.ble r.1.2.M.next 16, r.2.2.2.map (view (door7 dr dl) [])))
theorem tj_nnnF (np ne e1 : Nat) (pc ec : List Value) (N fr tt at0 at' iv jv f : Int) : rndJ7 (J7 np ne e1 pc ec N fr tt at0 at' iv (.slice none 0 0) [] (.slice none 0 0) [] (.slice none 0 0) [] (jv) 7) [tru 10, tru 18, got 22 (i64 f), fls 27] 7 keepJ7 ([] ++ [] ++ []) = some (.normal, some (J7 np ne e1 pc ec N fr tt at0 at' iv (.slice none 0 0) [] (.slice none 0 0) [] (.slice none 0 0) [] (IntKind.wrap .i64 (jv + 1)) 7), [pc, ec, [i64 N, sl 3 ne]] ++ [] ++ [] ++ [], true, [.b (decide (jv < (ne : Int))) (.val (.bool true)), .ib jv ne, .ld 3 (0 + jv.toNat * 4) (some (own ec 31 4)) (.val (i64 f)), .b ((f == at')) (.val (.bool false))]) := by kernel_rfl
theorem tj_nnnT (np ne e1 : Nat) (pc ec : List Value) (N fr tt at0 at' iv jv f : Int) : rndJ7 (J7 np ne e1 pc ec N fr tt at0 at' iv (.slice none 0 0) [] (.slice none 0 0) [] (.slice none 0 0) [] (jv) 7) [tru 10, tru 18, got 22 (i64 f), tru 27] 7 keepJ7 ([] ++ [] ++ [(6, 8, true)]) = some (.normal, some (J7 np ne e1 pc ec N fr tt at0 at' iv (.slice none 0 0) [] (.slice none 0 0) [] (sl 6 1) [(6, own [i64 jv] 3 1)] (IntKind.wrap .i64 (jv + 1)) 7), [pc, ec, [i64 N, sl 3 ne]] ++ [] ++ [] ++ [[i64 jv]], true, [.b (decide (jv < (ne : Int))) (.val (.bool true)), .ib jv ne, .ld 3 (0 + jv.toNat * 4) (some (own ec 31 4)) (.val (i64 f)), .b ((f == at')) (.val (.bool true))]) := by kernel_rfl
theorem tj_nnnE (np ne e1 : Nat) (pc ec : List Value) (N fr tt at0 at' iv jv : Int) : rndJ7 (J7 np ne e1 pc ec N fr tt at0 at' iv (.slice none 0 0) [] (.slice none 0 0) [] (.slice none 0 0) [] (jv) 7) [fls 10] 11 keepJ7 ([] ++ [] ++ []) = some (.exit 2, some (J7 np ne e1 pc ec N fr tt at0 at' iv (.slice none 0 0) [] (.slice none 0 0) [] (.slice none 0 0) [] (jv) 11), [pc, ec, [i64 N, sl 3 ne]] ++ [] ++ [] ++ [], true, [.b (decide (jv < (ne : Int))) (.val (.bool false))]) := by kernel_rfl
theorem tj_nnsF (np ne no e1 : Nat) (pc ec oc : List Value) (N fr tt at0 at' iv jv f : Int) : rndJ7 (J7 np ne e1 pc ec N fr tt at0 at' iv (.slice none 0 0) [] (.slice none 0 0) [] (sl 6 no) [(6, own oc 3 1)] (jv) 7) [tru 10, tru 18, got 22 (i64 f), fls 27] 7 keepJ7 ([] ++ [] ++ [(6, 6, true)]) = some (.normal, some (J7 np ne e1 pc ec N fr tt at0 at' iv (.slice none 0 0) [] (.slice none 0 0) [] (sl 6 no) [(6, own oc 3 1)] (IntKind.wrap .i64 (jv + 1)) 7), [pc, ec, [i64 N, sl 3 ne]] ++ [] ++ [] ++ [oc], true, [.b (decide (jv < (ne : Int))) (.val (.bool true)), .ib jv ne, .ld 3 (0 + jv.toNat * 4) (some (own ec 31 4)) (.val (i64 f)), .b ((f == at')) (.val (.bool false))]) := by kernel_rfl
theorem tj_nnsT (np ne no e1 : Nat) (pc ec oc : List Value) (N fr tt at0 at' iv jv f : Int) : rndJ7 (J7 np ne e1 pc ec N fr tt at0 at' iv (.slice none 0 0) [] (.slice none 0 0) [] (sl 6 no) [(6, own oc 3 1)] (jv) 7) [tru 10, tru 18, got 22 (i64 f), tru 27, onto 35 (oc)] 7 keepJ7 ([] ++ [] ++ [(6, 8, true)]) = some (.normal, some (J7 np ne e1 pc ec N fr tt at0 at' iv (.slice none 0 0) [] (.slice none 0 0) [] (sl 6 (no + 1)) [(6, own (oc ++ [i64 jv]) 3 1)] (IntKind.wrap .i64 (jv + 1)) 7), [pc, ec, [i64 N, sl 3 ne]] ++ [] ++ [] ++ [oc ++ [i64 jv]], true, [.b (decide (jv < (ne : Int))) (.val (.bool true)), .ib jv ne, .ld 3 (0 + jv.toNat * 4) (some (own ec 31 4)) (.val (i64 f)), .b ((f == at')) (.val (.bool true)), .ap [25, 25] (sl 6 no) (.slice (some ⟨7, 0, none⟩) 1 2) oc (own oc 3 1) [i64 jv]]) := by kernel_rfl
theorem tj_nnsE (np ne no e1 : Nat) (pc ec oc : List Value) (N fr tt at0 at' iv jv : Int) : rndJ7 (J7 np ne e1 pc ec N fr tt at0 at' iv (.slice none 0 0) [] (.slice none 0 0) [] (sl 6 no) [(6, own oc 3 1)] (jv) 7) [fls 10] 11 keepJ7 ([] ++ [] ++ [(6, 6, true)]) = some (.exit 2, some (J7 np ne e1 pc ec N fr tt at0 at' iv (.slice none 0 0) [] (.slice none 0 0) [] (sl 6 no) [(6, own oc 3 1)] (jv) 11), [pc, ec, [i64 N, sl 3 ne]] ++ [] ++ [] ++ [oc], true, [.b (decide (jv < (ne : Int))) (.val (.bool false))]) := by kernel_rfl
theorem tj_nsnF (np ne nl e1 : Nat) (pc ec lc : List Value) (N fr tt at0 at' iv jv f : Int) : rndJ7 (J7 np ne e1 pc ec N fr tt at0 at' iv (.slice none 0 0) [] (sl 5 nl) [(5, own lc 3 1)] (.slice none 0 0) [] (jv) 7) [tru 10, tru 18, got 22 (i64 f), fls 27] 7 keepJ7 ([] ++ [(5, 5, true)] ++ []) = some (.normal, some (J7 np ne e1 pc ec N fr tt at0 at' iv (.slice none 0 0) [] (sl 5 nl) [(5, own lc 3 1)] (.slice none 0 0) [] (IntKind.wrap .i64 (jv + 1)) 7), [pc, ec, [i64 N, sl 3 ne]] ++ [] ++ [lc] ++ [], true, [.b (decide (jv < (ne : Int))) (.val (.bool true)), .ib jv ne, .ld 3 (0 + jv.toNat * 4) (some (own ec 31 4)) (.val (i64 f)), .b ((f == at')) (.val (.bool false))]) := by kernel_rfl
theorem tj_nsnT (np ne nl e1 : Nat) (pc ec lc : List Value) (N fr tt at0 at' iv jv f : Int) : rndJ7 (J7 np ne e1 pc ec N fr tt at0 at' iv (.slice none 0 0) [] (sl 5 nl) [(5, own lc 3 1)] (.slice none 0 0) [] (jv) 7) [tru 10, tru 18, got 22 (i64 f), tru 27] 7 keepJ7 ([] ++ [(5, 5, true)] ++ [(6, 8, true)]) = some (.normal, some (J7 np ne e1 pc ec N fr tt at0 at' iv (.slice none 0 0) [] (sl 5 nl) [(5, own lc 3 1)] (sl 6 1) [(6, own [i64 jv] 3 1)] (IntKind.wrap .i64 (jv + 1)) 7), [pc, ec, [i64 N, sl 3 ne]] ++ [] ++ [lc] ++ [[i64 jv]], true, [.b (decide (jv < (ne : Int))) (.val (.bool true)), .ib jv ne, .ld 3 (0 + jv.toNat * 4) (some (own ec 31 4)) (.val (i64 f)), .b ((f == at')) (.val (.bool true))]) := by kernel_rfl
theorem tj_nsnE (np ne nl e1 : Nat) (pc ec lc : List Value) (N fr tt at0 at' iv jv : Int) : rndJ7 (J7 np ne e1 pc ec N fr tt at0 at' iv (.slice none 0 0) [] (sl 5 nl) [(5, own lc 3 1)] (.slice none 0 0) [] (jv) 7) [fls 10] 11 keepJ7 ([] ++ [(5, 5, true)] ++ []) = some (.exit 2, some (J7 np ne e1 pc ec N fr tt at0 at' iv (.slice none 0 0) [] (sl 5 nl) [(5, own lc 3 1)] (.slice none 0 0) [] (jv) 11), [pc, ec, [i64 N, sl 3 ne]] ++ [] ++ [lc] ++ [], true, [.b (decide (jv < (ne : Int))) (.val (.bool false))]) := by kernel_rfl
theorem tj_nssF (np ne no nl e1 : Nat) (pc ec lc oc : List Value) (N fr tt at0 at' iv jv f : Int) : rndJ7 (J7 np ne e1 pc ec N fr tt at0 at' iv (.slice none 0 0) [] (sl 5 nl) [(5, own lc 3 1)] (sl 6 no) [(6, own oc 3 1)] (jv) 7) [tru 10, tru 18, got 22 (i64 f), fls 27] 7 keepJ7 ([] ++ [(5, 5, true)] ++ [(6, 6, true)]) = some (.normal, some (J7 np ne e1 pc ec N fr tt at0 at' iv (.slice none 0 0) [] (sl 5 nl) [(5, own lc 3 1)] (sl 6 no) [(6, own oc 3 1)] (IntKind.wrap .i64 (jv + 1)) 7), [pc, ec, [i64 N, sl 3 ne]] ++ [] ++ [lc] ++ [oc], true, [.b (decide (jv < (ne : Int))) (.val (.bool true)), .ib jv ne, .ld 3 (0 + jv.toNat * 4) (some (own ec 31 4)) (.val (i64 f)), .b ((f == at')) (.val (.bool false))]) := by kernel_rfl
theorem tj_nssT (np ne no nl e1 : Nat) (pc ec lc oc : List Value) (N fr tt at0 at' iv jv f : Int) : rndJ7 (J7 np ne e1 pc ec N fr tt at0 at' iv (.slice none 0 0) [] (sl 5 nl) [(5, own lc 3 1)] (sl 6 no) [(6, own oc 3 1)] (jv) 7) [tru 10, tru 18, got 22 (i64 f), tru 27, onto 35 (oc)] 7 keepJ7 ([] ++ [(5, 5, true)] ++ [(6, 8, true)]) = some (.normal, some (J7 np ne e1 pc ec N fr tt at0 at' iv (.slice none 0 0) [] (sl 5 nl) [(5, own lc 3 1)] (sl 6 (no + 1)) [(6, own (oc ++ [i64 jv]) 3 1)] (IntKind.wrap .i64 (jv + 1)) 7), [pc, ec, [i64 N, sl 3 ne]] ++ [] ++ [lc] ++ [oc ++ [i64 jv]], true, [.b (decide (jv < (ne : Int))) (.val (.bool true)), .ib jv ne, .ld 3 (0 + jv.toNat * 4) (some (own ec 31 4)) (.val (i64 f)), .b ((f == at')) (.val (.bool true)), .ap [25, 25] (sl 6 no) (.slice (some ⟨7, 0, none⟩) 1 2) oc (own oc 3 1) [i64 jv]]) := by kernel_rfl
theorem tj_nssE (np ne no nl e1 : Nat) (pc ec lc oc : List Value) (N fr tt at0 at' iv jv : Int) : rndJ7 (J7 np ne e1 pc ec N fr tt at0 at' iv (.slice none 0 0) [] (sl 5 nl) [(5, own lc 3 1)] (sl 6 no) [(6, own oc 3 1)] (jv) 7) [fls 10] 11 keepJ7 ([] ++ [(5, 5, true)] ++ [(6, 6, true)]) = some (.exit 2, some (J7 np ne e1 pc ec N fr tt at0 at' iv (.slice none 0 0) [] (sl 5 nl) [(5, own lc 3 1)] (sl 6 no) [(6, own oc 3 1)] (jv) 11), [pc, ec, [i64 N, sl 3 ne]] ++ [] ++ [lc] ++ [oc], true, [.b (decide (jv < (ne : Int))) (.val (.bool false))]) := by kernel_rfl
theorem tj_snnF (np ne nr e1 e2 : Nat) (pc ec rc : List Value) (N fr tt at0 at' iv jv f : Int) : rndJ7 (J7 np ne e1 pc ec N fr tt at0 at' iv (sl 2 nr) [(2, ro rc e2 1)] (.slice none 0 0) [] (.slice none 0 0) [] (jv) 7) [tru 10, tru 18, got 22 (i64 f), fls 27] 7 keepJ7 ([(2, 2, true)] ++ [] ++ []) = some (.normal, some (J7 np ne e1 pc ec N fr tt at0 at' iv (sl 2 nr) [(2, ro rc e2 1)] (.slice none 0 0) [] (.slice none 0 0) [] (IntKind.wrap .i64 (jv + 1)) 7), [pc, ec, [i64 N, sl 3 ne]] ++ [rc] ++ [] ++ [], true, [.b (decide (jv < (ne : Int))) (.val (.bool true)), .ib jv ne, .ld 3 (0 + jv.toNat * 4) (some (own ec 31 4)) (.val (i64 f)), .b ((f == at')) (.val (.bool false))]) := by kernel_rfl
theorem tj_snnT (np ne nr e1 e2 : Nat) (pc ec rc : List Value) (N fr tt at0 at' iv jv f : Int) : rndJ7 (J7 np ne e1 pc ec N fr tt at0 at' iv (sl 2 nr) [(2, ro rc e2 1)] (.slice none 0 0) [] (.slice none 0 0) [] (jv) 7) [tru 10, tru 18, got 22 (i64 f), tru 27] 7 keepJ7 ([(2, 2, true)] ++ [] ++ [(6, 8, true)]) = some (.normal, some (J7 np ne e1 pc ec N fr tt at0 at' iv (sl 2 nr) [(2, ro rc e2 1)] (.slice none 0 0) [] (sl 6 1) [(6, own [i64 jv] 3 1)] (IntKind.wrap .i64 (jv + 1)) 7), [pc, ec, [i64 N, sl 3 ne]] ++ [rc] ++ [] ++ [[i64 jv]], true, [.b (decide (jv < (ne : Int))) (.val (.bool true)), .ib jv ne, .ld 3 (0 + jv.toNat * 4) (some (own ec 31 4)) (.val (i64 f)), .b ((f == at')) (.val (.bool true))]) := by kernel_rfl
theorem tj_snnE (np ne nr e1 e2 : Nat) (pc ec rc : List Value) (N fr tt at0 at' iv jv : Int) : rndJ7 (J7 np ne e1 pc ec N fr tt at0 at' iv (sl 2 nr) [(2, ro rc e2 1)] (.slice none 0 0) [] (.slice none 0 0) [] (jv) 7) [fls 10] 11 keepJ7 ([(2, 2, true)] ++ [] ++ []) = some (.exit 2, some (J7 np ne e1 pc ec N fr tt at0 at' iv (sl 2 nr) [(2, ro rc e2 1)] (.slice none 0 0) [] (.slice none 0 0) [] (jv) 11), [pc, ec, [i64 N, sl 3 ne]] ++ [rc] ++ [] ++ [], true, [.b (decide (jv < (ne : Int))) (.val (.bool false))]) := by kernel_rfl
theorem tj_snsF (np ne no nr e1 e2 : Nat) (pc ec rc oc : List Value) (N fr tt at0 at' iv jv f : Int) : rndJ7 (J7 np ne e1 pc ec N fr tt at0 at' iv (sl 2 nr) [(2, ro rc e2 1)] (.slice none 0 0) [] (sl 6 no) [(6, own oc 3 1)] (jv) 7) [tru 10, tru 18, got 22 (i64 f), fls 27] 7 keepJ7 ([(2, 2, true)] ++ [] ++ [(6, 6, true)]) = some (.normal, some (J7 np ne e1 pc ec N fr tt at0 at' iv (sl 2 nr) [(2, ro rc e2 1)] (.slice none 0 0) [] (sl 6 no) [(6, own oc 3 1)] (IntKind.wrap .i64 (jv + 1)) 7), [pc, ec, [i64 N, sl 3 ne]] ++ [rc] ++ [] ++ [oc], true, [.b (decide (jv < (ne : Int))) (.val (.bool true)), .ib jv ne, .ld 3 (0 + jv.toNat * 4) (some (own ec 31 4)) (.val (i64 f)), .b ((f == at')) (.val (.bool false))]) := by kernel_rfl
theorem tj_snsT (np ne no nr e1 e2 : Nat) (pc ec rc oc : List Value) (N fr tt at0 at' iv jv f : Int) : rndJ7 (J7 np ne e1 pc ec N fr tt at0 at' iv (sl 2 nr) [(2, ro rc e2 1)] (.slice none 0 0) [] (sl 6 no) [(6, own oc 3 1)] (jv) 7) [tru 10, tru 18, got 22 (i64 f), tru 27, onto 35 (oc)] 7 keepJ7 ([(2, 2, true)] ++ [] ++ [(6, 8, true)]) = some (.normal, some (J7 np ne e1 pc ec N fr tt at0 at' iv (sl 2 nr) [(2, ro rc e2 1)] (.slice none 0 0) [] (sl 6 (no + 1)) [(6, own (oc ++ [i64 jv]) 3 1)] (IntKind.wrap .i64 (jv + 1)) 7), [pc, ec, [i64 N, sl 3 ne]] ++ [rc] ++ [] ++ [oc ++ [i64 jv]], true, [.b (decide (jv < (ne : Int))) (.val (.bool true)), .ib jv ne, .ld 3 (0 + jv.toNat * 4) (some (own ec 31 4)) (.val (i64 f)), .b ((f == at')) (.val (.bool true)), .ap [25, 25] (sl 6 no) (.slice (some ⟨7, 0, none⟩) 1 2) oc (own oc 3 1) [i64 jv]]) := by kernel_rfl
theorem tj_snsE (np ne no nr e1 e2 : Nat) (pc ec rc oc : List Value) (N fr tt at0 at' iv jv : Int) : rndJ7 (J7 np ne e1 pc ec N fr tt at0 at' iv (sl 2 nr) [(2, ro rc e2 1)] (.slice none 0 0) [] (sl 6 no) [(6, own oc 3 1)] (jv) 7) [fls 10] 11 keepJ7 ([(2, 2, true)] ++ [] ++ [(6, 6, true)]) = some (.exit 2, some (J7 np ne e1 pc ec N fr tt at0 at' iv (sl 2 nr) [(2, ro rc e2 1)] (.slice none 0 0) [] (sl 6 no) [(6, own oc 3 1)] (jv) 11), [pc, ec, [i64 N, sl 3 ne]] ++ [rc] ++ [] ++ [oc], true, [.b (decide (jv < (ne : Int))) (.val (.bool false))]) := by kernel_rfl
theorem tj_ssnF (np ne nl nr e1 e2 : Nat) (pc ec lc rc : List Value) (N fr tt at0 at' iv jv f : Int) : rndJ7 (J7 np ne e1 pc ec N fr tt at0 at' iv (sl 2 nr) [(2, ro rc e2 1)] (sl 5 nl) [(5, own lc 3 1)] (.slice none 0 0) [] (jv) 7) [tru 10, tru 18, got 22 (i64 f), fls 27] 7 keepJ7 ([(2, 2, true)] ++ [(5, 5, true)] ++ []) = some (.normal, some (J7 np ne e1 pc ec N fr tt at0 at' iv (sl 2 nr) [(2, ro rc e2 1)] (sl 5 nl) [(5, own lc 3 1)] (.slice none 0 0) [] (IntKind.wrap .i64 (jv + 1)) 7), [pc, ec, [i64 N, sl 3 ne]] ++ [rc] ++ [lc] ++ [], true, [.b (decide (jv < (ne : Int))) (.val (.bool true)), .ib jv ne, .ld 3 (0 + jv.toNat * 4) (some (own ec 31 4)) (.val (i64 f)), .b ((f == at')) (.val (.bool false))]) := by kernel_rfl
theorem tj_ssnT (np ne nl nr e1 e2 : Nat) (pc ec lc rc : List Value) (N fr tt at0 at' iv jv f : Int) : rndJ7 (J7 np ne e1 pc ec N fr tt at0 at' iv (sl 2 nr) [(2, ro rc e2 1)] (sl 5 nl) [(5, own lc 3 1)] (.slice none 0 0) [] (jv) 7) [tru 10, tru 18, got 22 (i64 f), tru 27] 7 keepJ7 ([(2, 2, true)] ++ [(5, 5, true)] ++ [(6, 8, true)]) = some (.normal, some (J7 np ne e1 pc ec N fr tt at0 at' iv (sl 2 nr) [(2, ro rc e2 1)] (sl 5 nl) [(5, own lc 3 1)] (sl 6 1) [(6, own [i64 jv] 3 1)] (IntKind.wrap .i64 (jv + 1)) 7), [pc, ec, [i64 N, sl 3 ne]] ++ [rc] ++ [lc] ++ [[i64 jv]], true, [.b (decide (jv < (ne : Int))) (.val (.bool true)), .ib jv ne, .ld 3 (0 + jv.toNat * 4) (some (own ec 31 4)) (.val (i64 f)), .b ((f == at')) (.val (.bool true))]) := by kernel_rfl
theorem tj_ssnE (np ne nl nr e1 e2 : Nat) (pc ec lc rc : List Value) (N fr tt at0 at' iv jv : Int) : rndJ7 (J7 np ne e1 pc ec N fr tt at0 at' iv (sl 2 nr) [(2, ro rc e2 1)] (sl 5 nl) [(5, own lc 3 1)] (.slice none 0 0) [] (jv) 7) [fls 10] 11 keepJ7 ([(2, 2, true)] ++ [(5, 5, true)] ++ []) = some (.exit 2, some (J7 np ne e1 pc ec N fr tt at0 at' iv (sl 2 nr) [(2, ro rc e2 1)] (sl 5 nl) [(5, own lc 3 1)] (.slice none 0 0) [] (jv) 11), [pc, ec, [i64 N, sl 3 ne]] ++ [rc] ++ [lc] ++ [], true, [.b (decide (jv < (ne : Int))) (.val (.bool false))]) := by kernel_rfl
theorem tj_sssF (np ne no nl nr e1 e2 : Nat) (pc ec lc rc oc : List Value) (N fr tt at0 at' iv jv f : Int) : rndJ7 (J7 np ne e1 pc ec N fr tt at0 at' iv (sl 2 nr) [(2, ro rc e2 1)] (sl 5 nl) [(5, own lc 3 1)] (sl 6 no) [(6, own oc 3 1)] (jv) 7) [tru 10, tru 18, got 22 (i64 f), fls 27] 7 keepJ7 ([(2, 2, true)] ++ [(5, 5, true)] ++ [(6, 6, true)]) = some (.normal, some (J7 np ne e1 pc ec N fr tt at0 at' iv (sl 2 nr) [(2, ro rc e2 1)] (sl 5 nl) [(5, own lc 3 1)] (sl 6 no) [(6, own oc 3 1)] (IntKind.wrap .i64 (jv + 1)) 7), [pc, ec, [i64 N, sl 3 ne]] ++ [rc] ++ [lc] ++ [oc], true, [.b (decide (jv < (ne : Int))) (.val (.bool true)), .ib jv ne, .ld 3 (0 + jv.toNat * 4) (some (own ec 31 4)) (.val (i64 f)), .b ((f == at')) (.val (.bool false))]) := by kernel_rfl
theorem tj_sssT (np ne no nl nr e1 e2 : Nat) (pc ec lc rc oc : List Value) (N fr tt at0 at' iv jv f : Int) : rndJ7 (J7 np ne e1 pc ec N fr tt at0 at' iv (sl 2 nr) [(2, ro rc e2 1)] (sl 5 nl) [(5, own lc 3 1)] (sl 6 no) [(6, own oc 3 1)] (jv) 7) [tru 10, tru 18, got 22 (i64 f), tru 27, onto 35 (oc)] 7 keepJ7 ([(2, 2, true)] ++ [(5, 5, true)] ++ [(6, 8, true)]) = some (.normal, some (J7 np ne e1 pc ec N fr tt at0 at' iv (sl 2 nr) [(2, ro rc e2 1)] (sl 5 nl) [(5, own lc 3 1)] (sl 6 (no + 1)) [(6, own (oc ++ [i64 jv]) 3 1)] (IntKind.wrap .i64 (jv + 1)) 7), [pc, ec, [i64 N, sl 3 ne]] ++ [rc] ++ [lc] ++ [oc ++ [i64 jv]], true, [.b (decide (jv < (ne : Int))) (.val (.bool true)), .ib jv ne, .ld 3 (0 + jv.toNat * 4) (some (own ec 31 4)) (.val (i64 f)), .b ((f == at')) (.val (.bool true)), .ap [25, 25] (sl 6 no) (.slice (some ⟨7, 0, none⟩) 1 2) oc (own oc 3 1) [i64 jv]]) := by kernel_rfl
theorem tj_sssE (np ne no nl nr e1 e2 : Nat) (pc ec lc rc oc : List Value) (N fr tt at0 at' iv jv : Int) : rndJ7 (J7 np ne e1 pc ec N fr tt at0 at' iv (sl 2 nr) [(2, ro rc e2 1)] (sl 5 nl) [(5, own lc 3 1)] (sl 6 no) [(6, own oc 3 1)] (jv) 7) [fls 10] 11 keepJ7 ([(2, 2, true)] ++ [(5, 5, true)] ++ [(6, 6, true)]) = some (.exit 2, some (J7 np ne e1 pc ec N fr tt at0 at' iv (sl 2 nr) [(2, ro rc e2 1)] (sl 5 nl) [(5, own lc 3 1)] (sl 6 no) [(6, own oc 3 1)] (jv) 11), [pc, ec, [i64 N, sl 3 ne]] ++ [rc] ++ [lc] ++ [oc], true, [.b (decide (jv < (ne : Int))) (.val (.bool false))]) := by kernel_rfl
theorem to_nnX (np ne e1 : Nat) (pc ec : List Value) (N fr tt at0 at' iv jv : Int) (g : Code → St → Option (AExit × St)) : rnd7 [] [] g (I7 np ne e1 pc ec N fr tt at0 (at') (iv) (.slice none 0 0) [] (.slice none 0 0) [] 6) [tru 10, tru 12, tru 15, tru 16, past 21 .normal (J7 np ne e1 pc ec N fr tt at0 at' iv (.slice none 0 0) [] (.slice none 0 0) [] (.slice none 0 0) [] (jv) 11)] 16 ([] ++ []) = some (.exit 0, some (I7 np ne e1 pc ec N fr tt at0 (at') (iv) (.slice none 0 0) [] (.slice none 0 0) [] 16), [pc, ec, [i64 N, sl 3 ne]] ++ [] ++ [], true, [.b (decide (iv < (np : Int))) (.val (.bool true)), .b (decide (iv < (np : Int))) (.val (.bool true)), .b (decide (iv < (np : Int))) (.val (.bool true)), .b (decide (iv < 20)) (.val (.bool true)), .bk 2 (.loop loop7j) 6 [0, 4, 4] (some (J7 np ne e1 pc ec N fr tt at0 at' iv (.slice none 0 0) [] (.slice none 0 0) [] (.slice none 0 0) [] (0) 7)) ([pc, ec, [i64 N, sl 3 ne]] ++ [] ++ []) true .normal (J7 np ne e1 pc ec N fr tt at0 at' iv (.slice none 0 0) [] (.slice none 0 0) [] (.slice none 0 0) [] (jv) 11)]) := by kernel_rfl
theorem to_nnT (np ne no e1 : Nat) (pc ec oc : List Value) (N fr tt at0 at' iv jv z w ej t : Int) (g : Code → St → Option (AExit × St)) : rnd7 [] [] g (I7 np ne e1 pc ec N fr tt at0 (at') (iv) (.slice none 0 0) [] (.slice none 0 0) [] 6) [tru 10, tru 12, tru 15, tru 16, past 21 .normal (J7 np ne e1 pc ec N fr tt at0 at' iv (.slice none 0 0) [] (.slice none 0 0) [] (sl 6 no) [(6, own oc 3 1)] (jv) 11), fls 28, tru 38, got 40 (i64 z), got 46 (i64 w), tru 48, got 50 (i64 ej), tru 74, got 78 (i64 t)] 6 ([] ++ [(5, 12, true)]) = some (.normal, some (I7 np ne e1 pc ec N fr tt at0 (t) (IntKind.wrap .i64 (iv + 1)) (.slice none 0 0) [] (sl 5 1) [(5, own [i64 ej] 3 1)] 6), [pc, ec, [i64 N, sl 3 ne]] ++ [] ++ [[i64 ej]], true, [.b (decide (iv < (np : Int))) (.val (.bool true)), .b (decide (iv < (np : Int))) (.val (.bool true)), .b (decide (iv < (np : Int))) (.val (.bool true)), .b (decide (iv < 20)) (.val (.bool true)), .bk 2 (.loop loop7j) 6 [0, 4, 4] (some (J7 np ne e1 pc ec N fr tt at0 at' iv (.slice none 0 0) [] (.slice none 0 0) [] (.slice none 0 0) [] (0) 7)) ([pc, ec, [i64 N, sl 3 ne]] ++ [] ++ []) true .normal (J7 np ne e1 pc ec N fr tt at0 at' iv (.slice none 0 0) [] (.slice none 0 0) [] (sl 6 no) [(6, own oc 3 1)] (jv) 11), .b (((no : Int) == 0)) (.val (.bool false)), .ib iv np, .ld 3 (0 + iv.toNat * 1) (some (ro pc e1 1)) (.val (i64 z)), .cr 18 [i64 z, i64 no] [] (.val (i64 w)), .ib w no, .ld 3 (0 + w.toNat * 1) (some (own oc 3 1)) (.val (i64 ej)), .ib ej ne, .ld 3 (0 + ej.toNat * 4 + 1) (some (own ec 31 4)) (.val (i64 t))]) := by kernel_rfl
theorem to_nnE (np ne e1 : Nat) (pc ec : List Value) (N fr tt at0 at' iv : Int) (g : Code → St → Option (AExit × St)) : rnd7 [] [] g (I7 np ne e1 pc ec N fr tt at0 (at') (iv) (.slice none 0 0) [] (.slice none 0 0) [] 6) [fls 10, fls 12, fls 15] 16 ([] ++ []) = some (.exit 0, some (I7 np ne e1 pc ec N fr tt at0 (at') (iv) (.slice none 0 0) [] (.slice none 0 0) [] 16), [pc, ec, [i64 N, sl 3 ne]] ++ [] ++ [], true, [.b (decide (iv < (np : Int))) (.val (.bool false)), .b (decide (iv < (np : Int))) (.val (.bool false)), .b (decide (iv < (np : Int))) (.val (.bool false))]) := by kernel_rfl
theorem to_nnG (np ne e1 : Nat) (pc ec : List Value) (N fr tt at0 at' iv : Int) (g : Code → St → Option (AExit × St)) : rnd7 [] [] g (I7 np ne e1 pc ec N fr tt at0 (at') (iv) (.slice none 0 0) [] (.slice none 0 0) [] 6) [tru 10, tru 12, tru 15, fls 16] 16 ([] ++ []) = some (.exit 0, some (I7 np ne e1 pc ec N fr tt at0 (at') (iv) (.slice none 0 0) [] (.slice none 0 0) [] 16), [pc, ec, [i64 N, sl 3 ne]] ++ [] ++ [], true, [.b (decide (iv < (np : Int))) (.val (.bool true)), .b (decide (iv < (np : Int))) (.val (.bool true)), .b (decide (iv < (np : Int))) (.val (.bool true)), .b (decide (iv < 20)) (.val (.bool false))]) := by kernel_rfl
theorem to_nsX (np ne nl e1 : Nat) (pc ec lc : List Value) (N fr tt at0 at' iv jv : Int) (g : Code → St → Option (AExit × St)) : rnd7 [] [(5, 5, true)] g (I7 np ne e1 pc ec N fr tt at0 (at') (iv) (.slice none 0 0) [] (sl 5 nl) [(5, own lc 3 1)] 6) [tru 10, tru 12, tru 15, tru 16, past 21 .normal (J7 np ne e1 pc ec N fr tt at0 at' iv (.slice none 0 0) [] (sl 5 nl) [(5, own lc 3 1)] (.slice none 0 0) [] (jv) 11)] 16 ([] ++ [(5, 5, true)]) = some (.exit 0, some (I7 np ne e1 pc ec N fr tt at0 (at') (iv) (.slice none 0 0) [] (sl 5 nl) [(5, own lc 3 1)] 16), [pc, ec, [i64 N, sl 3 ne]] ++ [] ++ [lc], true, [.b (decide (iv < (np : Int))) (.val (.bool true)), .b (decide (iv < (np : Int))) (.val (.bool true)), .b (decide (iv < (np : Int))) (.val (.bool true)), .b (decide (iv < 20)) (.val (.bool true)), .bk 2 (.loop loop7j) 6 [0, 4, 4] (some (J7 np ne e1 pc ec N fr tt at0 at' iv (.slice none 0 0) [] (sl 5 nl) [(5, own lc 3 1)] (.slice none 0 0) [] (0) 7)) ([pc, ec, [i64 N, sl 3 ne]] ++ [] ++ [lc]) true .normal (J7 np ne e1 pc ec N fr tt at0 at' iv (.slice none 0 0) [] (sl 5 nl) [(5, own lc 3 1)] (.slice none 0 0) [] (jv) 11)]) := by kernel_rfl
theorem to_nsT (np ne no nl e1 : Nat) (pc ec lc oc : List Value) (N fr tt at0 at' iv jv z w ej t : Int) (g : Code → St → Option (AExit × St)) : rnd7 [] [(5, 5, true)] g (I7 np ne e1 pc ec N fr tt at0 (at') (iv) (.slice none 0 0) [] (sl 5 nl) [(5, own lc 3 1)] 6) [tru 10, tru 12, tru 15, tru 16, past 21 .normal (J7 np ne e1 pc ec N fr tt at0 at' iv (.slice none 0 0) [] (sl 5 nl) [(5, own lc 3 1)] (sl 6 no) [(6, own oc 3 1)] (jv) 11), fls 28, tru 38, got 40 (i64 z), got 46 (i64 w), tru 48, got 50 (i64 ej), onto 54 (lc), tru 70, got 72 (i64 ej), tru 74, got 78 (i64 t)] 6 ([] ++ [(5, 12, true)]) = some (.normal, some (I7 np ne e1 pc ec N fr tt at0 (t) (IntKind.wrap .i64 (iv + 1)) (.slice none 0 0) [] (sl 5 (nl + 1)) [(5, own (lc ++ [i64 ej]) 3 1)] 6), [pc, ec, [i64 N, sl 3 ne]] ++ [] ++ [lc ++ [i64 ej]], true, [.b (decide (iv < (np : Int))) (.val (.bool true)), .b (decide (iv < (np : Int))) (.val (.bool true)), .b (decide (iv < (np : Int))) (.val (.bool true)), .b (decide (iv < 20)) (.val (.bool true)), .bk 2 (.loop loop7j) 6 [0, 4, 4] (some (J7 np ne e1 pc ec N fr tt at0 at' iv (.slice none 0 0) [] (sl 5 nl) [(5, own lc 3 1)] (.slice none 0 0) [] (0) 7)) ([pc, ec, [i64 N, sl 3 ne]] ++ [] ++ [lc]) true .normal (J7 np ne e1 pc ec N fr tt at0 at' iv (.slice none 0 0) [] (sl 5 nl) [(5, own lc 3 1)] (sl 6 no) [(6, own oc 3 1)] (jv) 11), .b (((no : Int) == 0)) (.val (.bool false)), .ib iv np, .ld 3 (0 + iv.toNat * 1) (some (ro pc e1 1)) (.val (i64 z)), .cr 18 [i64 z, i64 no] [] (.val (i64 w)), .ib w no, .ld 3 (0 + w.toNat * 1) (some (own oc 3 1)) (.val (i64 ej)), .ap [25, 25] (sl 5 nl) (.slice (some ⟨11, 0, none⟩) 1 2) lc (own lc 3 1) [i64 ej], .ib (IntKind.wrap .i64 (((nl + 1 : Nat) : Int) - 1)) (nl + 1), .ld 3 (0 + (IntKind.wrap .i64 (((nl + 1 : Nat) : Int) - 1)).toNat * 1) (some (own (lc ++ [i64 ej]) 3 1)) (.val (i64 ej)), .ib ej ne, .ld 3 (0 + ej.toNat * 4 + 1) (some (own ec 31 4)) (.val (i64 t))]) := by kernel_rfl
theorem to_nsE (np ne nl e1 : Nat) (pc ec lc : List Value) (N fr tt at0 at' iv : Int) (g : Code → St → Option (AExit × St)) : rnd7 [] [(5, 5, true)] g (I7 np ne e1 pc ec N fr tt at0 (at') (iv) (.slice none 0 0) [] (sl 5 nl) [(5, own lc 3 1)] 6) [fls 10, fls 12, fls 15] 16 ([] ++ [(5, 5, true)]) = some (.exit 0, some (I7 np ne e1 pc ec N fr tt at0 (at') (iv) (.slice none 0 0) [] (sl 5 nl) [(5, own lc 3 1)] 16), [pc, ec, [i64 N, sl 3 ne]] ++ [] ++ [lc], true, [.b (decide (iv < (np : Int))) (.val (.bool false)), .b (decide (iv < (np : Int))) (.val (.bool false)), .b (decide (iv < (np : Int))) (.val (.bool false))]) := by kernel_rfl
theorem to_nsG (np ne nl e1 : Nat) (pc ec lc : List Value) (N fr tt at0 at' iv : Int) (g : Code → St → Option (AExit × St)) : rnd7 [] [(5, 5, true)] g (I7 np ne e1 pc ec N fr tt at0 (at') (iv) (.slice none 0 0) [] (sl 5 nl) [(5, own lc 3 1)] 6) [tru 10, tru 12, tru 15, fls 16] 16 ([] ++ [(5, 5, true)]) = some (.exit 0, some (I7 np ne e1 pc ec N fr tt at0 (at') (iv) (.slice none 0 0) [] (sl 5 nl) [(5, own lc 3 1)] 16), [pc, ec, [i64 N, sl 3 ne]] ++ [] ++ [lc], true, [.b (decide (iv < (np : Int))) (.val (.bool true)), .b (decide (iv < (np : Int))) (.val (.bool true)), .b (decide (iv < (np : Int))) (.val (.bool true)), .b (decide (iv < 20)) (.val (.bool false))]) := by kernel_rfl
theorem to_snX (np ne nr e1 e2 : Nat) (pc ec rc : List Value) (N fr tt at0 at' iv jv : Int) (g : Code → St → Option (AExit × St)) : rnd7 [(2, 2, true)] [] g (I7 np ne e1 pc ec N fr tt at0 (at') (iv) (sl 2 nr) [(2, ro rc e2 1)] (.slice none 0 0) [] 6) [tru 10, tru 12, tru 15, tru 16, past 21 .normal (J7 np ne e1 pc ec N fr tt at0 at' iv (sl 2 nr) [(2, ro rc e2 1)] (.slice none 0 0) [] (.slice none 0 0) [] (jv) 11)] 16 ([(2, 2, true)] ++ []) = some (.exit 0, some (I7 np ne e1 pc ec N fr tt at0 (at') (iv) (sl 2 nr) [(2, ro rc e2 1)] (.slice none 0 0) [] 16), [pc, ec, [i64 N, sl 3 ne]] ++ [rc] ++ [], true, [.b (decide (iv < (np : Int))) (.val (.bool true)), .b (decide (iv < (np : Int))) (.val (.bool true)), .b (decide (iv < (np : Int))) (.val (.bool true)), .b (decide (iv < 20)) (.val (.bool true)), .bk 2 (.loop loop7j) 6 [0, 4, 4] (some (J7 np ne e1 pc ec N fr tt at0 at' iv (sl 2 nr) [(2, ro rc e2 1)] (.slice none 0 0) [] (.slice none 0 0) [] (0) 7)) ([pc, ec, [i64 N, sl 3 ne]] ++ [rc] ++ []) true .normal (J7 np ne e1 pc ec N fr tt at0 at' iv (sl 2 nr) [(2, ro rc e2 1)] (.slice none 0 0) [] (.slice none 0 0) [] (jv) 11)]) := by kernel_rfl
theorem to_snT (np ne no nr e1 e2 : Nat) (pc ec rc oc : List Value) (N fr tt at0 at' iv jv z w ej t : Int) (g : Code → St → Option (AExit × St)) : rnd7 [(2, 2, true)] [] g (I7 np ne e1 pc ec N fr tt at0 (at') (iv) (sl 2 nr) [(2, ro rc e2 1)] (.slice none 0 0) [] 6) [tru 10, tru 12, tru 15, tru 16, past 21 .normal (J7 np ne e1 pc ec N fr tt at0 at' iv (sl 2 nr) [(2, ro rc e2 1)] (.slice none 0 0) [] (sl 6 no) [(6, own oc 3 1)] (jv) 11), fls 28, tru 38, got 40 (i64 z), got 46 (i64 w), tru 48, got 50 (i64 ej), tru 74, got 78 (i64 t)] 6 ([(2, 2, true)] ++ [(5, 12, true)]) = some (.normal, some (I7 np ne e1 pc ec N fr tt at0 (t) (IntKind.wrap .i64 (iv + 1)) (sl 2 nr) [(2, ro rc e2 1)] (sl 5 1) [(5, own [i64 ej] 3 1)] 6), [pc, ec, [i64 N, sl 3 ne]] ++ [rc] ++ [[i64 ej]], true, [.b (decide (iv < (np : Int))) (.val (.bool true)), .b (decide (iv < (np : Int))) (.val (.bool true)), .b (decide (iv < (np : Int))) (.val (.bool true)), .b (decide (iv < 20)) (.val (.bool true)), .bk 2 (.loop loop7j) 6 [0, 4, 4] (some (J7 np ne e1 pc ec N fr tt at0 at' iv (sl 2 nr) [(2, ro rc e2 1)] (.slice none 0 0) [] (.slice none 0 0) [] (0) 7)) ([pc, ec, [i64 N, sl 3 ne]] ++ [rc] ++ []) true .normal (J7 np ne e1 pc ec N fr tt at0 at' iv (sl 2 nr) [(2, ro rc e2 1)] (.slice none 0 0) [] (sl 6 no) [(6, own oc 3 1)] (jv) 11), .b (((no : Int) == 0)) (.val (.bool false)), .ib iv np, .ld 3 (0 + iv.toNat * 1) (some (ro pc e1 1)) (.val (i64 z)), .cr 18 [i64 z, i64 no] [] (.val (i64 w)), .ib w no, .ld 3 (0 + w.toNat * 1) (some (own oc 3 1)) (.val (i64 ej)), .ib ej ne, .ld 3 (0 + ej.toNat * 4 + 1) (some (own ec 31 4)) (.val (i64 t))]) := by kernel_rfl
theorem to_snE (np ne nr e1 e2 : Nat) (pc ec rc : List Value) (N fr tt at0 at' iv : Int) (g : Code → St → Option (AExit × St)) : rnd7 [(2, 2, true)] [] g (I7 np ne e1 pc ec N fr tt at0 (at') (iv) (sl 2 nr) [(2, ro rc e2 1)] (.slice none 0 0) [] 6) [fls 10, fls 12, fls 15] 16 ([(2, 2, true)] ++ []) = some (.exit 0, some (I7 np ne e1 pc ec N fr tt at0 (at') (iv) (sl 2 nr) [(2, ro rc e2 1)] (.slice none 0 0) [] 16), [pc, ec, [i64 N, sl 3 ne]] ++ [rc] ++ [], true, [.b (decide (iv < (np : Int))) (.val (.bool false)), .b (decide (iv < (np : Int))) (.val (.bool false)), .b (decide (iv < (np : Int))) (.val (.bool false))]) := by kernel_rfl
theorem to_snG (np ne nr e1 e2 : Nat) (pc ec rc : List Value) (N fr tt at0 at' iv : Int) (g : Code → St → Option (AExit × St)) : rnd7 [(2, 2, true)] [] g (I7 np ne e1 pc ec N fr tt at0 (at') (iv) (sl 2 nr) [(2, ro rc e2 1)] (.slice none 0 0) [] 6) [tru 10, tru 12, tru 15, fls 16] 16 ([(2, 2, true)] ++ []) = some (.exit 0, some (I7 np ne e1 pc ec N fr tt at0 (at') (iv) (sl 2 nr) [(2, ro rc e2 1)] (.slice none 0 0) [] 16), [pc, ec, [i64 N, sl 3 ne]] ++ [rc] ++ [], true, [.b (decide (iv < (np : Int))) (.val (.bool true)), .b (decide (iv < (np : Int))) (.val (.bool true)), .b (decide (iv < (np : Int))) (.val (.bool true)), .b (decide (iv < 20)) (.val (.bool false))]) := by kernel_rfl
theorem to_ssX (np ne nl nr e1 e2 : Nat) (pc ec lc rc : List Value) (N fr tt at0 at' iv jv : Int) (g : Code → St → Option (AExit × St)) : rnd7 [(2, 2, true)] [(5, 5, true)] g (I7 np ne e1 pc ec N fr tt at0 (at') (iv) (sl 2 nr) [(2, ro rc e2 1)] (sl 5 nl) [(5, own lc 3 1)] 6) [tru 10, tru 12, tru 15, tru 16, past 21 .normal (J7 np ne e1 pc ec N fr tt at0 at' iv (sl 2 nr) [(2, ro rc e2 1)] (sl 5 nl) [(5, own lc 3 1)] (.slice none 0 0) [] (jv) 11)] 16 ([(2, 2, true)] ++ [(5, 5, true)]) = some (.exit 0, some (I7 np ne e1 pc ec N fr tt at0 (at') (iv) (sl 2 nr) [(2, ro rc e2 1)] (sl 5 nl) [(5, own lc 3 1)] 16), [pc, ec, [i64 N, sl 3 ne]] ++ [rc] ++ [lc], true, [.b (decide (iv < (np : Int))) (.val (.bool true)), .b (decide (iv < (np : Int))) (.val (.bool true)), .b (decide (iv < (np : Int))) (.val (.bool true)), .b (decide (iv < 20)) (.val (.bool true)), .bk 2 (.loop loop7j) 6 [0, 4, 4] (some (J7 np ne e1 pc ec N fr tt at0 at' iv (sl 2 nr) [(2, ro rc e2 1)] (sl 5 nl) [(5, own lc 3 1)] (.slice none 0 0) [] (0) 7)) ([pc, ec, [i64 N, sl 3 ne]] ++ [rc] ++ [lc]) true .normal (J7 np ne e1 pc ec N fr tt at0 at' iv (sl 2 nr) [(2, ro rc e2 1)] (sl 5 nl) [(5, own lc 3 1)] (.slice none 0 0) [] (jv) 11)]) := by kernel_rfl
theorem to_ssT (np ne no nl nr e1 e2 : Nat) (pc ec lc rc oc : List Value) (N fr tt at0 at' iv jv z w ej t : Int) (g : Code → St → Option (AExit × St)) : rnd7 [(2, 2, true)] [(5, 5, true)] g (I7 np ne e1 pc ec N fr tt at0 (at') (iv) (sl 2 nr) [(2, ro rc e2 1)] (sl 5 nl) [(5, own lc 3 1)] 6) [tru 10, tru 12, tru 15, tru 16, past 21 .normal (J7 np ne e1 pc ec N fr tt at0 at' iv (sl 2 nr) [(2, ro rc e2 1)] (sl 5 nl) [(5, own lc 3 1)] (sl 6 no) [(6, own oc 3 1)] (jv) 11), fls 28, tru 38, got 40 (i64 z), got 46 (i64 w), tru 48, got 50 (i64 ej), onto 54 (lc), tru 70, got 72 (i64 ej), tru 74, got 78 (i64 t)] 6 ([(2, 2, true)] ++ [(5, 12, true)]) = some (.normal, some (I7 np ne e1 pc ec N fr tt at0 (t) (IntKind.wrap .i64 (iv + 1)) (sl 2 nr) [(2, ro rc e2 1)] (sl 5 (nl + 1)) [(5, own (lc ++ [i64 ej]) 3 1)] 6), [pc, ec, [i64 N, sl 3 ne]] ++ [rc] ++ [lc ++ [i64 ej]], true, [.b (decide (iv < (np : Int))) (.val (.bool true)), .b (decide (iv < (np : Int))) (.val (.bool true)), .b (decide (iv < (np : Int))) (.val (.bool true)), .b (decide (iv < 20)) (.val (.bool true)), .bk 2 (.loop loop7j) 6 [0, 4, 4] (some (J7 np ne e1 pc ec N fr tt at0 at' iv (sl 2 nr) [(2, ro rc e2 1)] (sl 5 nl) [(5, own lc 3 1)] (.slice none 0 0) [] (0) 7)) ([pc, ec, [i64 N, sl 3 ne]] ++ [rc] ++ [lc]) true .normal (J7 np ne e1 pc ec N fr tt at0 at' iv (sl 2 nr) [(2, ro rc e2 1)] (sl 5 nl) [(5, own lc 3 1)] (sl 6 no) [(6, own oc 3 1)] (jv) 11), .b (((no : Int) == 0)) (.val (.bool false)), .ib iv np, .ld 3 (0 + iv.toNat * 1) (some (ro pc e1 1)) (.val (i64 z)), .cr 18 [i64 z, i64 no] [] (.val (i64 w)), .ib w no, .ld 3 (0 + w.toNat * 1) (some (own oc 3 1)) (.val (i64 ej)), .ap [25, 25] (sl 5 nl) (.slice (some ⟨11, 0, none⟩) 1 2) lc (own lc 3 1) [i64 ej], .ib (IntKind.wrap .i64 (((nl + 1 : Nat) : Int) - 1)) (nl + 1), .ld 3 (0 + (IntKind.wrap .i64 (((nl + 1 : Nat) : Int) - 1)).toNat * 1) (some (own (lc ++ [i64 ej]) 3 1)) (.val (i64 ej)), .ib ej ne, .ld 3 (0 + ej.toNat * 4 + 1) (some (own ec 31 4)) (.val (i64 t))]) := by kernel_rfl
theorem to_ssE (np ne nl nr e1 e2 : Nat) (pc ec lc rc : List Value) (N fr tt at0 at' iv : Int) (g : Code → St → Option (AExit × St)) : rnd7 [(2, 2, true)] [(5, 5, true)] g (I7 np ne e1 pc ec N fr tt at0 (at') (iv) (sl 2 nr) [(2, ro rc e2 1)] (sl 5 nl) [(5, own lc 3 1)] 6) [fls 10, fls 12, fls 15] 16 ([(2, 2, true)] ++ [(5, 5, true)]) = some (.exit 0, some (I7 np ne e1 pc ec N fr tt at0 (at') (iv) (sl 2 nr) [(2, ro rc e2 1)] (sl 5 nl) [(5, own lc 3 1)] 16), [pc, ec, [i64 N, sl 3 ne]] ++ [rc] ++ [lc], true, [.b (decide (iv < (np : Int))) (.val (.bool false)), .b (decide (iv < (np : Int))) (.val (.bool false)), .b (decide (iv < (np : Int))) (.val (.bool false))]) := by kernel_rfl
theorem to_ssG (np ne nl nr e1 e2 : Nat) (pc ec lc rc : List Value) (N fr tt at0 at' iv : Int) (g : Code → St → Option (AExit × St)) : rnd7 [(2, 2, true)] [(5, 5, true)] g (I7 np ne e1 pc ec N fr tt at0 (at') (iv) (sl 2 nr) [(2, ro rc e2 1)] (sl 5 nl) [(5, own lc 3 1)] 6) [tru 10, tru 12, tru 15, fls 16] 16 ([(2, 2, true)] ++ [(5, 5, true)]) = some (.exit 0, some (I7 np ne e1 pc ec N fr tt at0 (at') (iv) (sl 2 nr) [(2, ro rc e2 1)] (sl 5 nl) [(5, own lc 3 1)] 16), [pc, ec, [i64 N, sl 3 ne]] ++ [rc] ++ [lc], true, [.b (decide (iv < (np : Int))) (.val (.bool true)), .b (decide (iv < (np : Int))) (.val (.bool true)), .b (decide (iv < (np : Int))) (.val (.bool true)), .b (decide (iv < 20)) (.val (.bool false))]) := by kernel_rfl
end Go.Proofs.YtlmifmodnkhidaaDoor

open Go Go.Am Go.Proofs
namespace Go.Proofs.YtlmifmodnkhidaaDoor
set_option maxRecDepth 10000

/- A row that was handed in, or none. -/
abbrev Row := Option (Nat × List Int)
def rV : Row → Value
  | none => .slice none 0 0
  | some (_, rs) => sl 2 rs.length
def rB : Row → List (Nat × ABlk)
  | none => []
  | some (e2, rs) => [(2, ro (ints rs) e2 1)]
def rM : Row → Moves
  | none => []
  | some _ => [(2, 2, true)]
def lM (id : Nat) : List Int → Moves
  | [] => []
  | _ :: _ => [(id, id, true)]
structure Net7 where
  N : Int
  e1 : Nat
  es : List E
  ps : List Int
  fr : Int
  tt : Int
  at0 : Int
  rw : Row
def SJ7 (n : Net7) (ls : List Int) (at' iv : Int) (j nx : Nat) : St :=
  J7 n.ps.length n.es.length n.e1 (ints n.ps) (ecOf n.es) n.N n.fr n.tt n.at0 at' iv (rV n.rw) (rB n.rw) (iV 5 ls) (iB 5 ls) (iV 6 (outs n.es at' j)) (iB 6 (outs n.es at' j)) j nx
theorem specs7 {bs : List (Nat × (Code → St → Option (AExit × St)))} (hb : ∀ B, ∀ p ∈ bs, BlkOk Tryd.prog [] B p.1 p.2) (B : Nat) : SpecsOk Tryd.prog [] B (SP7 bs) := specsB_ok (fun p hp => by
  simp only [List.mem_cons, List.not_mem_nil, or_false] at hp
  rcases hp with rfl | rfl | rfl | rfl | rfl | rfl
  · exact ok13 B
  · exact ok15 B
  · exact ok18 B
  · exact ok24W B
  · exact ok25W B
  · exact ok26 B) (hb B)
theorem fl_c {a : List Value} {r : List (List Value)} (h1 : flatL a = true) (h2 : r.all flatL = true) : (a :: r).all flatL = true := by simp [h1, h2]
theorem nb7_still (mv : Moves) (N : Int) (ne : Nat) (h : toTgt mv 3 = some 3) : renL mv [i64 N, sl 3 ne] = some [i64 N, sl 3 ne] := by
  simp [renL, renV, leaf, sl, renAddr, h]
theorem still7 {mv : Moves} {N : Int} {es : List E} {ps : List Int} {r : List (List Value)} (h : toTgt mv 3 = some 3) (hr : r.all flatL = true) : ∀ l ∈ [ints ps, ecOf es, [i64 N, sl 3 es.length]] ++ r, renL mv l = some l := fun l hl => by
  rcases List.mem_append.1 hl with hl | hl
  · simp only [List.mem_cons, List.not_mem_nil, or_false] at hl
    rcases hl with rfl | rfl | rfl
    · exact renL_flat _ _ (ints_flat ps)
    · exact renL_flat _ _ (ecOf_flat es)
    · exact nb7_still mv N _ h
  · exact renL_flat _ _ (List.all_eq_true.1 hr l hl)
abbrev GoalJ7 (n : Net7) (ls : List Int) (at' iv : Int) (B j : Nat) : Prop :=
  ∃ SP m s1, SpecsOk Tryd.prog [] B SP ∧ s1.M.next ≤ 11 ∧
      ((∃ nx mv keep d', aexec Tryd.prog [] SP m loop7j (SJ7 n ls at' iv j 7) = some (.normal, s1) ∧ View 6 nx mv keep [0, 4] [0, 4, 4] s1 (SJ7 n ls at' iv d' 7) ∧ d' ≤ n.es.length ∧ n.es.length - d' < n.es.length - j) ∨
        (∃ mv keep, aexec Tryd.prog [] SP m loop7j (SJ7 n ls at' iv j 7) = some (.exit 2, s1) ∧ View 6 11 mv keep [0, 4] [0, 4, 4] s1 (SJ7 n ls at' iv n.es.length 11)))
theorem stepJ7 (n : Net7) (hes : n.es.length ≤ 100) (ls : List Int) (at' iv : Int) (B j : Nat) (hj : j ≤ n.es.length) : GoalJ7 n ls at' iv B j := by
  obtain ⟨N, e1, es, ps, fr, tt, at0, rw0⟩ := n
  simp only at hes hj
  have hS := specs7 (bs := []) (fun _ p hp => by cases hp) B
  have hol := outs_len es at' j
  by_cases hlt : j < es.length
  · obtain ⟨e, he⟩ : ∃ e, es[j]? = some e := ⟨es[j], List.getElem?_eq_getElem hlt⟩
    have g1 : (QV.b (decide ((j : Int) < (es.length : Int))) (.val (.bool true))).holds Tryd.prog (SP7 []) noDoors [] := qd (by omega)
    have g2 : (QV.ib (j : Int) es.length).holds Tryd.prog (SP7 []) noDoors [] := qib (by omega)
    have g3 : (QV.ld 3 (0 + ((j : Nat) : Int).toNat * 4) (some (own (ecOf es) 31 4)) (.val (i64 e.f))).holds Tryd.prog (SP7 []) noDoors [] := ⟨_, rfl, by rw [ld3]; simpa using ecOf_get he⟩
    have hiv : IntKind.wrap .i64 ((j : Int) + 1) = ((j + 1 : Nat) : Int) := by rw [IntWalk.i64_in _ (by omega)]; omega
    have hou := outs_succ es at' j he
    by_cases hf : e.f = at'
    · rw [if_pos hf] at hou
      have g4 : (QV.b (e.f == at') (.val (.bool true))).holds Tryd.prog (SP7 []) noDoors [] := by simp [QV.holds, hf]
      have close : ∀ {mv : Moves} {F : List Fact} {q : List QV} {ov : Value} {ob : List Value} {r : List (List Value)}, rndJ7 (SJ7 ⟨N, e1, es, ps, fr, tt, at0, rw0⟩ ls at' iv j 7) F 7 keepJ7 mv = some (.normal, some (J7 ps.length es.length e1 (ints ps) (ecOf es) N fr tt at0 at' iv (rV rw0) (rB rw0) (iV 5 ls) (iB 5 ls) ov [(6, own ob 3 1)] (IntKind.wrap .i64 ((j : Int) + 1)) 7), [ints ps, ecOf es, [i64 N, sl 3 es.length]] ++ r, true, q) →
          (∀ p ∈ q, p.holds Tryd.prog (SP7 []) noDoors []) → toTgt (mv7 mv) 3 = some 3 → r.all flatL = true → ov = sl 6 ((outs es at' j).length + 1) → ob = ints (outs es at' j) ++ [i64 (j : Int)] → GoalJ7 ⟨N, e1, es, ps, fr, tt, at0, rw0⟩ ls at' iv B j := fun hs hq hm hr hov hob => by
        subst hov; subst hob
        unfold rndJ7 at hs
        obtain ⟨s1, k1, k2, k3⟩ := round_of (doors := noDoors) (ids := []) hs hq (still7 hm hr)
        rw [hiv, ← iV_snoc 6, ← iB_snoc 6, ← hou] at k3
        exact ⟨_, 60, s1, hS, k1, .inl ⟨7, _, _, j + 1, k2, k3, by simp only; omega, by simp only; omega⟩⟩
      have g5 : ∀ x l, outs es at' j = x :: l → (QV.ap [25, 25] (sl 6 (l.length + 1)) (.slice (some ⟨7, 0, none⟩) 1 2) (ints (x :: l)) (own (ints (x :: l)) 3 1) [i64 (j : Int)]).holds Tryd.prog (SP7 []) noDoors [] := fun x l h M r hM => by
        rw [h] at hol
        exact ap25 (ws := x :: l) (nw := l.length + 1) (n := 1) rfl (by decide) rfl (by simp only [List.length_cons] at hol; omega) rfl rfl M r hM
      cases rw0 with
      | none =>
        cases ls with
        | nil =>
          cases ho : outs es at' j with
          | nil =>
            refine close (mv := [] ++ [] ++ [(6, 8, true)]) (r := _) (by unfold SJ7; rw [ho]; exact (tj_nnnT ps.length es.length e1 (ints ps) (ecOf es) N fr tt at0 at' iv j e.f)) (by simp only [List.forall_mem_cons]; exact ⟨g1, g2, g3, g4, by simp⟩) rfl (by repeat' first | exact rfl | exact ints_flat _ | exact ints_snoc_flat _ _ | refine fl_c ?_ ?_) (by rw [ho]; first | done | rfl) (by rw [ho]; first | done | rfl)
          | cons x l =>
            refine close (mv := [] ++ [] ++ [(6, 8, true)]) (r := _) (by unfold SJ7; rw [ho]; exact (tj_nnsT ps.length es.length (l.length + 1) e1 (ints ps) (ecOf es) (ints (x :: l)) N fr tt at0 at' iv j e.f)) (by simp only [List.forall_mem_cons]; exact ⟨g1, g2, g3, g4, g5 x l ho, by simp⟩) rfl (by repeat' first | exact rfl | exact ints_flat _ | exact ints_snoc_flat _ _ | refine fl_c ?_ ?_) (by rw [ho]; first | done | rfl) (by rw [ho]; first | done | rfl)
        | cons y ys =>
          cases ho : outs es at' j with
          | nil =>
            refine close (mv := [] ++ [(5, 5, true)] ++ [(6, 8, true)]) (r := _) (by unfold SJ7; rw [ho]; exact (tj_nsnT ps.length es.length (ys.length + 1) e1 (ints ps) (ecOf es) (ints (y :: ys)) N fr tt at0 at' iv j e.f)) (by simp only [List.forall_mem_cons]; exact ⟨g1, g2, g3, g4, by simp⟩) rfl (by repeat' first | exact rfl | exact ints_flat _ | exact ints_snoc_flat _ _ | refine fl_c ?_ ?_) (by rw [ho]; first | done | rfl) (by rw [ho]; first | done | rfl)
          | cons x l =>
            refine close (mv := [] ++ [(5, 5, true)] ++ [(6, 8, true)]) (r := _) (by unfold SJ7; rw [ho]; exact (tj_nssT ps.length es.length (l.length + 1) (ys.length + 1) e1 (ints ps) (ecOf es) (ints (y :: ys)) (ints (x :: l)) N fr tt at0 at' iv j e.f)) (by simp only [List.forall_mem_cons]; exact ⟨g1, g2, g3, g4, g5 x l ho, by simp⟩) rfl (by repeat' first | exact rfl | exact ints_flat _ | exact ints_snoc_flat _ _ | refine fl_c ?_ ?_) (by rw [ho]; first | done | rfl) (by rw [ho]; first | done | rfl)
      | some rw0 =>
        obtain ⟨e2, rs⟩ := rw0
        cases ls with
        | nil =>
          cases ho : outs es at' j with
          | nil =>
            refine close (mv := [(2, 2, true)] ++ [] ++ [(6, 8, true)]) (r := _) (by unfold SJ7; rw [ho]; exact (tj_snnT ps.length es.length rs.length e1 e2 (ints ps) (ecOf es) (ints rs) N fr tt at0 at' iv j e.f)) (by simp only [List.forall_mem_cons]; exact ⟨g1, g2, g3, g4, by simp⟩) rfl (by repeat' first | exact rfl | exact ints_flat _ | exact ints_snoc_flat _ _ | refine fl_c ?_ ?_) (by rw [ho]; first | done | rfl) (by rw [ho]; first | done | rfl)
          | cons x l =>
            refine close (mv := [(2, 2, true)] ++ [] ++ [(6, 8, true)]) (r := _) (by unfold SJ7; rw [ho]; exact (tj_snsT ps.length es.length (l.length + 1) rs.length e1 e2 (ints ps) (ecOf es) (ints rs) (ints (x :: l)) N fr tt at0 at' iv j e.f)) (by simp only [List.forall_mem_cons]; exact ⟨g1, g2, g3, g4, g5 x l ho, by simp⟩) rfl (by repeat' first | exact rfl | exact ints_flat _ | exact ints_snoc_flat _ _ | refine fl_c ?_ ?_) (by rw [ho]; first | done | rfl) (by rw [ho]; first | done | rfl)
        | cons y ys =>
          cases ho : outs es at' j with
          | nil =>
            refine close (mv := [(2, 2, true)] ++ [(5, 5, true)] ++ [(6, 8, true)]) (r := _) (by unfold SJ7; rw [ho]; exact (tj_ssnT ps.length es.length (ys.length + 1) rs.length e1 e2 (ints ps) (ecOf es) (ints (y :: ys)) (ints rs) N fr tt at0 at' iv j e.f)) (by simp only [List.forall_mem_cons]; exact ⟨g1, g2, g3, g4, by simp⟩) rfl (by repeat' first | exact rfl | exact ints_flat _ | exact ints_snoc_flat _ _ | refine fl_c ?_ ?_) (by rw [ho]; first | done | rfl) (by rw [ho]; first | done | rfl)
          | cons x l =>
            refine close (mv := [(2, 2, true)] ++ [(5, 5, true)] ++ [(6, 8, true)]) (r := _) (by unfold SJ7; rw [ho]; exact (tj_sssT ps.length es.length (l.length + 1) (ys.length + 1) rs.length e1 e2 (ints ps) (ecOf es) (ints (y :: ys)) (ints rs) (ints (x :: l)) N fr tt at0 at' iv j e.f)) (by simp only [List.forall_mem_cons]; exact ⟨g1, g2, g3, g4, g5 x l ho, by simp⟩) rfl (by repeat' first | exact rfl | exact ints_flat _ | exact ints_snoc_flat _ _ | refine fl_c ?_ ?_) (by rw [ho]; first | done | rfl) (by rw [ho]; first | done | rfl)
    · rw [if_neg hf] at hou
      have g4 : (QV.b (e.f == at') (.val (.bool false))).holds Tryd.prog (SP7 []) noDoors [] := by simp [QV.holds, hf]
      have close : ∀ {mv : Moves} {F : List Fact} {q : List QV} {r : List (List Value)}, rndJ7 (SJ7 ⟨N, e1, es, ps, fr, tt, at0, rw0⟩ ls at' iv j 7) F 7 keepJ7 mv = some (.normal, some (J7 ps.length es.length e1 (ints ps) (ecOf es) N fr tt at0 at' iv (rV rw0) (rB rw0) (iV 5 ls) (iB 5 ls) (iV 6 (outs es at' j)) (iB 6 (outs es at' j)) (IntKind.wrap .i64 ((j : Int) + 1)) 7), [ints ps, ecOf es, [i64 N, sl 3 es.length]] ++ r, true, q) →
          (∀ p ∈ q, p.holds Tryd.prog (SP7 []) noDoors []) → toTgt (mv7 mv) 3 = some 3 → r.all flatL = true → GoalJ7 ⟨N, e1, es, ps, fr, tt, at0, rw0⟩ ls at' iv B j := fun hs hq hm hr => by
        unfold rndJ7 at hs
        obtain ⟨s1, k1, k2, k3⟩ := round_of (doors := noDoors) (ids := []) hs hq (still7 hm hr)
        rw [hiv, ← hou] at k3
        exact ⟨_, 60, s1, hS, k1, .inl ⟨7, _, _, j + 1, k2, k3, by simp only; omega, by simp only; omega⟩⟩
      cases rw0 with
      | none =>
        cases ls with
        | nil =>
          cases ho : outs es at' j with
          | nil =>
            refine close (mv := [] ++ [] ++ []) (r := _) (by unfold SJ7; rw [ho]; exact (tj_nnnF ps.length es.length e1 (ints ps) (ecOf es) N fr tt at0 at' iv j e.f)) (by simp only [List.forall_mem_cons]; exact ⟨g1, g2, g3, g4, by simp⟩) rfl (by repeat' first | exact rfl | exact ints_flat _ | exact ints_snoc_flat _ _ | refine fl_c ?_ ?_)
          | cons x l =>
            refine close (mv := [] ++ [] ++ [(6, 6, true)]) (r := _) (by unfold SJ7; rw [ho]; exact (tj_nnsF ps.length es.length (l.length + 1) e1 (ints ps) (ecOf es) (ints (x :: l)) N fr tt at0 at' iv j e.f)) (by simp only [List.forall_mem_cons]; exact ⟨g1, g2, g3, g4, by simp⟩) rfl (by repeat' first | exact rfl | exact ints_flat _ | exact ints_snoc_flat _ _ | refine fl_c ?_ ?_)
        | cons y ys =>
          cases ho : outs es at' j with
          | nil =>
            refine close (mv := [] ++ [(5, 5, true)] ++ []) (r := _) (by unfold SJ7; rw [ho]; exact (tj_nsnF ps.length es.length (ys.length + 1) e1 (ints ps) (ecOf es) (ints (y :: ys)) N fr tt at0 at' iv j e.f)) (by simp only [List.forall_mem_cons]; exact ⟨g1, g2, g3, g4, by simp⟩) rfl (by repeat' first | exact rfl | exact ints_flat _ | exact ints_snoc_flat _ _ | refine fl_c ?_ ?_)
          | cons x l =>
            refine close (mv := [] ++ [(5, 5, true)] ++ [(6, 6, true)]) (r := _) (by unfold SJ7; rw [ho]; exact (tj_nssF ps.length es.length (l.length + 1) (ys.length + 1) e1 (ints ps) (ecOf es) (ints (y :: ys)) (ints (x :: l)) N fr tt at0 at' iv j e.f)) (by simp only [List.forall_mem_cons]; exact ⟨g1, g2, g3, g4, by simp⟩) rfl (by repeat' first | exact rfl | exact ints_flat _ | exact ints_snoc_flat _ _ | refine fl_c ?_ ?_)
      | some rw0 =>
        obtain ⟨e2, rs⟩ := rw0
        cases ls with
        | nil =>
          cases ho : outs es at' j with
          | nil =>
            refine close (mv := [(2, 2, true)] ++ [] ++ []) (r := _) (by unfold SJ7; rw [ho]; exact (tj_snnF ps.length es.length rs.length e1 e2 (ints ps) (ecOf es) (ints rs) N fr tt at0 at' iv j e.f)) (by simp only [List.forall_mem_cons]; exact ⟨g1, g2, g3, g4, by simp⟩) rfl (by repeat' first | exact rfl | exact ints_flat _ | exact ints_snoc_flat _ _ | refine fl_c ?_ ?_)
          | cons x l =>
            refine close (mv := [(2, 2, true)] ++ [] ++ [(6, 6, true)]) (r := _) (by unfold SJ7; rw [ho]; exact (tj_snsF ps.length es.length (l.length + 1) rs.length e1 e2 (ints ps) (ecOf es) (ints rs) (ints (x :: l)) N fr tt at0 at' iv j e.f)) (by simp only [List.forall_mem_cons]; exact ⟨g1, g2, g3, g4, by simp⟩) rfl (by repeat' first | exact rfl | exact ints_flat _ | exact ints_snoc_flat _ _ | refine fl_c ?_ ?_)
        | cons y ys =>
          cases ho : outs es at' j with
          | nil =>
            refine close (mv := [(2, 2, true)] ++ [(5, 5, true)] ++ []) (r := _) (by unfold SJ7; rw [ho]; exact (tj_ssnF ps.length es.length (ys.length + 1) rs.length e1 e2 (ints ps) (ecOf es) (ints (y :: ys)) (ints rs) N fr tt at0 at' iv j e.f)) (by simp only [List.forall_mem_cons]; exact ⟨g1, g2, g3, g4, by simp⟩) rfl (by repeat' first | exact rfl | exact ints_flat _ | exact ints_snoc_flat _ _ | refine fl_c ?_ ?_)
          | cons x l =>
            refine close (mv := [(2, 2, true)] ++ [(5, 5, true)] ++ [(6, 6, true)]) (r := _) (by unfold SJ7; rw [ho]; exact (tj_sssF ps.length es.length (l.length + 1) (ys.length + 1) rs.length e1 e2 (ints ps) (ecOf es) (ints (y :: ys)) (ints rs) (ints (x :: l)) N fr tt at0 at' iv j e.f)) (by simp only [List.forall_mem_cons]; exact ⟨g1, g2, g3, g4, by simp⟩) rfl (by repeat' first | exact rfl | exact ints_flat _ | exact ints_snoc_flat _ _ | refine fl_c ?_ ?_)
  · have he : j = es.length := by omega
    have g1 : (QV.b (decide ((j : Int) < (es.length : Int))) (.val (.bool false))).holds Tryd.prog (SP7 []) noDoors [] := qdn (by omega)
    have close : ∀ {mv : Moves} {F : List Fact} {q : List QV} {r : List (List Value)}, rndJ7 (SJ7 ⟨N, e1, es, ps, fr, tt, at0, rw0⟩ ls at' iv j 7) F 11 keepJ7 mv = some (.exit 2, some (SJ7 ⟨N, e1, es, ps, fr, tt, at0, rw0⟩ ls at' iv j 11), [ints ps, ecOf es, [i64 N, sl 3 es.length]] ++ r, true, q) →
        (∀ p ∈ q, p.holds Tryd.prog (SP7 []) noDoors []) → toTgt (mv7 mv) 3 = some 3 → r.all flatL = true → GoalJ7 ⟨N, e1, es, ps, fr, tt, at0, rw0⟩ ls at' iv B j := fun hs hq hm hr => by
      unfold rndJ7 at hs
      obtain ⟨s1, k1, k2, k3⟩ := round_of (doors := noDoors) (ids := []) hs hq (still7 hm hr)
      rw [he] at k2 k3
      unfold GoalJ7
      rw [he]
      exact ⟨_, 60, s1, hS, k1, .inr ⟨_, _, k2, k3⟩⟩
    cases rw0 with
    | none =>
      cases ls with
      | nil =>
        cases ho : outs es at' j with
        | nil =>
          refine close (mv := [] ++ [] ++ []) (r := _) (by unfold SJ7; rw [ho]; exact (tj_nnnE ps.length es.length e1 (ints ps) (ecOf es) N fr tt at0 at' iv j)) (by simp only [List.forall_mem_cons]; exact ⟨g1, by simp⟩) rfl (by repeat' first | exact rfl | exact ints_flat _ | exact ints_snoc_flat _ _ | refine fl_c ?_ ?_)
        | cons x l =>
          refine close (mv := [] ++ [] ++ [(6, 6, true)]) (r := _) (by unfold SJ7; rw [ho]; exact (tj_nnsE ps.length es.length (l.length + 1) e1 (ints ps) (ecOf es) (ints (x :: l)) N fr tt at0 at' iv j)) (by simp only [List.forall_mem_cons]; exact ⟨g1, by simp⟩) rfl (by repeat' first | exact rfl | exact ints_flat _ | exact ints_snoc_flat _ _ | refine fl_c ?_ ?_)
      | cons y ys =>
        cases ho : outs es at' j with
        | nil =>
          refine close (mv := [] ++ [(5, 5, true)] ++ []) (r := _) (by unfold SJ7; rw [ho]; exact (tj_nsnE ps.length es.length (ys.length + 1) e1 (ints ps) (ecOf es) (ints (y :: ys)) N fr tt at0 at' iv j)) (by simp only [List.forall_mem_cons]; exact ⟨g1, by simp⟩) rfl (by repeat' first | exact rfl | exact ints_flat _ | exact ints_snoc_flat _ _ | refine fl_c ?_ ?_)
        | cons x l =>
          refine close (mv := [] ++ [(5, 5, true)] ++ [(6, 6, true)]) (r := _) (by unfold SJ7; rw [ho]; exact (tj_nssE ps.length es.length (l.length + 1) (ys.length + 1) e1 (ints ps) (ecOf es) (ints (y :: ys)) (ints (x :: l)) N fr tt at0 at' iv j)) (by simp only [List.forall_mem_cons]; exact ⟨g1, by simp⟩) rfl (by repeat' first | exact rfl | exact ints_flat _ | exact ints_snoc_flat _ _ | refine fl_c ?_ ?_)
    | some rw0 =>
      obtain ⟨e2, rs⟩ := rw0
      cases ls with
      | nil =>
        cases ho : outs es at' j with
        | nil =>
          refine close (mv := [(2, 2, true)] ++ [] ++ []) (r := _) (by unfold SJ7; rw [ho]; exact (tj_snnE ps.length es.length rs.length e1 e2 (ints ps) (ecOf es) (ints rs) N fr tt at0 at' iv j)) (by simp only [List.forall_mem_cons]; exact ⟨g1, by simp⟩) rfl (by repeat' first | exact rfl | exact ints_flat _ | exact ints_snoc_flat _ _ | refine fl_c ?_ ?_)
        | cons x l =>
          refine close (mv := [(2, 2, true)] ++ [] ++ [(6, 6, true)]) (r := _) (by unfold SJ7; rw [ho]; exact (tj_snsE ps.length es.length (l.length + 1) rs.length e1 e2 (ints ps) (ecOf es) (ints rs) (ints (x :: l)) N fr tt at0 at' iv j)) (by simp only [List.forall_mem_cons]; exact ⟨g1, by simp⟩) rfl (by repeat' first | exact rfl | exact ints_flat _ | exact ints_snoc_flat _ _ | refine fl_c ?_ ?_)
      | cons y ys =>
        cases ho : outs es at' j with
        | nil =>
          refine close (mv := [(2, 2, true)] ++ [(5, 5, true)] ++ []) (r := _) (by unfold SJ7; rw [ho]; exact (tj_ssnE ps.length es.length (ys.length + 1) rs.length e1 e2 (ints ps) (ecOf es) (ints (y :: ys)) (ints rs) N fr tt at0 at' iv j)) (by simp only [List.forall_mem_cons]; exact ⟨g1, by simp⟩) rfl (by repeat' first | exact rfl | exact ints_flat _ | exact ints_snoc_flat _ _ | refine fl_c ?_ ?_)
        | cons x l =>
          refine close (mv := [(2, 2, true)] ++ [(5, 5, true)] ++ [(6, 6, true)]) (r := _) (by unfold SJ7; rw [ho]; exact (tj_sssE ps.length es.length (l.length + 1) (ys.length + 1) rs.length e1 e2 (ints ps) (ecOf es) (ints (y :: ys)) (ints rs) (ints (x :: l)) N fr tt at0 at' iv j)) (by simp only [List.forall_mem_cons]; exact ⟨g1, by simp⟩) rfl (by repeat' first | exact rfl | exact ints_flat _ | exact ints_snoc_flat _ _ | refine fl_c ?_ ?_)
end Go.Proofs.YtlmifmodnkhidaaDoor

open Go Go.Am Go.Proofs
namespace Go.Proofs.YtlmifmodnkhidaaDoor
set_option maxRecDepth 10000

theorem movesOk_up {n0 nx k : Nat} {L : List Nat} (hk : nx ≤ k) : ∀ {mv : Moves}, movesOk n0 nx L mv = true → movesOk n0 k L mv = true
  | [], _ => rfl
  | (t, s, fl) :: l, h => by
    simp only [movesOk, Bool.and_eq_true] at h ⊢
    obtain ⟨⟨h1, h2⟩, h3⟩ := h
    refine ⟨⟨?_, h2⟩, movesOk_up hk h3⟩
    simp only [Nat.blt_eq] at h1 ⊢
    omega
/- A state that is left with room for more. -/
def up (s : St) (k : Nat) : St := ⟨s.T, s.n, { s.M with next := k }⟩
theorem view_up {n0 nx k : Nat} {mv : Moves} {keep L lg : List Nat} {s t : St} (hk : nx ≤ k) (h : View n0 nx mv keep L lg s t) : View n0 k mv keep L lg s (up t k) := by
  obtain ⟨h1, h2⟩ := h
  refine ⟨?_, h2⟩
  unfold rebase at h1 ⊢
  cases hh : s.M.hide with
  | cons a l => rw [hh] at h1; cases h1
  | nil =>
    rw [hh] at h1
    simp only at h1 ⊢
    cases hc : (Nat.ble n0 nx && Go.Am.distinct (mv.map (·.1)) && Go.Am.distinct (mv.map (·.2.1)) && movesOk n0 nx L mv && logOk n0 L s.M.log && allLt n0 L) with
    | false => rw [hc] at h1; cases h1
    | true =>
      rw [hc] at h1
      simp only [Bool.and_eq_true] at hc
      obtain ⟨⟨⟨⟨⟨c1, c2⟩, c3⟩, c4⟩, c5⟩, c6⟩ := hc
      have c1' : Nat.ble n0 k = true := Nat.ble_eq_true_of_le (Nat.le_trans (Nat.le_of_ble_eq_true c1) hk)
      rw [c1', c2, c3, movesOk_up hk c4, c5, c6]
      simp only [Bool.and_self, cond_true] at h1 ⊢
      split at h1
      · cases h1; rfl
      · cases h1
theorem rB_cases (r : Row) : rB r = [] ∨ ∃ b, rB r = [(2, b)] := by cases r <;> simp [rB]
theorem iB_cases (k : Nat) (l : List Int) : iB k l = [] ∨ ∃ b, iB k l = [(k, b)] := by cases l <;> simp [iB]
theorem blkJ7 (n : Net7) (hes : n.es.length ≤ 100) (ls : List Int) (at' iv : Int) (B : Nat) :
    BlkOk Tryd.prog [] B 2 (loopG (.loop loop7j) (door7 (rM n.rw) (lM 5 ls) 2) (SJ7 n ls at' iv 0 7) (.normal, SJ7 n ls at' iv n.es.length 11)) := by
  refine loopG_ok (e := .exit 2) noNumP mixedP (fun d : Nat => SJ7 n ls at' iv d 7) (fun d => d ≤ n.es.length) (fun d => n.es.length - d) (K := 11) (by intro h; cases h) (Nat.zero_le _) (show (6 : Nat) ≤ 11 by decide) rfl rfl rfl ?_ (stepJ7 n hes ls at' iv B)
  intro id hid hn
  have h5 : id < 6 := hid
  simp only [door7, List.mem_cons, List.not_mem_nil, or_false] at hn
  have h3 : id = 1 ∨ id = 2 ∨ id = 3 ∨ id = 5 := by omega
  have gen : ∀ (ob ob' : List (Nat × ABlk)), (ob = [] ∨ ∃ b, ob = [(6, b)]) → (ob' = [] ∨ ∃ b, ob' = [(6, b)]) → ∀ lb, (lb = [] ∨ ∃ b, lb = [(5, b)]) → ∀ rb, (rb = [] ∨ ∃ b, rb = [(2, b)]) → (blkTree (blks7 n.es.length n.e1 (ints n.ps) (ecOf n.es) n.N (rb ++ lb ++ ob))).get id = (blkTree (blks7 n.es.length n.e1 (ints n.ps) (ecOf n.es) n.N (rb ++ lb ++ ob'))).get id := by
    intro ob ob' ho ho' lb hl rb hr
    rcases ho with rfl | ⟨b, rfl⟩ <;> rcases ho' with rfl | ⟨b', rfl⟩ <;> rcases hl with rfl | ⟨b2, rfl⟩ <;> rcases hr with rfl | ⟨b3, rfl⟩ <;> rcases h3 with rfl | rfl | rfl | rfl <;> rfl
  exact gen _ _ (iB_cases 6 _) (iB_cases 6 _) _ (iB_cases 5 ls) _ (rB_cases n.rw)

abbrev D7 := List Int × Int
def nxt7 (es : List E) (ps : List Int) (d : D7) : Option D7 :=
  if d.1.length < ps.length ∧ d.1.length < 20 then
    match outs es d.2 es.length, ps[d.1.length]? with
    | x :: l, some z => match (x :: l)[(modI z (l.length + 1 : Nat)).toNat]? with
      | some ej => match es[ej.toNat]? with
        | some e => some (d.1 ++ [ej], e.t)
        | none => none
      | none => none
    | _, _ => none
  else none
def runD7 (es : List E) (ps : List Int) : Nat → D7 → D7
  | 0, d => d
  | n + 1, d => match nxt7 es ps d with
    | some d' => runD7 es ps n d'
    | none => d
theorem runD7_none {es : List E} {ps : List Int} {d : D7} (h : nxt7 es ps d = none) : ∀ n, runD7 es ps n d = d
  | 0 => rfl
  | n + 1 => by unfold runD7; rw [h]
theorem runD7_some {es : List E} {ps : List Int} {d d' : D7} (h : nxt7 es ps d = some d') (n : Nat) : runD7 es ps (n + 1) d = runD7 es ps n d' := by
  show (match nxt7 es ps d with | some d' => runD7 es ps n d' | none => d) = _
  rw [h]
def SI7 (n : Net7) (d : D7) (nx : Nat) : St :=
  I7 n.ps.length n.es.length n.e1 (ints n.ps) (ecOf n.es) n.N n.fr n.tt n.at0 d.2 (d.1.length : Nat) (rV n.rw) (rB n.rw) (iV 5 d.1) (iB 5 d.1) nx
abbrev GoalO7 (n : Net7) (K : Nat) (DF : D7) (B : Nat) (d : D7) : Prop :=
  ∃ SP m s1, SpecsOk Tryd.prog [] B SP ∧ s1.M.next ≤ K ∧
      ((∃ nx mv keep d', aexec Tryd.prog [] SP m loop7 (SI7 n d 6) = some (.normal, s1) ∧ View 5 nx mv keep [0, 4] [4] s1 (SI7 n d' 6) ∧ (d'.1.length ≤ 20 ∧ runD7 n.es n.ps (20 - d'.1.length) d' = DF) ∧ 20 - d'.1.length < 20 - d.1.length) ∨
        (∃ mv keep, aexec Tryd.prog [] SP m loop7 (SI7 n d 6) = some (.exit 0, s1) ∧ View 5 K mv keep [0, 4] [4] s1 (SI7 n DF K)))

theorem step7 (n : Net7) (hes : n.es.length ≤ 100) {K : Nat} (hK : 16 ≤ K) (DF : D7) (B : Nat) (d : D7) (hd : d.1.length ≤ 20 ∧ runD7 n.es n.ps (20 - d.1.length) d = DF) : GoalO7 n K DF B d := by
  obtain ⟨ls, at'⟩ := d
  obtain ⟨hl, hr⟩ := hd
  let g := loopG (.loop loop7j) (door7 (rM n.rw) (lM 5 ls) 2) (SJ7 n ls at' (ls.length : Nat) 0 7) (.normal, SJ7 n ls at' (ls.length : Nat) n.es.length 11)
  have hS : SpecsOk Tryd.prog [] B (SP7 [(2, g)]) := specs7 (fun B p hp => by rw [List.mem_singleton.1 hp]; exact blkJ7 n hes ls at' _ B) B
  obtain ⟨N, e1, es, ps, fr, tt, at0, rw0⟩ := n
  simp only at hl hr hes
  have fin : ∀ {F : List Fact} {mv : Moves} {q : List QV} {r : List (List Value)}, nxt7 es ps (ls, at') = none → rnd7 (rM rw0) (lM 5 ls) g (SI7 ⟨N, e1, es, ps, fr, tt, at0, rw0⟩ (ls, at') 6) F 16 mv = some (.exit 0, some (SI7 ⟨N, e1, es, ps, fr, tt, at0, rw0⟩ (ls, at') 16), [ints ps, ecOf es, [i64 N, sl 3 es.length]] ++ r, true, q) →
      (∀ p ∈ q, p.holds Tryd.prog (SP7 [(2, g)]) (door7 (rM rw0) (lM 5 ls)) []) → toTgt (mv7 mv) 3 = some 3 → r.all flatL = true → GoalO7 ⟨N, e1, es, ps, fr, tt, at0, rw0⟩ K DF B (ls, at') := fun hn hs hq hm hrr => by
    unfold rnd7 at hs
    obtain ⟨s1, k1, k2, k3⟩ := round_of (doors := door7 (rM rw0) (lM 5 ls)) (ids := []) hs hq (still7 hm hrr)
    rw [runD7_none hn] at hr
    rw [hr] at k3
    exact ⟨_, 60, s1, hS, Nat.le_trans k1 hK, .inr ⟨_, _, k2, view_up hK k3⟩⟩
  have go1 : ∀ {F : List Fact} {mv : Moves} {q : List QV} {r : List (List Value)} {ls' : List Int} {t : Int} {lv : Value} {lb : List (Nat × ABlk)}, nxt7 es ps (ls, at') = some (ls', t) → rnd7 (rM rw0) (lM 5 ls) g (SI7 ⟨N, e1, es, ps, fr, tt, at0, rw0⟩ (ls, at') 6) F 6 mv = some (.normal, some (I7 ps.length es.length e1 (ints ps) (ecOf es) N fr tt at0 t (IntKind.wrap .i64 ((ls.length : Nat) + 1)) (rV rw0) (rB rw0) lv lb 6), [ints ps, ecOf es, [i64 N, sl 3 es.length]] ++ r, true, q) →
      (∀ p ∈ q, p.holds Tryd.prog (SP7 [(2, g)]) (door7 (rM rw0) (lM 5 ls)) []) → toTgt (mv7 mv) 3 = some 3 → r.all flatL = true → ls'.length = ls.length + 1 → ls.length < 20 → lv = iV 5 ls' → lb = iB 5 ls' → GoalO7 ⟨N, e1, es, ps, fr, tt, at0, rw0⟩ K DF B (ls, at') := fun hn hs hq hm hrr hl' hlt hlv hlb => by
    subst hlv; subst hlb
    unfold rnd7 at hs
    obtain ⟨s1, k1, k2, k3⟩ := round_of (doors := door7 (rM rw0) (lM 5 ls)) (ids := []) hs hq (still7 hm hrr)
    have hiv : IntKind.wrap .i64 (((ls.length : Nat) : Int) + 1) = ((ls.length + 1 : Nat) : Int) := by rw [IntWalk.i64_in _ (by omega)]; omega
    rw [hiv, ← hl'] at k3
    rename_i F mv q r ls' t
    refine ⟨_, 60, s1, hS, Nat.le_trans k1 hK, .inl ⟨6, _, _, (ls', t), k2, k3, ⟨by simp only; omega, ?_⟩, by simp only; omega⟩⟩
    rw [← hr, show 20 - ls.length = (20 - (ls.length + 1)) + 1 by omega, runD7_some hn]
    simp only [hl']
  have hbk : ∀ (t : St), t = SJ7 ⟨N, e1, es, ps, fr, tt, at0, rw0⟩ ls at' (ls.length : Nat) 0 7 → ∀ (sf : St), sf = SJ7 ⟨N, e1, es, ps, fr, tt, at0, rw0⟩ ls at' (ls.length : Nat) es.length 11 → ∀ r : List (List Value), r.all flatL = true → (QV.bk 2 (.loop loop7j) 6 [0, 4, 4] (some t) ([ints ps, ecOf es, [i64 N, sl 3 es.length]] ++ r) true .normal sf).holds Tryd.prog (SP7 [(2, g)]) (door7 (rM rw0) (lM 5 ls)) [] := fun t ht sf hsf r hrr => by
    subst ht; subst hsf
    exact ⟨_, rfl, rfl, rfl, rfl, still7 (by cases rw0 <;> cases ls <;> rfl) hrr, rfl⟩
  have hbk' : ∀ (t sf : St) (st : List (List Value)), t = SJ7 ⟨N, e1, es, ps, fr, tt, at0, rw0⟩ ls at' (ls.length : Nat) 0 7 → sf = SJ7 ⟨N, e1, es, ps, fr, tt, at0, rw0⟩ ls at' (ls.length : Nat) es.length 11 → ∀ r : List (List Value), st = [ints ps, ecOf es, [i64 N, sl 3 es.length]] ++ r → r.all flatL = true → (QV.bk 2 (.loop loop7j) 6 [0, 4, 4] (some t) st true .normal sf).holds Tryd.prog (SP7 [(2, g)]) (door7 (rM rw0) (lM 5 ls)) [] := fun t sf st ht hsf r hst hrr => by
    subst hst; exact hbk t ht sf hsf r hrr
  by_cases hnp : ls.length < ps.length
  · have q1 : (QV.b (decide (((ls.length : Nat) : Int) < (ps.length : Int))) (.val (.bool true))).holds Tryd.prog (SP7 [(2, g)]) (door7 (rM rw0) (lM 5 ls)) [] := qd (by omega)
    by_cases h20 : ls.length < 20
    · have q2 : (QV.b (decide (((ls.length : Nat) : Int) < 20)) (.val (.bool true))).holds Tryd.prog (SP7 [(2, g)]) (door7 (rM rw0) (lM 5 ls)) [] := qd (by omega)
      obtain ⟨z, hz⟩ : ∃ z, ps[ls.length]? = some z := ⟨ps[ls.length], List.getElem?_eq_getElem hnp⟩
      have q3 : (QV.ib ((ls.length : Nat) : Int) ps.length).holds Tryd.prog (SP7 [(2, g)]) (door7 (rM rw0) (lM 5 ls)) [] := qib (by omega)
      have q4 : (QV.ld 3 (0 + (((ls.length : Nat) : Int)).toNat * 1) (some (ro (ints ps) e1 1)) (.val (i64 z))).holds Tryd.prog (SP7 [(2, g)]) (door7 (rM rw0) (lM 5 ls)) [] := ldi (k := ls.length) hz
      have hob := outs_len es at' es.length
      cases ho : outs es at' es.length with
      | nil =>
        have hn : nxt7 es ps (ls, at') = none := by unfold nxt7; rw [if_pos ⟨hnp, h20⟩]; simp only [ho]
        have hsf : ∀ rv rb lv lb, rv = rV rw0 → rb = rB rw0 → lv = iV 5 ls → lb = iB 5 ls → J7 ps.length es.length e1 (ints ps) (ecOf es) N fr tt at0 at' (ls.length : Nat) rv rb lv lb (.slice none 0 0) [] (es.length : Nat) 11 = SJ7 ⟨N, e1, es, ps, fr, tt, at0, rw0⟩ ls at' (ls.length : Nat) es.length 11 := fun rv rb lv lb h1 h2 h3 h4 => by subst h1; subst h2; subst h3; subst h4; unfold SJ7; simp only; rw [ho]; rfl
        cases rw0 with
        | none =>
          cases ls with
          | nil =>
            exact fin (mv := [] ++ []) (r := _) hn (to_nnX ps.length es.length e1 (ints ps) (ecOf es) N fr tt at0 at' ((0 : Nat) : Int) (es.length : Nat) _) (by simp only [List.forall_mem_cons]; (repeat' apply And.intro) <;> first | exact q1 | exact q2 | exact q3 | exact q4 | exact hbk' _ _ _ rfl (hsf _ _ _ _ rfl rfl rfl rfl) ([] ++ []) rfl (by repeat' first | exact rfl | exact ints_flat _ | exact ints_snoc_flat _ _ | refine fl_c ?_ ?_) | (intro x hx; cases hx)) rfl (by repeat' first | exact rfl | exact ints_flat _ | exact ints_snoc_flat _ _ | refine fl_c ?_ ?_)
          | cons y ys =>
            exact fin (mv := [] ++ [(5, 5, true)]) (r := _) hn (to_nsX ps.length es.length (ys.length + 1) e1 (ints ps) (ecOf es) (ints (y :: ys)) N fr tt at0 at' ((ys.length + 1 : Nat) : Int) (es.length : Nat) _) (by simp only [List.forall_mem_cons]; (repeat' apply And.intro) <;> first | exact q1 | exact q2 | exact q3 | exact q4 | exact hbk' _ _ _ rfl (hsf _ _ _ _ rfl rfl rfl rfl) ([] ++ [ints (y :: ys)]) rfl (by repeat' first | exact rfl | exact ints_flat _ | exact ints_snoc_flat _ _ | refine fl_c ?_ ?_) | (intro x hx; cases hx)) rfl (by repeat' first | exact rfl | exact ints_flat _ | exact ints_snoc_flat _ _ | refine fl_c ?_ ?_)
        | some rw0 =>
          obtain ⟨e2, rs⟩ := rw0
          cases ls with
          | nil =>
            exact fin (mv := [(2, 2, true)] ++ []) (r := _) hn (to_snX ps.length es.length rs.length e1 e2 (ints ps) (ecOf es) (ints rs) N fr tt at0 at' ((0 : Nat) : Int) (es.length : Nat) _) (by simp only [List.forall_mem_cons]; (repeat' apply And.intro) <;> first | exact q1 | exact q2 | exact q3 | exact q4 | exact hbk' _ _ _ rfl (hsf _ _ _ _ rfl rfl rfl rfl) ([ints rs] ++ []) rfl (by repeat' first | exact rfl | exact ints_flat _ | exact ints_snoc_flat _ _ | refine fl_c ?_ ?_) | (intro x hx; cases hx)) rfl (by repeat' first | exact rfl | exact ints_flat _ | exact ints_snoc_flat _ _ | refine fl_c ?_ ?_)
          | cons y ys =>
            exact fin (mv := [(2, 2, true)] ++ [(5, 5, true)]) (r := _) hn (to_ssX ps.length es.length (ys.length + 1) rs.length e1 e2 (ints ps) (ecOf es) (ints (y :: ys)) (ints rs) N fr tt at0 at' ((ys.length + 1 : Nat) : Int) (es.length : Nat) _) (by simp only [List.forall_mem_cons]; (repeat' apply And.intro) <;> first | exact q1 | exact q2 | exact q3 | exact q4 | exact hbk' _ _ _ rfl (hsf _ _ _ _ rfl rfl rfl rfl) ([ints rs] ++ [ints (y :: ys)]) rfl (by repeat' first | exact rfl | exact ints_flat _ | exact ints_snoc_flat _ _ | refine fl_c ?_ ?_) | (intro x hx; cases hx)) rfl (by repeat' first | exact rfl | exact ints_flat _ | exact ints_snoc_flat _ _ | refine fl_c ?_ ?_)
      | cons x l =>
        rw [ho] at hob
        simp only [List.length_cons] at hob
        have hwr := modI_range (x := z) (n := ((l.length + 1 : Nat) : Int)) (by omega)
        obtain ⟨wn, hwn⟩ : ∃ wn : Nat, modI z ((l.length + 1 : Nat) : Int) = (wn : Int) := ⟨(modI z ((l.length + 1 : Nat) : Int)).toNat, by omega⟩
        rw [hwn] at hwr
        obtain ⟨ej, hej⟩ : ∃ ej, (x :: l)[wn]? = some ej := ⟨(x :: l)[wn]'(by simp only [List.length_cons]; omega), List.getElem?_eq_getElem (by simp only [List.length_cons]; omega)⟩
        obtain ⟨en, e, rfl, hen, hef⟩ := outs_mem (es := es) (a := at') (j := es.length) (x := ej) (by rw [ho]; exact List.mem_of_getElem? hej)
        have hel : en < es.length := by
          by_cases hh : en < es.length
          · exact hh
          · rw [List.getElem?_eq_none (by omega)] at hen; cases hen
        have hn : nxt7 es ps (ls, at') = some (ls ++ [(en : Int)], e.t) := by
          unfold nxt7
          rw [if_pos ⟨hnp, h20⟩]
          simp only [ho, hz, hwn, Int.toNat_natCast, hej, hen]
        have hsf : ∀ rv rb lv lb, rv = rV rw0 → rb = rB rw0 → lv = iV 5 ls → lb = iB 5 ls → J7 ps.length es.length e1 (ints ps) (ecOf es) N fr tt at0 at' (ls.length : Nat) rv rb lv lb (sl 6 (l.length + 1)) [(6, own (ints (x :: l)) 3 1)] (es.length : Nat) 11 = SJ7 ⟨N, e1, es, ps, fr, tt, at0, rw0⟩ ls at' (ls.length : Nat) es.length 11 := fun rv rb lv lb h1 h2 h3 h4 => by subst h1; subst h2; subst h3; subst h4; unfold SJ7; simp only; rw [ho]; rfl
        have q5 : (QV.b (((l.length + 1 : Nat) : Int) == 0) (.val (.bool false))).holds Tryd.prog (SP7 [(2, g)]) (door7 (rM rw0) (lM 5 ls)) [] := by
          simp only [QV.holds]
          rw [show (((l.length + 1 : Nat) : Int) == 0) = false from beq_eq_false_iff_ne.2 (by omega)]
        have q6 : (QV.cr 18 [i64 z, i64 ((l.length + 1 : Nat) : Int)] [] (.val (i64 (wn : Nat)))).holds Tryd.prog (SP7 [(2, g)]) (door7 (rM rw0) (lM 5 ls)) [] := fun M _ => call18 rfl z _ (by omega) (by omega) _ hwn M
        have q7 : (QV.ib (wn : Nat) (l.length + 1)).holds Tryd.prog (SP7 [(2, g)]) (door7 (rM rw0) (lM 5 ls)) [] := qib (by omega)
        have q8 : (QV.ld 3 (0 + ((wn : Nat) : Int).toNat * 1) (some (own (ints (x :: l)) 3 1)) (.val (i64 (en : Nat)))).holds Tryd.prog (SP7 [(2, g)]) (door7 (rM rw0) (lM 5 ls)) [] := ldi (k := wn) hej
        have q9 : (QV.ib (en : Nat) es.length).holds Tryd.prog (SP7 [(2, g)]) (door7 (rM rw0) (lM 5 ls)) [] := qib (by omega)
        have q10 : (QV.ld 3 (0 + ((en : Nat) : Int).toNat * 4 + 1) (some (own (ecOf es) 31 4)) (.val (i64 e.t))).holds Tryd.prog (SP7 [(2, g)]) (door7 (rM rw0) (lM 5 ls)) [] := ld3e (k := en) hen
        cases rw0 with
        | none =>
          cases ls with
          | nil =>
            exact go1 (mv := [] ++ [(5, 12, true)]) (r := _) hn (to_nnT ps.length es.length (l.length + 1) e1 (ints ps) (ecOf es) (ints (x :: l)) N fr tt at0 at' ((0 : Nat) : Int) (es.length : Nat) z (wn : Nat) (en : Nat) e.t _) (by simp only [List.forall_mem_cons]; (repeat' apply And.intro) <;> first | exact q1 | exact q2 | exact q3 | exact q4 | exact hbk' _ _ _ rfl (hsf _ _ _ _ rfl rfl rfl rfl) ([] ++ []) rfl (by repeat' first | exact rfl | exact ints_flat _ | exact ints_snoc_flat _ _ | refine fl_c ?_ ?_) | exact q5 | exact q6 | exact q7 | exact q8 | exact q9 | exact q10 | (intro x hx; cases hx)) rfl (by repeat' first | exact rfl | exact ints_flat _ | exact ints_snoc_flat _ _ | refine fl_c ?_ ?_) (by simp) h20 (by rfl) (by rfl)
          | cons y ys =>
            have hwx : IntKind.wrap .i64 ((((ys.length + 1) + 1 : Nat) : Int) - 1) = ((ys.length + 1 : Nat) : Int) := by simp only [List.length_cons] at h20; rw [IntWalk.i64_in _ (by omega)]; omega
            have h1 : (QV.ap [25, 25] (sl 5 (ys.length + 1)) (.slice (some ⟨11, 0, none⟩) 1 2) (ints (y :: ys)) (own (ints (y :: ys)) 3 1) [i64 (en : Nat)]).holds Tryd.prog (SP7 [(2, g)]) (door7 (rM none) (lM 5 (y :: ys))) [] := fun M r hM => by
              simp only [List.length_cons] at h20
              exact ap25 (ws := y :: ys) (nw := ys.length + 1) (n := 1) rfl (by decide) rfl (by omega) rfl rfl M r hM
            have h2 : (QV.ib (IntKind.wrap .i64 ((((ys.length + 1) + 1 : Nat) : Int) - 1)) ((ys.length + 1) + 1)).holds Tryd.prog (SP7 [(2, g)]) (door7 (rM none) (lM 5 (y :: ys))) [] := by rw [hwx]; exact qib (by omega)
            have h3 : (QV.ld 3 (0 + (IntKind.wrap .i64 ((((ys.length + 1) + 1 : Nat) : Int) - 1)).toNat * 1) (some (own (ints (y :: ys) ++ [i64 (en : Nat)]) 3 1)) (.val (i64 (en : Nat)))).holds Tryd.prog (SP7 [(2, g)]) (door7 (rM none) (lM 5 (y :: ys))) [] := by
              rw [hwx, show ints (y :: ys) ++ [i64 (en : Nat)] = ints ((y :: ys) ++ [((en : Nat) : Int)]) by simp [ints]]
              exact ldi (k := ys.length + 1) (by simp)
            exact go1 (mv := [] ++ [(5, 12, true)]) (r := _) hn (to_nsT ps.length es.length (l.length + 1) (ys.length + 1) e1 (ints ps) (ecOf es) (ints (y :: ys)) (ints (x :: l)) N fr tt at0 at' ((ys.length + 1 : Nat) : Int) (es.length : Nat) z (wn : Nat) (en : Nat) e.t _) (by simp only [List.forall_mem_cons]; (repeat' apply And.intro) <;> first | exact q1 | exact q2 | exact q3 | exact q4 | exact hbk' _ _ _ rfl (hsf _ _ _ _ rfl rfl rfl rfl) ([] ++ [ints (y :: ys)]) rfl (by repeat' first | exact rfl | exact ints_flat _ | exact ints_snoc_flat _ _ | refine fl_c ?_ ?_) | exact q5 | exact q6 | exact q7 | exact q8 | exact q9 | exact q10 | exact h1 | exact h2 | exact h3 | (intro x hx; cases hx)) rfl (by repeat' first | exact rfl | exact ints_flat _ | exact ints_snoc_flat _ _ | refine fl_c ?_ ?_) (by simp) h20 (by rw [iV_snoc]; rfl) (by rw [iB_snoc])
        | some rw0 =>
          obtain ⟨e2, rs⟩ := rw0
          cases ls with
          | nil =>
            exact go1 (mv := [(2, 2, true)] ++ [(5, 12, true)]) (r := _) hn (to_snT ps.length es.length (l.length + 1) rs.length e1 e2 (ints ps) (ecOf es) (ints rs) (ints (x :: l)) N fr tt at0 at' ((0 : Nat) : Int) (es.length : Nat) z (wn : Nat) (en : Nat) e.t _) (by simp only [List.forall_mem_cons]; (repeat' apply And.intro) <;> first | exact q1 | exact q2 | exact q3 | exact q4 | exact hbk' _ _ _ rfl (hsf _ _ _ _ rfl rfl rfl rfl) ([ints rs] ++ []) rfl (by repeat' first | exact rfl | exact ints_flat _ | exact ints_snoc_flat _ _ | refine fl_c ?_ ?_) | exact q5 | exact q6 | exact q7 | exact q8 | exact q9 | exact q10 | (intro x hx; cases hx)) rfl (by repeat' first | exact rfl | exact ints_flat _ | exact ints_snoc_flat _ _ | refine fl_c ?_ ?_) (by simp) h20 (by rfl) (by rfl)
          | cons y ys =>
            have hwx : IntKind.wrap .i64 ((((ys.length + 1) + 1 : Nat) : Int) - 1) = ((ys.length + 1 : Nat) : Int) := by simp only [List.length_cons] at h20; rw [IntWalk.i64_in _ (by omega)]; omega
            have h1 : (QV.ap [25, 25] (sl 5 (ys.length + 1)) (.slice (some ⟨11, 0, none⟩) 1 2) (ints (y :: ys)) (own (ints (y :: ys)) 3 1) [i64 (en : Nat)]).holds Tryd.prog (SP7 [(2, g)]) (door7 (rM (some (e2, rs))) (lM 5 (y :: ys))) [] := fun M r hM => by
              simp only [List.length_cons] at h20
              exact ap25 (ws := y :: ys) (nw := ys.length + 1) (n := 1) rfl (by decide) rfl (by omega) rfl rfl M r hM
            have h2 : (QV.ib (IntKind.wrap .i64 ((((ys.length + 1) + 1 : Nat) : Int) - 1)) ((ys.length + 1) + 1)).holds Tryd.prog (SP7 [(2, g)]) (door7 (rM (some (e2, rs))) (lM 5 (y :: ys))) [] := by rw [hwx]; exact qib (by omega)
            have h3 : (QV.ld 3 (0 + (IntKind.wrap .i64 ((((ys.length + 1) + 1 : Nat) : Int) - 1)).toNat * 1) (some (own (ints (y :: ys) ++ [i64 (en : Nat)]) 3 1)) (.val (i64 (en : Nat)))).holds Tryd.prog (SP7 [(2, g)]) (door7 (rM (some (e2, rs))) (lM 5 (y :: ys))) [] := by
              rw [hwx, show ints (y :: ys) ++ [i64 (en : Nat)] = ints ((y :: ys) ++ [((en : Nat) : Int)]) by simp [ints]]
              exact ldi (k := ys.length + 1) (by simp)
            exact go1 (mv := [(2, 2, true)] ++ [(5, 12, true)]) (r := _) hn (to_ssT ps.length es.length (l.length + 1) (ys.length + 1) rs.length e1 e2 (ints ps) (ecOf es) (ints (y :: ys)) (ints rs) (ints (x :: l)) N fr tt at0 at' ((ys.length + 1 : Nat) : Int) (es.length : Nat) z (wn : Nat) (en : Nat) e.t _) (by simp only [List.forall_mem_cons]; (repeat' apply And.intro) <;> first | exact q1 | exact q2 | exact q3 | exact q4 | exact hbk' _ _ _ rfl (hsf _ _ _ _ rfl rfl rfl rfl) ([ints rs] ++ [ints (y :: ys)]) rfl (by repeat' first | exact rfl | exact ints_flat _ | exact ints_snoc_flat _ _ | refine fl_c ?_ ?_) | exact q5 | exact q6 | exact q7 | exact q8 | exact q9 | exact q10 | exact h1 | exact h2 | exact h3 | (intro x hx; cases hx)) rfl (by repeat' first | exact rfl | exact ints_flat _ | exact ints_snoc_flat _ _ | refine fl_c ?_ ?_) (by simp) h20 (by rw [iV_snoc]; rfl) (by rw [iB_snoc])
    · have q2 : (QV.b (decide (((ls.length : Nat) : Int) < 20)) (.val (.bool false))).holds Tryd.prog (SP7 [(2, g)]) (door7 (rM rw0) (lM 5 ls)) [] := qdn (by omega)
      have hn : nxt7 es ps (ls, at') = none := by unfold nxt7; rw [if_neg (fun h => h20 h.2)]
      cases rw0 with
      | none =>
        cases ls with
        | nil =>
          exact fin (mv := [] ++ []) (r := _) hn (to_nnG ps.length es.length e1 (ints ps) (ecOf es) N fr tt at0 at' ((0 : Nat) : Int) _) (by simp only [List.forall_mem_cons]; (repeat' apply And.intro) <;> first | exact q1 | exact q2 | (intro x hx; cases hx)) rfl (by repeat' first | exact rfl | exact ints_flat _ | exact ints_snoc_flat _ _ | refine fl_c ?_ ?_)
        | cons y ys =>
          exact fin (mv := [] ++ [(5, 5, true)]) (r := _) hn (to_nsG ps.length es.length (ys.length + 1) e1 (ints ps) (ecOf es) (ints (y :: ys)) N fr tt at0 at' ((ys.length + 1 : Nat) : Int) _) (by simp only [List.forall_mem_cons]; (repeat' apply And.intro) <;> first | exact q1 | exact q2 | (intro x hx; cases hx)) rfl (by repeat' first | exact rfl | exact ints_flat _ | exact ints_snoc_flat _ _ | refine fl_c ?_ ?_)
      | some rw0 =>
        obtain ⟨e2, rs⟩ := rw0
        cases ls with
        | nil =>
          exact fin (mv := [(2, 2, true)] ++ []) (r := _) hn (to_snG ps.length es.length rs.length e1 e2 (ints ps) (ecOf es) (ints rs) N fr tt at0 at' ((0 : Nat) : Int) _) (by simp only [List.forall_mem_cons]; (repeat' apply And.intro) <;> first | exact q1 | exact q2 | (intro x hx; cases hx)) rfl (by repeat' first | exact rfl | exact ints_flat _ | exact ints_snoc_flat _ _ | refine fl_c ?_ ?_)
        | cons y ys =>
          exact fin (mv := [(2, 2, true)] ++ [(5, 5, true)]) (r := _) hn (to_ssG ps.length es.length (ys.length + 1) rs.length e1 e2 (ints ps) (ecOf es) (ints (y :: ys)) (ints rs) N fr tt at0 at' ((ys.length + 1 : Nat) : Int) _) (by simp only [List.forall_mem_cons]; (repeat' apply And.intro) <;> first | exact q1 | exact q2 | (intro x hx; cases hx)) rfl (by repeat' first | exact rfl | exact ints_flat _ | exact ints_snoc_flat _ _ | refine fl_c ?_ ?_)
  · have q1 : (QV.b (decide (((ls.length : Nat) : Int) < (ps.length : Int))) (.val (.bool false))).holds Tryd.prog (SP7 [(2, g)]) (door7 (rM rw0) (lM 5 ls)) [] := qdn (by omega)
    have hn : nxt7 es ps (ls, at') = none := by unfold nxt7; rw [if_neg (fun h => hnp h.1)]
    cases rw0 with
    | none =>
      cases ls with
      | nil =>
        exact fin (mv := [] ++ []) (r := _) hn (to_nnE ps.length es.length e1 (ints ps) (ecOf es) N fr tt at0 at' ((0 : Nat) : Int) _) (by simp only [List.forall_mem_cons]; (repeat' apply And.intro) <;> first | exact q1 | exact q2 | (intro x hx; cases hx)) rfl (by repeat' first | exact rfl | exact ints_flat _ | exact ints_snoc_flat _ _ | refine fl_c ?_ ?_)
      | cons y ys =>
        exact fin (mv := [] ++ [(5, 5, true)]) (r := _) hn (to_nsE ps.length es.length (ys.length + 1) e1 (ints ps) (ecOf es) (ints (y :: ys)) N fr tt at0 at' ((ys.length + 1 : Nat) : Int) _) (by simp only [List.forall_mem_cons]; (repeat' apply And.intro) <;> first | exact q1 | exact q2 | (intro x hx; cases hx)) rfl (by repeat' first | exact rfl | exact ints_flat _ | exact ints_snoc_flat _ _ | refine fl_c ?_ ?_)
    | some rw0 =>
      obtain ⟨e2, rs⟩ := rw0
      cases ls with
      | nil =>
        exact fin (mv := [(2, 2, true)] ++ []) (r := _) hn (to_snE ps.length es.length rs.length e1 e2 (ints ps) (ecOf es) (ints rs) N fr tt at0 at' ((0 : Nat) : Int) _) (by simp only [List.forall_mem_cons]; (repeat' apply And.intro) <;> first | exact q1 | exact q2 | (intro x hx; cases hx)) rfl (by repeat' first | exact rfl | exact ints_flat _ | exact ints_snoc_flat _ _ | refine fl_c ?_ ?_)
      | cons y ys =>
        exact fin (mv := [(2, 2, true)] ++ [(5, 5, true)]) (r := _) hn (to_ssE ps.length es.length (ys.length + 1) rs.length e1 e2 (ints ps) (ecOf es) (ints (y :: ys)) (ints rs) N fr tt at0 at' ((ys.length + 1 : Nat) : Int) _) (by simp only [List.forall_mem_cons]; (repeat' apply And.intro) <;> first | exact q1 | exact q2 | (intro x hx; cases hx)) rfl (by repeat' first | exact rfl | exact ints_flat _ | exact ints_snoc_flat _ _ | refine fl_c ?_ ?_)

theorem blk7 (n : Net7) (hes : n.es.length ≤ 100) {K : Nat} (hK : 16 ≤ K) (B : Nat) :
    BlkOk Tryd.prog [] B 0 (loopG (.loop loop7) (door7 (rM n.rw) [] 0) (SI7 n ([], n.at0) 6) (.normal, SI7 n (runD7 n.es n.ps 20 ([], n.at0)) K)) := by
  refine loopG_ok (e := .exit 0) noNumP mixedP (fun d : D7 => SI7 n d 6) (fun d => d.1.length ≤ 20 ∧ runD7 n.es n.ps (20 - d.1.length) d = runD7 n.es n.ps 20 ([], n.at0)) (fun d => 20 - d.1.length) (K := K) (by intro h; cases h) ⟨Nat.zero_le _, rfl⟩ (show (5 : Nat) ≤ K by omega) rfl rfl rfl ?_ (step7 n hes hK _ B)
  intro id hid hn
  have h5 : id < 5 := hid
  simp only [door7, List.mem_cons, List.not_mem_nil, or_false] at hn
  have h3 : id = 1 ∨ id = 2 ∨ id = 3 := by omega
  have gen : ∀ lb, (lb = [] ∨ ∃ b, lb = [(5, b)]) → ∀ rb, (rb = [] ∨ ∃ b, rb = [(2, b)]) → (blkTree (blks7 n.es.length n.e1 (ints n.ps) (ecOf n.es) n.N (rb ++ lb))).get id = (blkTree (blks7 n.es.length n.e1 (ints n.ps) (ecOf n.es) n.N (rb ++ []))).get id := by
    intro lb hl rb hr
    rcases hl with rfl | ⟨b2, rfl⟩ <;> rcases hr with rfl | ⟨b3, rfl⟩ <;> rcases h3 with rfl | rfl | rfl <;> rfl
  exact gen _ (iB_cases 5 _) _ (rB_cases n.rw)
end Go.Proofs.YtlmifmodnkhidaaDoor
