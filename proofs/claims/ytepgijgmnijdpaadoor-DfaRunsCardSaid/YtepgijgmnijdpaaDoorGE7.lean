/-
  DfaRuns: where any state comes to by any word, whether a word is taken, are the document's
-/
import Derived.Test.YtepgijgmnijdpaaDoorGE1
import Derived.Test.YtepgijgmnijdpaaDoorGD3
open Go Go.Am Go.Proofs
namespace Go.Proofs.YtepgijgmnijdpaaDoor
set_option maxRecDepth 100000
theorem flat_nil {M : Mem} : FlatAt 1 M (.slice none ([] : List Int).length 0) (([] : List Int).map ([·])) := ⟨.inl ⟨_, rfl, rfl⟩, (fun r hr => by cases hr), by simp⟩
end Go.Proofs.YtepgijgmnijdpaaDoor

open Go Go.Am Go.Proofs
namespace Go.Proofs.YtepgijgmnijdpaaDoor
set_option maxRecDepth 100000
theorem dC26 : (Tryd.prog.underlying 26).map isAggD = some false := by kernel_rfl
set_option maxHeartbeats 4000000
theorem rK4 : Tryd.f4.results = #[.tmp 12] := by kernel_rfl
abbrev Rr (x : Int) (ns : List Int) (y : Int) : List (List Int) := rowsI (nOf x) ns y (nN x)
abbrev Aa (x y : Int) : List Bool := accsI y (nN x)
abbrev Ww (ws : List Int) : List Int := wordI 4 (ws.take 12)
theorem hS4_12 (B : Bd) : ∀ p ∈ ([(12, pick (Con Tryd.prog [0] 12 (Fl g12)))] : List (FuncId × (List Value → Mem → Option (Value × Mem)))), SpecOk Tryd.prog [0] B p.1 p.2 := (fun p hp => by simp only [List.mem_cons, List.not_mem_nil, or_false] at hp; rcases hp with rfl <;> first | exact Con.ok _ | exact SpecOk.gl (Con.ok _))
theorem w4_0_raw (x : Int) (a : Option Addr) (c : Nat) (ns : List Int) (y from_ : Int) (aw : Option Addr) (cw : Nat) (ws : List Int) (ra : Option Addr) (rc : Nat) (raw : List Int) (_ : TypeId) (M : Mem) (M3 : Mem) : oTg Tryd.prog [0] [] 60 Tryd.f4 q4 [i64 x, (.slice a ns.length c), i64 y, i64 from_, (.slice aw ws.length cw), (.slice ra raw.length rc)] M [ttV 3 (.bool true) M3, ttT 10, ttT 13] 12 = some (.ret, some (.bool true), M3, [qC 12 [] M (.bool true) M3, .ln ra raw.length rc, qT (decide ((((raw.length : Nat) : Int)) > (30 : Int)))]) := by kernel_rfl
theorem w4_0 (x : Int) (a : Option Addr) (c : Nat) (ns : List Int) (y from_ : Int) (aw : Option Addr) (cw : Nat) (ws : List Int) (ra : Option Addr) (rc : Nat) (raw : List Int) (e : TypeId) {M : Mem} (hM : MemOk M) (hT : M.get 0 = some (tabB e)) (_ : FlatAt 1 M (.slice a ns.length c) (ns.map ([·]))) (_ : FlatAt 1 M (.slice aw ws.length cw) (ws.map ([·]))) (hrw : FlatAt 1 M (.slice ra raw.length rc) (raw.map ([·]))) (_ : (Ww ws).length ≤ 1000) (_ : 1 ≤ nN x ∧ nN x ≤ 9) (cc0 : (decide ((((raw.length : Nat) : Int)) > (30 : Int))) = true) : ∃ M', Ev Tryd.prog [0] 4 [i64 x, (.slice a ns.length c), i64 y, i64 from_, (.slice aw ws.length cw), (.slice ra raw.length rc)] M (.bool true) M' := by
  obtain ⟨w1, N2, M3, p4, l5, e6, E7, hM8, Q9, G10⟩ := call_t (P := Tryd.prog) (GL := [0]) (f := 12) hM (con12c (((Ext.refl M)).old hT))
  have ew1 : w1 = .bool true := (Option.some.inj Q9).symm
  subst ew1
  have X11 := (Ext.refl M).trans E7
  have hraw := w4_0_raw x a c ns y from_ aw cw ws ra rc raw e M M3
  have hE := Ev.told_tmp noNumP mixedP Tryd.func4 q4_ok (by kernel_rfl) rK4 (fun B => specsB_ok (k := []) (hS4_12 B) (fun p hp => by cases hp)) (fun _ _ => rfl) hraw (hk (q_call rfl p4 l5 e6) (hk (lN hrw.ln) (hk (bT cc0) hn)))
  exact ⟨_, hE⟩
theorem hS4_12_14_17_18_19_20_21_22 (B : Bd) : ∀ p ∈ ([(12, pick (Con Tryd.prog [0] 12 (Fl g12))), (14, pick (Con Tryd.prog [0] 14 Qmk)), (17, pick (Con Tryd.prog [0] 17 Q17)), (18, pick (Con Tryd.prog [0] 18 Qword)), (19, pick (Con Tryd.prog [0] 19 Qgo)), (20, pick (Con Tryd.prog [0] 20 Qgo)), (21, pick (Con Tryd.prog [0] 21 Qrun)), (22, pick (Con Tryd.prog [0] 22 Qrun))] : List (FuncId × (List Value → Mem → Option (Value × Mem)))), SpecOk Tryd.prog [0] B p.1 p.2 := (fun p hp => by simp only [List.mem_cons, List.not_mem_nil, or_false] at hp; rcases hp with rfl | rfl | rfl | rfl | rfl | rfl | rfl | rfl <;> first | exact Con.ok _ | exact SpecOk.gl (Con.ok _))
theorem w4_1_raw (x : Int) (a : Option Addr) (c : Nat) (ns : List Int) (y from_ : Int) (aw : Option Addr) (cw : Nat) (ws : List Int) (ra : Option Addr) (rc : Nat) (raw : List Int) (_ : TypeId) (M : Mem) (M3 : Mem) (M15 : Mem) (y12s : Nat) (y12f : Nat) (b24 : Nat) (M25 : Mem) (M34 : Mem) (M46 : Mem) (w43a : Option Addr) (w43c : Nat) (b58 : Nat) (M59 : Mem) (M82 : Mem) (b97 : Nat) (M98 : Mem) (M134 : Mem) (M153 : Mem) (M194 : Mem) (M213 : Mem) (M254 : Mem) (M273 : Mem) (M314 : Mem) (M333 : Mem) (M374 : Mem) (M393 : Mem) (M434 : Mem) (M453 : Mem) (M494 : Mem) (M513 : Mem) (M554 : Mem) (M573 : Mem) (M614 : Mem) (M633 : Mem) (M674 : Mem) (M693 : Mem) (M734 : Mem) (M753 : Mem) (M794 : Mem) (M813 : Mem) (M854 : Mem) (M873 : Mem) (M914 : Mem) (M933 : Mem) (M974 : Mem) (M993 : Mem) (M1034 : Mem) (M1053 : Mem) (M1094 : Mem) (M1113 : Mem) (M1154 : Mem) (M1173 : Mem) : oTg Tryd.prog [0] [] 60 Tryd.f4 q4 [i64 x, (.slice a ns.length c), i64 y, i64 from_, (.slice aw ws.length cw), (.slice ra raw.length rc)] M [ttV 3 (.bool true) M3, ttT 10, ttF 13, ttV 21 (.agg ⟨[(sli y12s 0 (nN x) (nN x)), (sli y12f 0 (nN x) (nN x))]⟩) M15, ttV 23 (pt b24 0) M25, ttS 25 M34, ttV 29 (.slice w43a (Ww ws).length w43c) M46, ttV 33 (sli b58 0 3 4) M59, ttL 41 (sli y12s 0 (nN x) (nN x)), ttV 45 (i64 (modI from_ (((nN x : Nat) : Int)))) M82, ttL 51 (sli y12s 0 (nN x) (nN x)), ttV 55 (sli b97 0 5 6) M98, ttL 77 (.agg ⟨[(sli y12s 0 (nN x) (nN x)), (sli y12f 0 (nN x) (nN x))]⟩), ttL 85 (i64 (modI from_ (((nN x : Nat) : Int)))), ttL 93 (.slice w43a (Ww ws).length w43c), ttV 95 (i64 (goF (Rr x ns y) (modI from_ (((nN x : Nat) : Int))) (Ww ws))) M134, ttL 97 (.agg ⟨[(sli y12s 0 (nN x) (nN x)), (sli y12f 0 (nN x) (nN x))]⟩), ttL 105 (i64 (modI from_ (((nN x : Nat) : Int)))), ttL 113 (.slice w43a (Ww ws).length w43c), ttV 115 (i64 (goF (Rr x ns y) (modI from_ (((nN x : Nat) : Int))) (Ww ws))) M153, ttF 118, ttL 135 (.agg ⟨[(sli y12s 0 (nN x) (nN x)), (sli y12f 0 (nN x) (nN x))]⟩), ttL 143 (i64 from_), ttL 151 (.slice w43a (Ww ws).length w43c), ttV 153 (i64 (goF (Rr x ns y) from_ (Ww ws))) M194, ttL 155 (.agg ⟨[(sli y12s 0 (nN x) (nN x)), (sli y12f 0 (nN x) (nN x))]⟩), ttL 163 (i64 from_), ttL 171 (.slice w43a (Ww ws).length w43c), ttV 173 (i64 (goF (Rr x ns y) from_ (Ww ws))) M213, ttF 176, ttL 193 (.agg ⟨[(sli y12s 0 (nN x) (nN x)), (sli y12f 0 (nN x) (nN x))]⟩), ttL 201 (i64 0), ttL 209 (.slice w43a (Ww ws).length w43c), ttV 211 (i64 (goF (Rr x ns y) 0 (Ww ws))) M254, ttL 213 (.agg ⟨[(sli y12s 0 (nN x) (nN x)), (sli y12f 0 (nN x) (nN x))]⟩), ttL 221 (i64 0), ttL 229 (.slice w43a (Ww ws).length w43c), ttV 231 (i64 (goF (Rr x ns y) 0 (Ww ws))) M273, ttF 234, ttL 251 (.agg ⟨[(sli y12s 0 (nN x) (nN x)), (sli y12f 0 (nN x) (nN x))]⟩), ttL 259 (i64 (-1)), ttL 267 (.slice w43a (Ww ws).length w43c), ttV 269 (i64 (goF (Rr x ns y) (-1) (Ww ws))) M314, ttL 271 (.agg ⟨[(sli y12s 0 (nN x) (nN x)), (sli y12f 0 (nN x) (nN x))]⟩), ttL 279 (i64 (-1)), ttL 287 (.slice w43a (Ww ws).length w43c), ttV 289 (i64 (goF (Rr x ns y) (-1) (Ww ws))) M333, ttF 292, ttL 309 (.agg ⟨[(sli y12s 0 (nN x) (nN x)), (sli y12f 0 (nN x) (nN x))]⟩), ttL 317 (i64 (((nN x : Nat) : Int))), ttL 325 (.slice w43a (Ww ws).length w43c), ttV 327 (i64 (goF (Rr x ns y) (((nN x : Nat) : Int)) (Ww ws))) M374, ttL 329 (.agg ⟨[(sli y12s 0 (nN x) (nN x)), (sli y12f 0 (nN x) (nN x))]⟩), ttL 337 (i64 (((nN x : Nat) : Int))), ttL 345 (.slice w43a (Ww ws).length w43c), ttV 347 (i64 (goF (Rr x ns y) (((nN x : Nat) : Int)) (Ww ws))) M393, ttF 350, ttL 367 (.agg ⟨[(sli y12s 0 (nN x) (nN x)), (sli y12f 0 (nN x) (nN x))]⟩), ttL 375 (.slice w43a (Ww ws).length w43c), ttV 377 (.bool (runF (Rr x ns y) (Aa x y) (Ww ws))) M434, ttL 379 (.agg ⟨[(sli y12s 0 (nN x) (nN x)), (sli y12f 0 (nN x) (nN x))]⟩), ttL 387 (.slice w43a (Ww ws).length w43c), ttV 389 (.bool (runF (Rr x ns y) (Aa x y) (Ww ws))) M453, ttF 392, ttL 416 (.agg ⟨[(sli y12s 0 (nN x) (nN x)), (sli y12f 0 (nN x) (nN x))]⟩), ttL 424 (i64 (modI from_ (((nN x : Nat) : Int)))), ttL 432 (.slice ra raw.length rc), ttV 434 (i64 (goF (Rr x ns y) (modI from_ (((nN x : Nat) : Int))) raw)) M494, ttL 436 (.agg ⟨[(sli y12s 0 (nN x) (nN x)), (sli y12f 0 (nN x) (nN x))]⟩), ttL 444 (i64 (modI from_ (((nN x : Nat) : Int)))), ttL 452 (.slice ra raw.length rc), ttV 454 (i64 (goF (Rr x ns y) (modI from_ (((nN x : Nat) : Int))) raw)) M513, ttF 457, ttL 474 (.agg ⟨[(sli y12s 0 (nN x) (nN x)), (sli y12f 0 (nN x) (nN x))]⟩), ttL 482 (i64 from_), ttL 490 (.slice ra raw.length rc), ttV 492 (i64 (goF (Rr x ns y) from_ raw)) M554, ttL 494 (.agg ⟨[(sli y12s 0 (nN x) (nN x)), (sli y12f 0 (nN x) (nN x))]⟩), ttL 502 (i64 from_), ttL 510 (.slice ra raw.length rc), ttV 512 (i64 (goF (Rr x ns y) from_ raw)) M573, ttF 515, ttL 532 (.agg ⟨[(sli y12s 0 (nN x) (nN x)), (sli y12f 0 (nN x) (nN x))]⟩), ttL 540 (i64 0), ttL 548 (.slice ra raw.length rc), ttV 550 (i64 (goF (Rr x ns y) 0 raw)) M614, ttL 552 (.agg ⟨[(sli y12s 0 (nN x) (nN x)), (sli y12f 0 (nN x) (nN x))]⟩), ttL 560 (i64 0), ttL 568 (.slice ra raw.length rc), ttV 570 (i64 (goF (Rr x ns y) 0 raw)) M633, ttF 573, ttL 590 (.agg ⟨[(sli y12s 0 (nN x) (nN x)), (sli y12f 0 (nN x) (nN x))]⟩), ttL 598 (i64 (-1)), ttL 606 (.slice ra raw.length rc), ttV 608 (i64 (goF (Rr x ns y) (-1) raw)) M674, ttL 610 (.agg ⟨[(sli y12s 0 (nN x) (nN x)), (sli y12f 0 (nN x) (nN x))]⟩), ttL 618 (i64 (-1)), ttL 626 (.slice ra raw.length rc), ttV 628 (i64 (goF (Rr x ns y) (-1) raw)) M693, ttF 631, ttL 648 (.agg ⟨[(sli y12s 0 (nN x) (nN x)), (sli y12f 0 (nN x) (nN x))]⟩), ttL 656 (i64 (((nN x : Nat) : Int))), ttL 664 (.slice ra raw.length rc), ttV 666 (i64 (goF (Rr x ns y) (((nN x : Nat) : Int)) raw)) M734, ttL 668 (.agg ⟨[(sli y12s 0 (nN x) (nN x)), (sli y12f 0 (nN x) (nN x))]⟩), ttL 676 (i64 (((nN x : Nat) : Int))), ttL 684 (.slice ra raw.length rc), ttV 686 (i64 (goF (Rr x ns y) (((nN x : Nat) : Int)) raw)) M753, ttF 689, ttL 706 (.agg ⟨[(sli y12s 0 (nN x) (nN x)), (sli y12f 0 (nN x) (nN x))]⟩), ttL 714 (.slice ra raw.length rc), ttV 716 (.bool (runF (Rr x ns y) (Aa x y) raw)) M794, ttL 718 (.agg ⟨[(sli y12s 0 (nN x) (nN x)), (sli y12f 0 (nN x) (nN x))]⟩), ttL 726 (.slice ra raw.length rc), ttV 728 (.bool (runF (Rr x ns y) (Aa x y) raw)) M813, ttF 731, ttL 755 (.agg ⟨[(sli y12s 0 (nN x) (nN x)), (sli y12f 0 (nN x) (nN x))]⟩), ttL 763 (i64 (modI from_ (((nN x : Nat) : Int)))), ttL 771 sln, ttV 773 (i64 (goF (Rr x ns y) (modI from_ (((nN x : Nat) : Int))) [])) M854, ttL 775 (.agg ⟨[(sli y12s 0 (nN x) (nN x)), (sli y12f 0 (nN x) (nN x))]⟩), ttL 783 (i64 (modI from_ (((nN x : Nat) : Int)))), ttL 791 sln, ttV 793 (i64 (goF (Rr x ns y) (modI from_ (((nN x : Nat) : Int))) [])) M873, ttF 796, ttL 813 (.agg ⟨[(sli y12s 0 (nN x) (nN x)), (sli y12f 0 (nN x) (nN x))]⟩), ttL 821 (i64 from_), ttL 829 sln, ttV 831 (i64 (goF (Rr x ns y) from_ [])) M914, ttL 833 (.agg ⟨[(sli y12s 0 (nN x) (nN x)), (sli y12f 0 (nN x) (nN x))]⟩), ttL 841 (i64 from_), ttL 849 sln, ttV 851 (i64 (goF (Rr x ns y) from_ [])) M933, ttF 854, ttL 871 (.agg ⟨[(sli y12s 0 (nN x) (nN x)), (sli y12f 0 (nN x) (nN x))]⟩), ttL 879 (i64 0), ttL 887 sln, ttV 889 (i64 (goF (Rr x ns y) 0 [])) M974, ttL 891 (.agg ⟨[(sli y12s 0 (nN x) (nN x)), (sli y12f 0 (nN x) (nN x))]⟩), ttL 899 (i64 0), ttL 907 sln, ttV 909 (i64 (goF (Rr x ns y) 0 [])) M993, ttF 912, ttL 929 (.agg ⟨[(sli y12s 0 (nN x) (nN x)), (sli y12f 0 (nN x) (nN x))]⟩), ttL 937 (i64 (-1)), ttL 945 sln, ttV 947 (i64 (goF (Rr x ns y) (-1) [])) M1034, ttL 949 (.agg ⟨[(sli y12s 0 (nN x) (nN x)), (sli y12f 0 (nN x) (nN x))]⟩), ttL 957 (i64 (-1)), ttL 965 sln, ttV 967 (i64 (goF (Rr x ns y) (-1) [])) M1053, ttF 970, ttL 987 (.agg ⟨[(sli y12s 0 (nN x) (nN x)), (sli y12f 0 (nN x) (nN x))]⟩), ttL 995 (i64 (((nN x : Nat) : Int))), ttL 1003 sln, ttV 1005 (i64 (goF (Rr x ns y) (((nN x : Nat) : Int)) [])) M1094, ttL 1007 (.agg ⟨[(sli y12s 0 (nN x) (nN x)), (sli y12f 0 (nN x) (nN x))]⟩), ttL 1015 (i64 (((nN x : Nat) : Int))), ttL 1023 sln, ttV 1025 (i64 (goF (Rr x ns y) (((nN x : Nat) : Int)) [])) M1113, ttF 1028, ttL 1045 (.agg ⟨[(sli y12s 0 (nN x) (nN x)), (sli y12f 0 (nN x) (nN x))]⟩), ttL 1053 sln, ttV 1055 (.bool (runF (Rr x ns y) (Aa x y) [])) M1154, ttL 1057 (.agg ⟨[(sli y12s 0 (nN x) (nN x)), (sli y12f 0 (nN x) (nN x))]⟩), ttL 1065 sln, ttV 1067 (.bool (runF (Rr x ns y) (Aa x y) [])) M1173, ttF 1070] 12 = some (.ret, some (.bool true), (Mem.mk M1173.blks M1173.next M59.hide (M1173.log ++ (M1113.log ++ (M1053.log ++ (M993.log ++ (M933.log ++ (M873.log ++ (M813.log ++ (M753.log ++ (M693.log ++ (M633.log ++ (M573.log ++ (M513.log ++ (M453.log ++ (M393.log ++ (M333.log ++ (M273.log ++ (M213.log ++ (M153.log ++ (M98.log ++ M59.log)))))))))))))))))))), [qC 12 [] M (.bool true) M3, .ln ra raw.length rc, qF (decide ((((raw.length : Nat) : Int)) > (30 : Int))), qC 14 [(i64 x), (.slice a ns.length c), (i64 y)] M3 (.agg ⟨[(sli y12s 0 (nN x) (nN x)), (sli y12f 0 (nN x) (nN x))]⟩) M15, .eq (aalloc Tryd.prog 25 M15) (1, .val (pt b24 0), M25), qS 25 b24 0 (.agg ⟨[(sli y12s 0 (nN x) (nN x)), (sli y12f 0 (nN x) (nN x))]⟩) M25 M34, qC 18 [(.slice aw ws.length cw), (i64 12), (i64 4)] M34 (.slice w43a (Ww ws).length w43c) M46, .eq (abuildSlice Tryd.prog 34 3 [(0, (.slice w43a (Ww ws).length w43c)), (1, (.slice ra raw.length rc)), (2, sln)] M46) (1, .val (sli b58 0 3 4), M59), qL 22 b24 0 (Mem.mk M59.blks M59.next M59.hide []) (sli y12s 0 (nN x) (nN x)), qC 17 [(i64 from_), (i64 (((nN x : Nat) : Int)))] (Mem.mk M59.blks M59.next M59.hide []) (i64 (modI from_ (((nN x : Nat) : Int)))) M82, qL 22 b24 0 (Mem.mk M82.blks M82.next (hides 64 [⟨4, 1, M59.next, M82.next⟩, ⟨2, 1, M59.next, M59.next⟩] ++ M59.hide) M82.log) (sli y12s 0 (nN x) (nN x)), qT (Nat.blt b24 M59.next), .eq (abuildSlice Tryd.prog 26 5 [(0, (i64 (modI from_ (((nN x : Nat) : Int))))), (1, (i64 from_)), (2, (i64 0)), (3, (i64 (-1))), (4, (i64 (((nN x : Nat) : Int))))] (Mem.mk M82.blks M82.next M59.hide M82.log)) (1, .val (sli b97 0 5 6), M98), qT (apartN [b24] M98.log), qL 25 b24 0 (Mem.mk M98.blks M98.next M59.hide []) (.agg ⟨[(sli y12s 0 (nN x) (nN x)), (sli y12f 0 (nN x) (nN x))]⟩), qL 3 b97 0 (Mem.mk M98.blks M98.next (hides 14 [⟨0, 1, M98.next, M98.next⟩] ++ M59.hide) []) (i64 (modI from_ (((nN x : Nat) : Int)))), qL 26 b58 0 (Mem.mk M98.blks M98.next (hides 224 [⟨4, 1, M98.next, M98.next⟩, ⟨0, 1, M98.next, M98.next⟩] ++ M59.hide) []) (.slice w43a (Ww ws).length w43c), qC 19 [(.agg ⟨[(sli y12s 0 (nN x) (nN x)), (sli y12f 0 (nN x) (nN x))]⟩), (i64 (modI from_ (((nN x : Nat) : Int)))), (.slice w43a (Ww ws).length w43c)] (Mem.mk M98.blks M98.next M59.hide []) (i64 (goF (Rr x ns y) (modI from_ (((nN x : Nat) : Int))) (Ww ws))) M134, qL 25 b24 0 (Mem.mk M134.blks M134.next (hides 0 [⟨9, 1, M98.next, M134.next⟩, ⟨8, 1, M98.next, M98.next⟩, ⟨4, 1, M98.next, M98.next⟩, ⟨0, 1, M98.next, M98.next⟩] ++ M59.hide) M134.log) (.agg ⟨[(sli y12s 0 (nN x) (nN x)), (sli y12f 0 (nN x) (nN x))]⟩), qT (Nat.blt b24 M98.next), qL 3 b97 0 (Mem.mk M134.blks M134.next (hides 14336 [⟨9, 1, M98.next, M134.next⟩, ⟨8, 1, M98.next, M98.next⟩, ⟨4, 1, M98.next, M98.next⟩, ⟨0, 1, M98.next, M98.next⟩] ++ M59.hide) M134.log) (i64 (modI from_ (((nN x : Nat) : Int)))), qT (Nat.blt b97 M98.next), qL 26 b58 0 (Mem.mk M134.blks M134.next (hides 229376 [⟨9, 1, M98.next, M134.next⟩, ⟨8, 1, M98.next, M98.next⟩, ⟨4, 1, M98.next, M98.next⟩, ⟨0, 1, M98.next, M98.next⟩] ++ M59.hide) M134.log) (.slice w43a (Ww ws).length w43c), qT (Nat.blt b58 M98.next), qC 20 [(.agg ⟨[(sli y12s 0 (nN x) (nN x)), (sli y12f 0 (nN x) (nN x))]⟩), (i64 (modI from_ (((nN x : Nat) : Int)))), (.slice w43a (Ww ws).length w43c)] (Mem.mk M134.blks M134.next M59.hide M134.log) (i64 (goF (Rr x ns y) (modI from_ (((nN x : Nat) : Int))) (Ww ws))) M153, qT (apartN [b58, b97, b24] M153.log), qF (!((goF (Rr x ns y) (modI from_ (((nN x : Nat) : Int))) (Ww ws)) == (goF (Rr x ns y) (modI from_ (((nN x : Nat) : Int))) (Ww ws)))), qL 25 b24 0 (Mem.mk M153.blks M153.next M59.hide []) (.agg ⟨[(sli y12s 0 (nN x) (nN x)), (sli y12f 0 (nN x) (nN x))]⟩), qL 3 b97 1 (Mem.mk M153.blks M153.next (hides 14 [⟨0, 1, M153.next, M153.next⟩] ++ M59.hide) []) (i64 from_), qL 26 b58 0 (Mem.mk M153.blks M153.next (hides 224 [⟨4, 1, M153.next, M153.next⟩, ⟨0, 1, M153.next, M153.next⟩] ++ M59.hide) []) (.slice w43a (Ww ws).length w43c), qC 19 [(.agg ⟨[(sli y12s 0 (nN x) (nN x)), (sli y12f 0 (nN x) (nN x))]⟩), (i64 from_), (.slice w43a (Ww ws).length w43c)] (Mem.mk M153.blks M153.next M59.hide []) (i64 (goF (Rr x ns y) from_ (Ww ws))) M194, qL 25 b24 0 (Mem.mk M194.blks M194.next (hides 0 [⟨9, 1, M153.next, M194.next⟩, ⟨8, 1, M153.next, M153.next⟩, ⟨4, 1, M153.next, M153.next⟩, ⟨0, 1, M153.next, M153.next⟩] ++ M59.hide) M194.log) (.agg ⟨[(sli y12s 0 (nN x) (nN x)), (sli y12f 0 (nN x) (nN x))]⟩), qT (Nat.blt b24 M153.next), qL 3 b97 1 (Mem.mk M194.blks M194.next (hides 14336 [⟨9, 1, M153.next, M194.next⟩, ⟨8, 1, M153.next, M153.next⟩, ⟨4, 1, M153.next, M153.next⟩, ⟨0, 1, M153.next, M153.next⟩] ++ M59.hide) M194.log) (i64 from_), qT (Nat.blt b97 M153.next), qL 26 b58 0 (Mem.mk M194.blks M194.next (hides 229376 [⟨9, 1, M153.next, M194.next⟩, ⟨8, 1, M153.next, M153.next⟩, ⟨4, 1, M153.next, M153.next⟩, ⟨0, 1, M153.next, M153.next⟩] ++ M59.hide) M194.log) (.slice w43a (Ww ws).length w43c), qT (Nat.blt b58 M153.next), qC 20 [(.agg ⟨[(sli y12s 0 (nN x) (nN x)), (sli y12f 0 (nN x) (nN x))]⟩), (i64 from_), (.slice w43a (Ww ws).length w43c)] (Mem.mk M194.blks M194.next M59.hide M194.log) (i64 (goF (Rr x ns y) from_ (Ww ws))) M213, qT (apartN [b58, b97, b24] M213.log), qF (!((goF (Rr x ns y) from_ (Ww ws)) == (goF (Rr x ns y) from_ (Ww ws)))), qL 25 b24 0 (Mem.mk M213.blks M213.next M59.hide []) (.agg ⟨[(sli y12s 0 (nN x) (nN x)), (sli y12f 0 (nN x) (nN x))]⟩), qL 3 b97 2 (Mem.mk M213.blks M213.next (hides 14 [⟨0, 1, M213.next, M213.next⟩] ++ M59.hide) []) (i64 0), qL 26 b58 0 (Mem.mk M213.blks M213.next (hides 224 [⟨4, 1, M213.next, M213.next⟩, ⟨0, 1, M213.next, M213.next⟩] ++ M59.hide) []) (.slice w43a (Ww ws).length w43c), qC 19 [(.agg ⟨[(sli y12s 0 (nN x) (nN x)), (sli y12f 0 (nN x) (nN x))]⟩), (i64 0), (.slice w43a (Ww ws).length w43c)] (Mem.mk M213.blks M213.next M59.hide []) (i64 (goF (Rr x ns y) 0 (Ww ws))) M254, qL 25 b24 0 (Mem.mk M254.blks M254.next (hides 0 [⟨9, 1, M213.next, M254.next⟩, ⟨8, 1, M213.next, M213.next⟩, ⟨4, 1, M213.next, M213.next⟩, ⟨0, 1, M213.next, M213.next⟩] ++ M59.hide) M254.log) (.agg ⟨[(sli y12s 0 (nN x) (nN x)), (sli y12f 0 (nN x) (nN x))]⟩), qT (Nat.blt b24 M213.next), qL 3 b97 2 (Mem.mk M254.blks M254.next (hides 14336 [⟨9, 1, M213.next, M254.next⟩, ⟨8, 1, M213.next, M213.next⟩, ⟨4, 1, M213.next, M213.next⟩, ⟨0, 1, M213.next, M213.next⟩] ++ M59.hide) M254.log) (i64 0), qT (Nat.blt b97 M213.next), qL 26 b58 0 (Mem.mk M254.blks M254.next (hides 229376 [⟨9, 1, M213.next, M254.next⟩, ⟨8, 1, M213.next, M213.next⟩, ⟨4, 1, M213.next, M213.next⟩, ⟨0, 1, M213.next, M213.next⟩] ++ M59.hide) M254.log) (.slice w43a (Ww ws).length w43c), qT (Nat.blt b58 M213.next), qC 20 [(.agg ⟨[(sli y12s 0 (nN x) (nN x)), (sli y12f 0 (nN x) (nN x))]⟩), (i64 0), (.slice w43a (Ww ws).length w43c)] (Mem.mk M254.blks M254.next M59.hide M254.log) (i64 (goF (Rr x ns y) 0 (Ww ws))) M273, qT (apartN [b58, b97, b24] M273.log), qF (!((goF (Rr x ns y) 0 (Ww ws)) == (goF (Rr x ns y) 0 (Ww ws)))), qL 25 b24 0 (Mem.mk M273.blks M273.next M59.hide []) (.agg ⟨[(sli y12s 0 (nN x) (nN x)), (sli y12f 0 (nN x) (nN x))]⟩), qL 3 b97 3 (Mem.mk M273.blks M273.next (hides 14 [⟨0, 1, M273.next, M273.next⟩] ++ M59.hide) []) (i64 (-1)), qL 26 b58 0 (Mem.mk M273.blks M273.next (hides 224 [⟨4, 1, M273.next, M273.next⟩, ⟨0, 1, M273.next, M273.next⟩] ++ M59.hide) []) (.slice w43a (Ww ws).length w43c), qC 19 [(.agg ⟨[(sli y12s 0 (nN x) (nN x)), (sli y12f 0 (nN x) (nN x))]⟩), (i64 (-1)), (.slice w43a (Ww ws).length w43c)] (Mem.mk M273.blks M273.next M59.hide []) (i64 (goF (Rr x ns y) (-1) (Ww ws))) M314, qL 25 b24 0 (Mem.mk M314.blks M314.next (hides 0 [⟨9, 1, M273.next, M314.next⟩, ⟨8, 1, M273.next, M273.next⟩, ⟨4, 1, M273.next, M273.next⟩, ⟨0, 1, M273.next, M273.next⟩] ++ M59.hide) M314.log) (.agg ⟨[(sli y12s 0 (nN x) (nN x)), (sli y12f 0 (nN x) (nN x))]⟩), qT (Nat.blt b24 M273.next), qL 3 b97 3 (Mem.mk M314.blks M314.next (hides 14336 [⟨9, 1, M273.next, M314.next⟩, ⟨8, 1, M273.next, M273.next⟩, ⟨4, 1, M273.next, M273.next⟩, ⟨0, 1, M273.next, M273.next⟩] ++ M59.hide) M314.log) (i64 (-1)), qT (Nat.blt b97 M273.next), qL 26 b58 0 (Mem.mk M314.blks M314.next (hides 229376 [⟨9, 1, M273.next, M314.next⟩, ⟨8, 1, M273.next, M273.next⟩, ⟨4, 1, M273.next, M273.next⟩, ⟨0, 1, M273.next, M273.next⟩] ++ M59.hide) M314.log) (.slice w43a (Ww ws).length w43c), qT (Nat.blt b58 M273.next), qC 20 [(.agg ⟨[(sli y12s 0 (nN x) (nN x)), (sli y12f 0 (nN x) (nN x))]⟩), (i64 (-1)), (.slice w43a (Ww ws).length w43c)] (Mem.mk M314.blks M314.next M59.hide M314.log) (i64 (goF (Rr x ns y) (-1) (Ww ws))) M333, qT (apartN [b58, b97, b24] M333.log), qF (!((goF (Rr x ns y) (-1) (Ww ws)) == (goF (Rr x ns y) (-1) (Ww ws)))), qL 25 b24 0 (Mem.mk M333.blks M333.next M59.hide []) (.agg ⟨[(sli y12s 0 (nN x) (nN x)), (sli y12f 0 (nN x) (nN x))]⟩), qL 3 b97 4 (Mem.mk M333.blks M333.next (hides 14 [⟨0, 1, M333.next, M333.next⟩] ++ M59.hide) []) (i64 (((nN x : Nat) : Int))), qL 26 b58 0 (Mem.mk M333.blks M333.next (hides 224 [⟨4, 1, M333.next, M333.next⟩, ⟨0, 1, M333.next, M333.next⟩] ++ M59.hide) []) (.slice w43a (Ww ws).length w43c), qC 19 [(.agg ⟨[(sli y12s 0 (nN x) (nN x)), (sli y12f 0 (nN x) (nN x))]⟩), (i64 (((nN x : Nat) : Int))), (.slice w43a (Ww ws).length w43c)] (Mem.mk M333.blks M333.next M59.hide []) (i64 (goF (Rr x ns y) (((nN x : Nat) : Int)) (Ww ws))) M374, qL 25 b24 0 (Mem.mk M374.blks M374.next (hides 0 [⟨9, 1, M333.next, M374.next⟩, ⟨8, 1, M333.next, M333.next⟩, ⟨4, 1, M333.next, M333.next⟩, ⟨0, 1, M333.next, M333.next⟩] ++ M59.hide) M374.log) (.agg ⟨[(sli y12s 0 (nN x) (nN x)), (sli y12f 0 (nN x) (nN x))]⟩), qT (Nat.blt b24 M333.next), qL 3 b97 4 (Mem.mk M374.blks M374.next (hides 14336 [⟨9, 1, M333.next, M374.next⟩, ⟨8, 1, M333.next, M333.next⟩, ⟨4, 1, M333.next, M333.next⟩, ⟨0, 1, M333.next, M333.next⟩] ++ M59.hide) M374.log) (i64 (((nN x : Nat) : Int))), qT (Nat.blt b97 M333.next), qL 26 b58 0 (Mem.mk M374.blks M374.next (hides 229376 [⟨9, 1, M333.next, M374.next⟩, ⟨8, 1, M333.next, M333.next⟩, ⟨4, 1, M333.next, M333.next⟩, ⟨0, 1, M333.next, M333.next⟩] ++ M59.hide) M374.log) (.slice w43a (Ww ws).length w43c), qT (Nat.blt b58 M333.next), qC 20 [(.agg ⟨[(sli y12s 0 (nN x) (nN x)), (sli y12f 0 (nN x) (nN x))]⟩), (i64 (((nN x : Nat) : Int))), (.slice w43a (Ww ws).length w43c)] (Mem.mk M374.blks M374.next M59.hide M374.log) (i64 (goF (Rr x ns y) (((nN x : Nat) : Int)) (Ww ws))) M393, qT (apartN [b58, b97, b24] M393.log), qF (!((goF (Rr x ns y) (((nN x : Nat) : Int)) (Ww ws)) == (goF (Rr x ns y) (((nN x : Nat) : Int)) (Ww ws)))), qL 25 b24 0 (Mem.mk M393.blks M393.next M59.hide []) (.agg ⟨[(sli y12s 0 (nN x) (nN x)), (sli y12f 0 (nN x) (nN x))]⟩), qL 26 b58 0 (Mem.mk M393.blks M393.next (hides 14 [⟨0, 1, M393.next, M393.next⟩] ++ M59.hide) []) (.slice w43a (Ww ws).length w43c), qC 21 [(.agg ⟨[(sli y12s 0 (nN x) (nN x)), (sli y12f 0 (nN x) (nN x))]⟩), (.slice w43a (Ww ws).length w43c)] (Mem.mk M393.blks M393.next M59.hide []) (.bool (runF (Rr x ns y) (Aa x y) (Ww ws))) M434, qL 25 b24 0 (Mem.mk M434.blks M434.next (hides 0 [⟨5, 1, M393.next, M434.next⟩, ⟨4, 1, M393.next, M393.next⟩, ⟨0, 1, M393.next, M393.next⟩] ++ M59.hide) M434.log) (.agg ⟨[(sli y12s 0 (nN x) (nN x)), (sli y12f 0 (nN x) (nN x))]⟩), qT (Nat.blt b24 M393.next), qL 26 b58 0 (Mem.mk M434.blks M434.next (hides 896 [⟨5, 1, M393.next, M434.next⟩, ⟨4, 1, M393.next, M393.next⟩, ⟨0, 1, M393.next, M393.next⟩] ++ M59.hide) M434.log) (.slice w43a (Ww ws).length w43c), qT (Nat.blt b58 M393.next), qC 22 [(.agg ⟨[(sli y12s 0 (nN x) (nN x)), (sli y12f 0 (nN x) (nN x))]⟩), (.slice w43a (Ww ws).length w43c)] (Mem.mk M434.blks M434.next M59.hide M434.log) (.bool (runF (Rr x ns y) (Aa x y) (Ww ws))) M453, qT (apartN [b58, b24] M453.log), qF (!((runF (Rr x ns y) (Aa x y) (Ww ws)) == (runF (Rr x ns y) (Aa x y) (Ww ws)))), qL 25 b24 0 (Mem.mk M453.blks M453.next M59.hide []) (.agg ⟨[(sli y12s 0 (nN x) (nN x)), (sli y12f 0 (nN x) (nN x))]⟩), qL 3 b97 0 (Mem.mk M453.blks M453.next (hides 14 [⟨0, 1, M453.next, M453.next⟩] ++ M59.hide) []) (i64 (modI from_ (((nN x : Nat) : Int)))), qL 26 b58 1 (Mem.mk M453.blks M453.next (hides 224 [⟨4, 1, M453.next, M453.next⟩, ⟨0, 1, M453.next, M453.next⟩] ++ M59.hide) []) (.slice ra raw.length rc), qC 19 [(.agg ⟨[(sli y12s 0 (nN x) (nN x)), (sli y12f 0 (nN x) (nN x))]⟩), (i64 (modI from_ (((nN x : Nat) : Int)))), (.slice ra raw.length rc)] (Mem.mk M453.blks M453.next M59.hide []) (i64 (goF (Rr x ns y) (modI from_ (((nN x : Nat) : Int))) raw)) M494, qL 25 b24 0 (Mem.mk M494.blks M494.next (hides 0 [⟨9, 1, M453.next, M494.next⟩, ⟨8, 1, M453.next, M453.next⟩, ⟨4, 1, M453.next, M453.next⟩, ⟨0, 1, M453.next, M453.next⟩] ++ M59.hide) M494.log) (.agg ⟨[(sli y12s 0 (nN x) (nN x)), (sli y12f 0 (nN x) (nN x))]⟩), qT (Nat.blt b24 M453.next), qL 3 b97 0 (Mem.mk M494.blks M494.next (hides 14336 [⟨9, 1, M453.next, M494.next⟩, ⟨8, 1, M453.next, M453.next⟩, ⟨4, 1, M453.next, M453.next⟩, ⟨0, 1, M453.next, M453.next⟩] ++ M59.hide) M494.log) (i64 (modI from_ (((nN x : Nat) : Int)))), qT (Nat.blt b97 M453.next), qL 26 b58 1 (Mem.mk M494.blks M494.next (hides 229376 [⟨9, 1, M453.next, M494.next⟩, ⟨8, 1, M453.next, M453.next⟩, ⟨4, 1, M453.next, M453.next⟩, ⟨0, 1, M453.next, M453.next⟩] ++ M59.hide) M494.log) (.slice ra raw.length rc), qT (Nat.blt b58 M453.next), qC 20 [(.agg ⟨[(sli y12s 0 (nN x) (nN x)), (sli y12f 0 (nN x) (nN x))]⟩), (i64 (modI from_ (((nN x : Nat) : Int)))), (.slice ra raw.length rc)] (Mem.mk M494.blks M494.next M59.hide M494.log) (i64 (goF (Rr x ns y) (modI from_ (((nN x : Nat) : Int))) raw)) M513, qT (apartN [b58, b97, b24] M513.log), qF (!((goF (Rr x ns y) (modI from_ (((nN x : Nat) : Int))) raw) == (goF (Rr x ns y) (modI from_ (((nN x : Nat) : Int))) raw))), qL 25 b24 0 (Mem.mk M513.blks M513.next M59.hide []) (.agg ⟨[(sli y12s 0 (nN x) (nN x)), (sli y12f 0 (nN x) (nN x))]⟩), qL 3 b97 1 (Mem.mk M513.blks M513.next (hides 14 [⟨0, 1, M513.next, M513.next⟩] ++ M59.hide) []) (i64 from_), qL 26 b58 1 (Mem.mk M513.blks M513.next (hides 224 [⟨4, 1, M513.next, M513.next⟩, ⟨0, 1, M513.next, M513.next⟩] ++ M59.hide) []) (.slice ra raw.length rc), qC 19 [(.agg ⟨[(sli y12s 0 (nN x) (nN x)), (sli y12f 0 (nN x) (nN x))]⟩), (i64 from_), (.slice ra raw.length rc)] (Mem.mk M513.blks M513.next M59.hide []) (i64 (goF (Rr x ns y) from_ raw)) M554, qL 25 b24 0 (Mem.mk M554.blks M554.next (hides 0 [⟨9, 1, M513.next, M554.next⟩, ⟨8, 1, M513.next, M513.next⟩, ⟨4, 1, M513.next, M513.next⟩, ⟨0, 1, M513.next, M513.next⟩] ++ M59.hide) M554.log) (.agg ⟨[(sli y12s 0 (nN x) (nN x)), (sli y12f 0 (nN x) (nN x))]⟩), qT (Nat.blt b24 M513.next), qL 3 b97 1 (Mem.mk M554.blks M554.next (hides 14336 [⟨9, 1, M513.next, M554.next⟩, ⟨8, 1, M513.next, M513.next⟩, ⟨4, 1, M513.next, M513.next⟩, ⟨0, 1, M513.next, M513.next⟩] ++ M59.hide) M554.log) (i64 from_), qT (Nat.blt b97 M513.next), qL 26 b58 1 (Mem.mk M554.blks M554.next (hides 229376 [⟨9, 1, M513.next, M554.next⟩, ⟨8, 1, M513.next, M513.next⟩, ⟨4, 1, M513.next, M513.next⟩, ⟨0, 1, M513.next, M513.next⟩] ++ M59.hide) M554.log) (.slice ra raw.length rc), qT (Nat.blt b58 M513.next), qC 20 [(.agg ⟨[(sli y12s 0 (nN x) (nN x)), (sli y12f 0 (nN x) (nN x))]⟩), (i64 from_), (.slice ra raw.length rc)] (Mem.mk M554.blks M554.next M59.hide M554.log) (i64 (goF (Rr x ns y) from_ raw)) M573, qT (apartN [b58, b97, b24] M573.log), qF (!((goF (Rr x ns y) from_ raw) == (goF (Rr x ns y) from_ raw))), qL 25 b24 0 (Mem.mk M573.blks M573.next M59.hide []) (.agg ⟨[(sli y12s 0 (nN x) (nN x)), (sli y12f 0 (nN x) (nN x))]⟩), qL 3 b97 2 (Mem.mk M573.blks M573.next (hides 14 [⟨0, 1, M573.next, M573.next⟩] ++ M59.hide) []) (i64 0), qL 26 b58 1 (Mem.mk M573.blks M573.next (hides 224 [⟨4, 1, M573.next, M573.next⟩, ⟨0, 1, M573.next, M573.next⟩] ++ M59.hide) []) (.slice ra raw.length rc), qC 19 [(.agg ⟨[(sli y12s 0 (nN x) (nN x)), (sli y12f 0 (nN x) (nN x))]⟩), (i64 0), (.slice ra raw.length rc)] (Mem.mk M573.blks M573.next M59.hide []) (i64 (goF (Rr x ns y) 0 raw)) M614, qL 25 b24 0 (Mem.mk M614.blks M614.next (hides 0 [⟨9, 1, M573.next, M614.next⟩, ⟨8, 1, M573.next, M573.next⟩, ⟨4, 1, M573.next, M573.next⟩, ⟨0, 1, M573.next, M573.next⟩] ++ M59.hide) M614.log) (.agg ⟨[(sli y12s 0 (nN x) (nN x)), (sli y12f 0 (nN x) (nN x))]⟩), qT (Nat.blt b24 M573.next), qL 3 b97 2 (Mem.mk M614.blks M614.next (hides 14336 [⟨9, 1, M573.next, M614.next⟩, ⟨8, 1, M573.next, M573.next⟩, ⟨4, 1, M573.next, M573.next⟩, ⟨0, 1, M573.next, M573.next⟩] ++ M59.hide) M614.log) (i64 0), qT (Nat.blt b97 M573.next), qL 26 b58 1 (Mem.mk M614.blks M614.next (hides 229376 [⟨9, 1, M573.next, M614.next⟩, ⟨8, 1, M573.next, M573.next⟩, ⟨4, 1, M573.next, M573.next⟩, ⟨0, 1, M573.next, M573.next⟩] ++ M59.hide) M614.log) (.slice ra raw.length rc), qT (Nat.blt b58 M573.next), qC 20 [(.agg ⟨[(sli y12s 0 (nN x) (nN x)), (sli y12f 0 (nN x) (nN x))]⟩), (i64 0), (.slice ra raw.length rc)] (Mem.mk M614.blks M614.next M59.hide M614.log) (i64 (goF (Rr x ns y) 0 raw)) M633, qT (apartN [b58, b97, b24] M633.log), qF (!((goF (Rr x ns y) 0 raw) == (goF (Rr x ns y) 0 raw))), qL 25 b24 0 (Mem.mk M633.blks M633.next M59.hide []) (.agg ⟨[(sli y12s 0 (nN x) (nN x)), (sli y12f 0 (nN x) (nN x))]⟩), qL 3 b97 3 (Mem.mk M633.blks M633.next (hides 14 [⟨0, 1, M633.next, M633.next⟩] ++ M59.hide) []) (i64 (-1)), qL 26 b58 1 (Mem.mk M633.blks M633.next (hides 224 [⟨4, 1, M633.next, M633.next⟩, ⟨0, 1, M633.next, M633.next⟩] ++ M59.hide) []) (.slice ra raw.length rc), qC 19 [(.agg ⟨[(sli y12s 0 (nN x) (nN x)), (sli y12f 0 (nN x) (nN x))]⟩), (i64 (-1)), (.slice ra raw.length rc)] (Mem.mk M633.blks M633.next M59.hide []) (i64 (goF (Rr x ns y) (-1) raw)) M674, qL 25 b24 0 (Mem.mk M674.blks M674.next (hides 0 [⟨9, 1, M633.next, M674.next⟩, ⟨8, 1, M633.next, M633.next⟩, ⟨4, 1, M633.next, M633.next⟩, ⟨0, 1, M633.next, M633.next⟩] ++ M59.hide) M674.log) (.agg ⟨[(sli y12s 0 (nN x) (nN x)), (sli y12f 0 (nN x) (nN x))]⟩), qT (Nat.blt b24 M633.next), qL 3 b97 3 (Mem.mk M674.blks M674.next (hides 14336 [⟨9, 1, M633.next, M674.next⟩, ⟨8, 1, M633.next, M633.next⟩, ⟨4, 1, M633.next, M633.next⟩, ⟨0, 1, M633.next, M633.next⟩] ++ M59.hide) M674.log) (i64 (-1)), qT (Nat.blt b97 M633.next), qL 26 b58 1 (Mem.mk M674.blks M674.next (hides 229376 [⟨9, 1, M633.next, M674.next⟩, ⟨8, 1, M633.next, M633.next⟩, ⟨4, 1, M633.next, M633.next⟩, ⟨0, 1, M633.next, M633.next⟩] ++ M59.hide) M674.log) (.slice ra raw.length rc), qT (Nat.blt b58 M633.next), qC 20 [(.agg ⟨[(sli y12s 0 (nN x) (nN x)), (sli y12f 0 (nN x) (nN x))]⟩), (i64 (-1)), (.slice ra raw.length rc)] (Mem.mk M674.blks M674.next M59.hide M674.log) (i64 (goF (Rr x ns y) (-1) raw)) M693, qT (apartN [b58, b97, b24] M693.log), qF (!((goF (Rr x ns y) (-1) raw) == (goF (Rr x ns y) (-1) raw))), qL 25 b24 0 (Mem.mk M693.blks M693.next M59.hide []) (.agg ⟨[(sli y12s 0 (nN x) (nN x)), (sli y12f 0 (nN x) (nN x))]⟩), qL 3 b97 4 (Mem.mk M693.blks M693.next (hides 14 [⟨0, 1, M693.next, M693.next⟩] ++ M59.hide) []) (i64 (((nN x : Nat) : Int))), qL 26 b58 1 (Mem.mk M693.blks M693.next (hides 224 [⟨4, 1, M693.next, M693.next⟩, ⟨0, 1, M693.next, M693.next⟩] ++ M59.hide) []) (.slice ra raw.length rc), qC 19 [(.agg ⟨[(sli y12s 0 (nN x) (nN x)), (sli y12f 0 (nN x) (nN x))]⟩), (i64 (((nN x : Nat) : Int))), (.slice ra raw.length rc)] (Mem.mk M693.blks M693.next M59.hide []) (i64 (goF (Rr x ns y) (((nN x : Nat) : Int)) raw)) M734, qL 25 b24 0 (Mem.mk M734.blks M734.next (hides 0 [⟨9, 1, M693.next, M734.next⟩, ⟨8, 1, M693.next, M693.next⟩, ⟨4, 1, M693.next, M693.next⟩, ⟨0, 1, M693.next, M693.next⟩] ++ M59.hide) M734.log) (.agg ⟨[(sli y12s 0 (nN x) (nN x)), (sli y12f 0 (nN x) (nN x))]⟩), qT (Nat.blt b24 M693.next), qL 3 b97 4 (Mem.mk M734.blks M734.next (hides 14336 [⟨9, 1, M693.next, M734.next⟩, ⟨8, 1, M693.next, M693.next⟩, ⟨4, 1, M693.next, M693.next⟩, ⟨0, 1, M693.next, M693.next⟩] ++ M59.hide) M734.log) (i64 (((nN x : Nat) : Int))), qT (Nat.blt b97 M693.next), qL 26 b58 1 (Mem.mk M734.blks M734.next (hides 229376 [⟨9, 1, M693.next, M734.next⟩, ⟨8, 1, M693.next, M693.next⟩, ⟨4, 1, M693.next, M693.next⟩, ⟨0, 1, M693.next, M693.next⟩] ++ M59.hide) M734.log) (.slice ra raw.length rc), qT (Nat.blt b58 M693.next), qC 20 [(.agg ⟨[(sli y12s 0 (nN x) (nN x)), (sli y12f 0 (nN x) (nN x))]⟩), (i64 (((nN x : Nat) : Int))), (.slice ra raw.length rc)] (Mem.mk M734.blks M734.next M59.hide M734.log) (i64 (goF (Rr x ns y) (((nN x : Nat) : Int)) raw)) M753, qT (apartN [b58, b97, b24] M753.log), qF (!((goF (Rr x ns y) (((nN x : Nat) : Int)) raw) == (goF (Rr x ns y) (((nN x : Nat) : Int)) raw))), qL 25 b24 0 (Mem.mk M753.blks M753.next M59.hide []) (.agg ⟨[(sli y12s 0 (nN x) (nN x)), (sli y12f 0 (nN x) (nN x))]⟩), qL 26 b58 1 (Mem.mk M753.blks M753.next (hides 14 [⟨0, 1, M753.next, M753.next⟩] ++ M59.hide) []) (.slice ra raw.length rc), qC 21 [(.agg ⟨[(sli y12s 0 (nN x) (nN x)), (sli y12f 0 (nN x) (nN x))]⟩), (.slice ra raw.length rc)] (Mem.mk M753.blks M753.next M59.hide []) (.bool (runF (Rr x ns y) (Aa x y) raw)) M794, qL 25 b24 0 (Mem.mk M794.blks M794.next (hides 0 [⟨5, 1, M753.next, M794.next⟩, ⟨4, 1, M753.next, M753.next⟩, ⟨0, 1, M753.next, M753.next⟩] ++ M59.hide) M794.log) (.agg ⟨[(sli y12s 0 (nN x) (nN x)), (sli y12f 0 (nN x) (nN x))]⟩), qT (Nat.blt b24 M753.next), qL 26 b58 1 (Mem.mk M794.blks M794.next (hides 896 [⟨5, 1, M753.next, M794.next⟩, ⟨4, 1, M753.next, M753.next⟩, ⟨0, 1, M753.next, M753.next⟩] ++ M59.hide) M794.log) (.slice ra raw.length rc), qT (Nat.blt b58 M753.next), qC 22 [(.agg ⟨[(sli y12s 0 (nN x) (nN x)), (sli y12f 0 (nN x) (nN x))]⟩), (.slice ra raw.length rc)] (Mem.mk M794.blks M794.next M59.hide M794.log) (.bool (runF (Rr x ns y) (Aa x y) raw)) M813, qT (apartN [b58, b24] M813.log), qF (!((runF (Rr x ns y) (Aa x y) raw) == (runF (Rr x ns y) (Aa x y) raw))), qL 25 b24 0 (Mem.mk M813.blks M813.next M59.hide []) (.agg ⟨[(sli y12s 0 (nN x) (nN x)), (sli y12f 0 (nN x) (nN x))]⟩), qL 3 b97 0 (Mem.mk M813.blks M813.next (hides 14 [⟨0, 1, M813.next, M813.next⟩] ++ M59.hide) []) (i64 (modI from_ (((nN x : Nat) : Int)))), qL 26 b58 2 (Mem.mk M813.blks M813.next (hides 224 [⟨4, 1, M813.next, M813.next⟩, ⟨0, 1, M813.next, M813.next⟩] ++ M59.hide) []) sln, qC 19 [(.agg ⟨[(sli y12s 0 (nN x) (nN x)), (sli y12f 0 (nN x) (nN x))]⟩), (i64 (modI from_ (((nN x : Nat) : Int)))), sln] (Mem.mk M813.blks M813.next M59.hide []) (i64 (goF (Rr x ns y) (modI from_ (((nN x : Nat) : Int))) [])) M854, qL 25 b24 0 (Mem.mk M854.blks M854.next (hides 0 [⟨9, 1, M813.next, M854.next⟩, ⟨8, 1, M813.next, M813.next⟩, ⟨4, 1, M813.next, M813.next⟩, ⟨0, 1, M813.next, M813.next⟩] ++ M59.hide) M854.log) (.agg ⟨[(sli y12s 0 (nN x) (nN x)), (sli y12f 0 (nN x) (nN x))]⟩), qT (Nat.blt b24 M813.next), qL 3 b97 0 (Mem.mk M854.blks M854.next (hides 14336 [⟨9, 1, M813.next, M854.next⟩, ⟨8, 1, M813.next, M813.next⟩, ⟨4, 1, M813.next, M813.next⟩, ⟨0, 1, M813.next, M813.next⟩] ++ M59.hide) M854.log) (i64 (modI from_ (((nN x : Nat) : Int)))), qT (Nat.blt b97 M813.next), qL 26 b58 2 (Mem.mk M854.blks M854.next (hides 229376 [⟨9, 1, M813.next, M854.next⟩, ⟨8, 1, M813.next, M813.next⟩, ⟨4, 1, M813.next, M813.next⟩, ⟨0, 1, M813.next, M813.next⟩] ++ M59.hide) M854.log) sln, qT (Nat.blt b58 M813.next), qC 20 [(.agg ⟨[(sli y12s 0 (nN x) (nN x)), (sli y12f 0 (nN x) (nN x))]⟩), (i64 (modI from_ (((nN x : Nat) : Int)))), sln] (Mem.mk M854.blks M854.next M59.hide M854.log) (i64 (goF (Rr x ns y) (modI from_ (((nN x : Nat) : Int))) [])) M873, qT (apartN [b58, b97, b24] M873.log), qF (!((goF (Rr x ns y) (modI from_ (((nN x : Nat) : Int))) []) == (goF (Rr x ns y) (modI from_ (((nN x : Nat) : Int))) []))), qL 25 b24 0 (Mem.mk M873.blks M873.next M59.hide []) (.agg ⟨[(sli y12s 0 (nN x) (nN x)), (sli y12f 0 (nN x) (nN x))]⟩), qL 3 b97 1 (Mem.mk M873.blks M873.next (hides 14 [⟨0, 1, M873.next, M873.next⟩] ++ M59.hide) []) (i64 from_), qL 26 b58 2 (Mem.mk M873.blks M873.next (hides 224 [⟨4, 1, M873.next, M873.next⟩, ⟨0, 1, M873.next, M873.next⟩] ++ M59.hide) []) sln, qC 19 [(.agg ⟨[(sli y12s 0 (nN x) (nN x)), (sli y12f 0 (nN x) (nN x))]⟩), (i64 from_), sln] (Mem.mk M873.blks M873.next M59.hide []) (i64 (goF (Rr x ns y) from_ [])) M914, qL 25 b24 0 (Mem.mk M914.blks M914.next (hides 0 [⟨9, 1, M873.next, M914.next⟩, ⟨8, 1, M873.next, M873.next⟩, ⟨4, 1, M873.next, M873.next⟩, ⟨0, 1, M873.next, M873.next⟩] ++ M59.hide) M914.log) (.agg ⟨[(sli y12s 0 (nN x) (nN x)), (sli y12f 0 (nN x) (nN x))]⟩), qT (Nat.blt b24 M873.next), qL 3 b97 1 (Mem.mk M914.blks M914.next (hides 14336 [⟨9, 1, M873.next, M914.next⟩, ⟨8, 1, M873.next, M873.next⟩, ⟨4, 1, M873.next, M873.next⟩, ⟨0, 1, M873.next, M873.next⟩] ++ M59.hide) M914.log) (i64 from_), qT (Nat.blt b97 M873.next), qL 26 b58 2 (Mem.mk M914.blks M914.next (hides 229376 [⟨9, 1, M873.next, M914.next⟩, ⟨8, 1, M873.next, M873.next⟩, ⟨4, 1, M873.next, M873.next⟩, ⟨0, 1, M873.next, M873.next⟩] ++ M59.hide) M914.log) sln, qT (Nat.blt b58 M873.next), qC 20 [(.agg ⟨[(sli y12s 0 (nN x) (nN x)), (sli y12f 0 (nN x) (nN x))]⟩), (i64 from_), sln] (Mem.mk M914.blks M914.next M59.hide M914.log) (i64 (goF (Rr x ns y) from_ [])) M933, qT (apartN [b58, b97, b24] M933.log), qF (!((goF (Rr x ns y) from_ []) == (goF (Rr x ns y) from_ []))), qL 25 b24 0 (Mem.mk M933.blks M933.next M59.hide []) (.agg ⟨[(sli y12s 0 (nN x) (nN x)), (sli y12f 0 (nN x) (nN x))]⟩), qL 3 b97 2 (Mem.mk M933.blks M933.next (hides 14 [⟨0, 1, M933.next, M933.next⟩] ++ M59.hide) []) (i64 0), qL 26 b58 2 (Mem.mk M933.blks M933.next (hides 224 [⟨4, 1, M933.next, M933.next⟩, ⟨0, 1, M933.next, M933.next⟩] ++ M59.hide) []) sln, qC 19 [(.agg ⟨[(sli y12s 0 (nN x) (nN x)), (sli y12f 0 (nN x) (nN x))]⟩), (i64 0), sln] (Mem.mk M933.blks M933.next M59.hide []) (i64 (goF (Rr x ns y) 0 [])) M974, qL 25 b24 0 (Mem.mk M974.blks M974.next (hides 0 [⟨9, 1, M933.next, M974.next⟩, ⟨8, 1, M933.next, M933.next⟩, ⟨4, 1, M933.next, M933.next⟩, ⟨0, 1, M933.next, M933.next⟩] ++ M59.hide) M974.log) (.agg ⟨[(sli y12s 0 (nN x) (nN x)), (sli y12f 0 (nN x) (nN x))]⟩), qT (Nat.blt b24 M933.next), qL 3 b97 2 (Mem.mk M974.blks M974.next (hides 14336 [⟨9, 1, M933.next, M974.next⟩, ⟨8, 1, M933.next, M933.next⟩, ⟨4, 1, M933.next, M933.next⟩, ⟨0, 1, M933.next, M933.next⟩] ++ M59.hide) M974.log) (i64 0), qT (Nat.blt b97 M933.next), qL 26 b58 2 (Mem.mk M974.blks M974.next (hides 229376 [⟨9, 1, M933.next, M974.next⟩, ⟨8, 1, M933.next, M933.next⟩, ⟨4, 1, M933.next, M933.next⟩, ⟨0, 1, M933.next, M933.next⟩] ++ M59.hide) M974.log) sln, qT (Nat.blt b58 M933.next), qC 20 [(.agg ⟨[(sli y12s 0 (nN x) (nN x)), (sli y12f 0 (nN x) (nN x))]⟩), (i64 0), sln] (Mem.mk M974.blks M974.next M59.hide M974.log) (i64 (goF (Rr x ns y) 0 [])) M993, qT (apartN [b58, b97, b24] M993.log), qF (!((goF (Rr x ns y) 0 []) == (goF (Rr x ns y) 0 []))), qL 25 b24 0 (Mem.mk M993.blks M993.next M59.hide []) (.agg ⟨[(sli y12s 0 (nN x) (nN x)), (sli y12f 0 (nN x) (nN x))]⟩), qL 3 b97 3 (Mem.mk M993.blks M993.next (hides 14 [⟨0, 1, M993.next, M993.next⟩] ++ M59.hide) []) (i64 (-1)), qL 26 b58 2 (Mem.mk M993.blks M993.next (hides 224 [⟨4, 1, M993.next, M993.next⟩, ⟨0, 1, M993.next, M993.next⟩] ++ M59.hide) []) sln, qC 19 [(.agg ⟨[(sli y12s 0 (nN x) (nN x)), (sli y12f 0 (nN x) (nN x))]⟩), (i64 (-1)), sln] (Mem.mk M993.blks M993.next M59.hide []) (i64 (goF (Rr x ns y) (-1) [])) M1034, qL 25 b24 0 (Mem.mk M1034.blks M1034.next (hides 0 [⟨9, 1, M993.next, M1034.next⟩, ⟨8, 1, M993.next, M993.next⟩, ⟨4, 1, M993.next, M993.next⟩, ⟨0, 1, M993.next, M993.next⟩] ++ M59.hide) M1034.log) (.agg ⟨[(sli y12s 0 (nN x) (nN x)), (sli y12f 0 (nN x) (nN x))]⟩), qT (Nat.blt b24 M993.next), qL 3 b97 3 (Mem.mk M1034.blks M1034.next (hides 14336 [⟨9, 1, M993.next, M1034.next⟩, ⟨8, 1, M993.next, M993.next⟩, ⟨4, 1, M993.next, M993.next⟩, ⟨0, 1, M993.next, M993.next⟩] ++ M59.hide) M1034.log) (i64 (-1)), qT (Nat.blt b97 M993.next), qL 26 b58 2 (Mem.mk M1034.blks M1034.next (hides 229376 [⟨9, 1, M993.next, M1034.next⟩, ⟨8, 1, M993.next, M993.next⟩, ⟨4, 1, M993.next, M993.next⟩, ⟨0, 1, M993.next, M993.next⟩] ++ M59.hide) M1034.log) sln, qT (Nat.blt b58 M993.next), qC 20 [(.agg ⟨[(sli y12s 0 (nN x) (nN x)), (sli y12f 0 (nN x) (nN x))]⟩), (i64 (-1)), sln] (Mem.mk M1034.blks M1034.next M59.hide M1034.log) (i64 (goF (Rr x ns y) (-1) [])) M1053, qT (apartN [b58, b97, b24] M1053.log), qF (!((goF (Rr x ns y) (-1) []) == (goF (Rr x ns y) (-1) []))), qL 25 b24 0 (Mem.mk M1053.blks M1053.next M59.hide []) (.agg ⟨[(sli y12s 0 (nN x) (nN x)), (sli y12f 0 (nN x) (nN x))]⟩), qL 3 b97 4 (Mem.mk M1053.blks M1053.next (hides 14 [⟨0, 1, M1053.next, M1053.next⟩] ++ M59.hide) []) (i64 (((nN x : Nat) : Int))), qL 26 b58 2 (Mem.mk M1053.blks M1053.next (hides 224 [⟨4, 1, M1053.next, M1053.next⟩, ⟨0, 1, M1053.next, M1053.next⟩] ++ M59.hide) []) sln, qC 19 [(.agg ⟨[(sli y12s 0 (nN x) (nN x)), (sli y12f 0 (nN x) (nN x))]⟩), (i64 (((nN x : Nat) : Int))), sln] (Mem.mk M1053.blks M1053.next M59.hide []) (i64 (goF (Rr x ns y) (((nN x : Nat) : Int)) [])) M1094, qL 25 b24 0 (Mem.mk M1094.blks M1094.next (hides 0 [⟨9, 1, M1053.next, M1094.next⟩, ⟨8, 1, M1053.next, M1053.next⟩, ⟨4, 1, M1053.next, M1053.next⟩, ⟨0, 1, M1053.next, M1053.next⟩] ++ M59.hide) M1094.log) (.agg ⟨[(sli y12s 0 (nN x) (nN x)), (sli y12f 0 (nN x) (nN x))]⟩), qT (Nat.blt b24 M1053.next), qL 3 b97 4 (Mem.mk M1094.blks M1094.next (hides 14336 [⟨9, 1, M1053.next, M1094.next⟩, ⟨8, 1, M1053.next, M1053.next⟩, ⟨4, 1, M1053.next, M1053.next⟩, ⟨0, 1, M1053.next, M1053.next⟩] ++ M59.hide) M1094.log) (i64 (((nN x : Nat) : Int))), qT (Nat.blt b97 M1053.next), qL 26 b58 2 (Mem.mk M1094.blks M1094.next (hides 229376 [⟨9, 1, M1053.next, M1094.next⟩, ⟨8, 1, M1053.next, M1053.next⟩, ⟨4, 1, M1053.next, M1053.next⟩, ⟨0, 1, M1053.next, M1053.next⟩] ++ M59.hide) M1094.log) sln, qT (Nat.blt b58 M1053.next), qC 20 [(.agg ⟨[(sli y12s 0 (nN x) (nN x)), (sli y12f 0 (nN x) (nN x))]⟩), (i64 (((nN x : Nat) : Int))), sln] (Mem.mk M1094.blks M1094.next M59.hide M1094.log) (i64 (goF (Rr x ns y) (((nN x : Nat) : Int)) [])) M1113, qT (apartN [b58, b97, b24] M1113.log), qF (!((goF (Rr x ns y) (((nN x : Nat) : Int)) []) == (goF (Rr x ns y) (((nN x : Nat) : Int)) []))), qL 25 b24 0 (Mem.mk M1113.blks M1113.next M59.hide []) (.agg ⟨[(sli y12s 0 (nN x) (nN x)), (sli y12f 0 (nN x) (nN x))]⟩), qL 26 b58 2 (Mem.mk M1113.blks M1113.next (hides 14 [⟨0, 1, M1113.next, M1113.next⟩] ++ M59.hide) []) sln, qC 21 [(.agg ⟨[(sli y12s 0 (nN x) (nN x)), (sli y12f 0 (nN x) (nN x))]⟩), sln] (Mem.mk M1113.blks M1113.next M59.hide []) (.bool (runF (Rr x ns y) (Aa x y) [])) M1154, qL 25 b24 0 (Mem.mk M1154.blks M1154.next (hides 0 [⟨5, 1, M1113.next, M1154.next⟩, ⟨4, 1, M1113.next, M1113.next⟩, ⟨0, 1, M1113.next, M1113.next⟩] ++ M59.hide) M1154.log) (.agg ⟨[(sli y12s 0 (nN x) (nN x)), (sli y12f 0 (nN x) (nN x))]⟩), qT (Nat.blt b24 M1113.next), qL 26 b58 2 (Mem.mk M1154.blks M1154.next (hides 896 [⟨5, 1, M1113.next, M1154.next⟩, ⟨4, 1, M1113.next, M1113.next⟩, ⟨0, 1, M1113.next, M1113.next⟩] ++ M59.hide) M1154.log) sln, qT (Nat.blt b58 M1113.next), qC 22 [(.agg ⟨[(sli y12s 0 (nN x) (nN x)), (sli y12f 0 (nN x) (nN x))]⟩), sln] (Mem.mk M1154.blks M1154.next M59.hide M1154.log) (.bool (runF (Rr x ns y) (Aa x y) [])) M1173, qT (apartN [b58, b24] M1173.log), qF (!((runF (Rr x ns y) (Aa x y) []) == (runF (Rr x ns y) (Aa x y) [])))]) := by kernel_rfl
theorem w4_1 (x : Int) (a : Option Addr) (c : Nat) (ns : List Int) (y from_ : Int) (aw : Option Addr) (cw : Nat) (ws : List Int) (ra : Option Addr) (rc : Nat) (raw : List Int) (e : TypeId) {M : Mem} (hM : MemOk M) (hT : M.get 0 = some (tabB e)) (hs : FlatAt 1 M (.slice a ns.length c) (ns.map ([·]))) (hw : FlatAt 1 M (.slice aw ws.length cw) (ws.map ([·]))) (hrw : FlatAt 1 M (.slice ra raw.length rc) (raw.map ([·]))) (hwl3 : (Ww ws).length ≤ 1000) (hn9 : 1 ≤ nN x ∧ nN x ≤ 9) (cc0 : (decide ((((raw.length : Nat) : Int)) > (30 : Int))) = false) : ∃ M', Ev Tryd.prog [0] 4 [i64 x, (.slice a ns.length c), i64 y, i64 from_, (.slice aw ws.length cw), (.slice ra raw.length rc)] M (.bool true) M' := by
  obtain ⟨w1, N2, M3, p4, l5, e6, E7, hM8, Q9, G10⟩ := call_t (P := Tryd.prog) (GL := [0]) (f := 12) hM (con12c (((Ext.refl M)).old hT))
  have ew1 : w1 = .bool true := (Option.some.inj Q9).symm
  subst ew1
  have X11 := (Ext.refl M).trans E7
  obtain ⟨w13, N14, M15, p16, l17, e18, E19, hM20, Q21, G22⟩ := call_t (P := Tryd.prog) (GL := [0]) (f := 14) hM8 (Con.gl (con14 x a c ns y (MemOk.log hM8) (hs.Ext X11).log))
  obtain ⟨y12s, y12f, ew13, ⟨y12n1, y12g1⟩, ⟨y12n2, y12g2⟩, dy12sy12f⟩ := Qmk.val (hs.Ext X11).log Q21
  subst ew13
  have y12m1 : M3.next ≤ y12s := y12n1
  have y12m2 : M3.next ≤ y12f := y12n2
  have y12h1 : M15.get y12s = some ⟨(irows (Rr x ns y)).flatten, 31, 5, 0, true⟩ := by rw [G22]; exact y12g1
  have y12h2 : M15.get y12f = some ⟨(brows (Aa x y)).flatten, 4, 1, 0, true⟩ := by rw [G22]; exact y12g2
  have ny12s : M.next ≤ y12s := Nat.le_trans (X11).next y12m1
  have ny12f : M.next ≤ y12f := Nat.le_trans (X11).next y12m2
  have X23 := X11.trans E19
  obtain ⟨b24, M25, eb26, em27, g28, E29, hM30⟩ := new_t hM20 ⟨[sln, sln], 25, 2, 0, true⟩
  have nb24 : M.next ≤ b24 := by rw [← eb26]; exact X23.next
  have dy12sb24 : y12s ≠ b24 := by have := Mem.lt_of_get y12h1; omega
  have dy12fb24 : y12f ≠ b24 := by have := Mem.lt_of_get y12h2; omega
  have g31 := E29.old y12h1
  have g32 := E29.old y12h2
  have X33 := X23.trans E29
  obtain ⟨M34, q35, g36, kp37, X38, hM39, nx40⟩ := store_t (o := 0) (v := (.agg ⟨[(sli y12s 0 (nN x) (nN x)), (sli y12f 0 (nN x) (nN x))]⟩)) (new := [(sli y12s 0 (nN x) (nN x)), (sli y12f 0 (nN x) (nN x))]) X33 nb24 hM30 dS25 g28 rfl rfl (Nat.zero_le _) (Nat.le_of_ble_eq_true rfl) rfl
  replace g36 : M34.get b24 = some ⟨[(sli y12s 0 (nN x) (nN x)), (sli y12f 0 (nN x) (nN x))], 25, 2, 0, true⟩ := g36
  have g41 := (kp37 _ dy12sb24).trans g31
  have g42 := (kp37 _ dy12fb24).trans g32
  obtain ⟨w44, N45, M46, p47, l48, e49, E50, hM51, Q52, G53⟩ := call_t (P := Tryd.prog) (GL := [0]) (f := 18) hM39 (Con.gl (con18 aw cw ws 12 4 (by decide) (MemOk.log hM39) (hw.Ext X38).log))
  have g54 := E50.old g41
  have g55 := E50.old g42
  have g56 := E50.old g36
  obtain ⟨w43b, w43w⟩ := Qword.val (mx := 12) (hw.Ext X38).log Q52
  have w43f0 := w43w.flat hwl3
  obtain ⟨w43a, w43c, ew44⟩ := w43w.shape
  subst ew44
  have w43f : FlatAt 1 M46 _ _ := w43f0.ext fun id k g => by rw [G53]; exact g
  have X57 := X38.trans E50
  obtain ⟨b58, M59, eb60, em61, g62, E63, hM64⟩ := new_t hM51 ⟨[(.slice w43a (Ww ws).length w43c), (.slice ra raw.length rc), sln], 26, 1, 0, true⟩
  have nb58 : M.next ≤ b58 := by rw [← eb60]; exact X57.next
  have dy12sb58 : y12s ≠ b58 := by have := Mem.lt_of_get g54; omega
  have dy12fb58 : y12f ≠ b58 := by have := Mem.lt_of_get g55; omega
  have db24b58 : b24 ≠ b58 := by have := Mem.lt_of_get g56; omega
  have g65 := E63.old g54
  have g66 := E63.old g55
  have g67 := E63.old g56
  have X68 := X57.trans E63
  have hw69 := w43f.Ext E63
  obtain ⟨R70, eR71⟩ : ∃ m : Mem, m = Mem.mk M59.blks M59.next M59.hide [] := ⟨_, rfl⟩
  have X72 : Ext (Mem.mk M.blks M.next M.hide []) R70 := by rw [eR71]; exact Ext.aside (X68)
  have lg73 : R70.log = [] := by rw [eR71]
  have nxR70 : R70.next = M59.next := by rw [eR71]
  have hM74 : MemOk R70 := by rw [eR71]; exact MemOk.log hM64
  have lty12sM59 : y12s < M59.next := by have h := Mem.lt_of_get g65; exact h
  have g75 : R70.get y12s = some ⟨(irows (Rr x ns y)).flatten, 31, 5, 0, true⟩ := by rw [eR71]; exact g65
  have lty12fM59 : y12f < M59.next := by have h := Mem.lt_of_get g66; exact h
  have g76 : R70.get y12f = some ⟨(brows (Aa x y)).flatten, 4, 1, 0, true⟩ := by rw [eR71]; exact g66
  have ltb24M59 : b24 < M59.next := by have h := Mem.lt_of_get g67; exact h
  have g77 : R70.get b24 = some ⟨[(sli y12s 0 (nN x) (nN x)), (sli y12f 0 (nN x) (nN x))], 25, 2, 0, true⟩ := by rw [eR71]; exact g67
  have ltb58M59 : b58 < M59.next := by have h := Mem.lt_of_get g62; exact h
  have g78 : R70.get b58 = some ⟨[(.slice w43a (Ww ws).length w43c), (.slice ra raw.length rc), sln], 26, 1, 0, true⟩ := by rw [eR71]; exact g62
  have hw79 : FlatAt 1 R70 _ _ := hw69.ext (fun id k g => by rw [eR71]; exact g)
  obtain ⟨w80, N81, M82, p83, l84, e85, E86, hM87, Q88, G89⟩ := call_t (P := Tryd.prog) (GL := [0]) (f := 17) hM74 (Con.gl (con17 from_ (((nN x : Nat) : Int)) (by simp <;> omega)))
  have g90 := E86.old g75
  have g91 := E86.old g76
  have g92 := E86.old g77
  have g93 := E86.old g78
  have ew80 : w80 = (i64 (modI from_ (((nN x : Nat) : Int)))) := (Option.some.inj Q88.1).symm
  subst ew80
  have nxM82 : M82.next = R70.next := by rw [← e85]; exact Q88.2
  have lg94 : M82.log = [] := by rw [← e85]; exact lg73
  have X95 := X72.trans E86
  have hw96 := hw79.Ext E86
  obtain ⟨b97, M98, eb99, em100, g101, E102, hM103⟩ := new_t hM87 ⟨[(i64 (modI from_ (((nN x : Nat) : Int)))), (i64 from_), (i64 0), (i64 (-1)), (i64 (((nN x : Nat) : Int)))], 3, 1, 0, true⟩
  have nb97 : M.next ≤ b97 := by rw [← eb99]; exact X95.next
  have dy12sb97 : y12s ≠ b97 := by have := Mem.lt_of_get g90; omega
  have dy12fb97 : y12f ≠ b97 := by have := Mem.lt_of_get g91; omega
  have db24b97 : b24 ≠ b97 := by have := Mem.lt_of_get g92; omega
  have db58b97 : b58 ≠ b97 := by have := Mem.lt_of_get g93; omega
  have g104 := E102.old g90
  have g105 := E102.old g91
  have g106 := E102.old g92
  have g107 := E102.old g93
  have lg108 : M98.log = [] := by rw [← em100]; exact lg94
  have X109 := X95.trans E102
  have hw110 := hw96.Ext E102
  obtain ⟨M111, ef112⟩ : ∃ m : Mem, m = (Mem.mk M98.blks M98.next M98.hide (M98.log ++ M59.log)) := ⟨_, rfl⟩
  have X113 : Ext M M111 := by rw [ef112]; exact Ext.join (X68) (X109)
  have hM114 : MemOk M111 := by rw [ef112]; exact hM103
  have g115 : M111.get y12s = some ⟨(irows (Rr x ns y)).flatten, 31, 5, 0, true⟩ := by rw [ef112]; exact g104
  have g116 : M111.get y12f = some ⟨(brows (Aa x y)).flatten, 4, 1, 0, true⟩ := by rw [ef112]; exact g105
  have g117 : M111.get b24 = some ⟨[(sli y12s 0 (nN x) (nN x)), (sli y12f 0 (nN x) (nN x))], 25, 2, 0, true⟩ := by rw [ef112]; exact g106
  have g118 : M111.get b58 = some ⟨[(.slice w43a (Ww ws).length w43c), (.slice ra raw.length rc), sln], 26, 1, 0, true⟩ := by rw [ef112]; exact g107
  have g119 : M111.get b97 = some ⟨[(i64 (modI from_ (((nN x : Nat) : Int)))), (i64 from_), (i64 0), (i64 (-1)), (i64 (((nN x : Nat) : Int)))], 3, 1, 0, true⟩ := by rw [ef112]; exact g101
  have hw120 : FlatAt 1 M111 _ _ := hw110.ext (fun id k g => by rw [ef112]; exact g)
  obtain ⟨R121, eR122⟩ : ∃ m : Mem, m = Mem.mk M111.blks M111.next M111.hide [] := ⟨_, rfl⟩
  have X123 : Ext (Mem.mk M.blks M.next M.hide []) R121 := by rw [eR122]; exact Ext.aside (X113)
  have lg124 : R121.log = [] := by rw [eR122]
  have nxR121 : R121.next = M111.next := by rw [eR122]
  have hM125 : MemOk R121 := by rw [eR122]; exact MemOk.log hM114
  have lty12sM111 : y12s < M98.next := by have h := Mem.lt_of_get g115; rw [ef112] at h; exact h
  have g126 : R121.get y12s = some ⟨(irows (Rr x ns y)).flatten, 31, 5, 0, true⟩ := by rw [eR122]; exact g115
  have lty12fM111 : y12f < M98.next := by have h := Mem.lt_of_get g116; rw [ef112] at h; exact h
  have g127 : R121.get y12f = some ⟨(brows (Aa x y)).flatten, 4, 1, 0, true⟩ := by rw [eR122]; exact g116
  have ltb24M111 : b24 < M98.next := by have h := Mem.lt_of_get g117; rw [ef112] at h; exact h
  have g128 : R121.get b24 = some ⟨[(sli y12s 0 (nN x) (nN x)), (sli y12f 0 (nN x) (nN x))], 25, 2, 0, true⟩ := by rw [eR122]; exact g117
  have ltb58M111 : b58 < M98.next := by have h := Mem.lt_of_get g118; rw [ef112] at h; exact h
  have g129 : R121.get b58 = some ⟨[(.slice w43a (Ww ws).length w43c), (.slice ra raw.length rc), sln], 26, 1, 0, true⟩ := by rw [eR122]; exact g118
  have ltb97M111 : b97 < M98.next := by have h := Mem.lt_of_get g119; rw [ef112] at h; exact h
  have g130 : R121.get b97 = some ⟨[(i64 (modI from_ (((nN x : Nat) : Int)))), (i64 from_), (i64 0), (i64 (-1)), (i64 (((nN x : Nat) : Int)))], 3, 1, 0, true⟩ := by rw [eR122]; exact g119
  have hw131 : FlatAt 1 R121 _ _ := hw120.ext (fun id k g => by rw [eR122]; exact g)
  obtain ⟨w132, N133, M134, p135, l136, e137, E138, hM139, Q140, G141⟩ := call_t (P := Tryd.prog) (GL := [0]) (f := 19) hM125 (Con.gl (con19 (modI from_ (((nN x : Nat) : Int))) (MemOk.log hM125) (mkAt g126 rfl g127 rfl).log hw131.log))
  have g142 := E138.old g126
  have g143 := E138.old g127
  have g144 := E138.old g128
  have g145 := E138.old g129
  have g146 := E138.old g130
  have ew132 := Qgo.val (mkAt g126 rfl g127 rfl).log hw131.log Q140
  subst ew132
  have lg147 : M134.log = [] := by rw [← e137]; exact lg124
  have X148 := X123.trans E138
  have hw149 := hw131.Ext E138
  have nx150 := E138.next
  obtain ⟨w151, N152, M153, p154, l155, e156, E157, hM158, Q159, G160⟩ := call_t (P := Tryd.prog) (GL := [0]) (f := 20) hM139 (Con.gl (con20 (modI from_ (((nN x : Nat) : Int))) (MemOk.log hM139) (mkAt g142 rfl g143 rfl).log hw149.log (mk_good _ _ _)))
  have g161 := E157.old g142
  have g162 := E157.old g143
  have g163 := E157.old g144
  have g164 := E157.old g145
  have g165 := E157.old g146
  have ew151 := Qgo.val (mkAt g142 rfl g143 rfl).log hw149.log Q159
  subst ew151
  have lg166 : M153.log = [] := by rw [← e156]; exact lg147
  have X167 := X148.trans E157
  have hw168 := hw149.Ext E157
  have nx169 := E157.next
  have hl170 : M111.log = (M98.log ++ M59.log) := by rw [ef112]
  obtain ⟨M171, ef172⟩ : ∃ m : Mem, m = (Mem.mk M153.blks M153.next M153.hide (M153.log ++ (M98.log ++ M59.log))) := ⟨_, rfl⟩
  have X173 : Ext M M171 := by rw [ef172, ← hl170]; exact Ext.join (X113) (X167)
  have hM174 : MemOk M171 := by rw [ef172]; exact hM158
  have g175 : M171.get y12s = some ⟨(irows (Rr x ns y)).flatten, 31, 5, 0, true⟩ := by rw [ef172]; exact g161
  have g176 : M171.get y12f = some ⟨(brows (Aa x y)).flatten, 4, 1, 0, true⟩ := by rw [ef172]; exact g162
  have g177 : M171.get b24 = some ⟨[(sli y12s 0 (nN x) (nN x)), (sli y12f 0 (nN x) (nN x))], 25, 2, 0, true⟩ := by rw [ef172]; exact g163
  have g178 : M171.get b58 = some ⟨[(.slice w43a (Ww ws).length w43c), (.slice ra raw.length rc), sln], 26, 1, 0, true⟩ := by rw [ef172]; exact g164
  have g179 : M171.get b97 = some ⟨[(i64 (modI from_ (((nN x : Nat) : Int)))), (i64 from_), (i64 0), (i64 (-1)), (i64 (((nN x : Nat) : Int)))], 3, 1, 0, true⟩ := by rw [ef172]; exact g165
  have hw180 : FlatAt 1 M171 _ _ := hw168.ext (fun id k g => by rw [ef172]; exact g)
  obtain ⟨R181, eR182⟩ : ∃ m : Mem, m = Mem.mk M171.blks M171.next M171.hide [] := ⟨_, rfl⟩
  have X183 : Ext (Mem.mk M.blks M.next M.hide []) R181 := by rw [eR182]; exact Ext.aside (X173)
  have lg184 : R181.log = [] := by rw [eR182]
  have nxR181 : R181.next = M171.next := by rw [eR182]
  have hM185 : MemOk R181 := by rw [eR182]; exact MemOk.log hM174
  have lty12sM171 : y12s < M153.next := by have h := Mem.lt_of_get g175; rw [ef172] at h; exact h
  have g186 : R181.get y12s = some ⟨(irows (Rr x ns y)).flatten, 31, 5, 0, true⟩ := by rw [eR182]; exact g175
  have lty12fM171 : y12f < M153.next := by have h := Mem.lt_of_get g176; rw [ef172] at h; exact h
  have g187 : R181.get y12f = some ⟨(brows (Aa x y)).flatten, 4, 1, 0, true⟩ := by rw [eR182]; exact g176
  have ltb24M171 : b24 < M153.next := by have h := Mem.lt_of_get g177; rw [ef172] at h; exact h
  have g188 : R181.get b24 = some ⟨[(sli y12s 0 (nN x) (nN x)), (sli y12f 0 (nN x) (nN x))], 25, 2, 0, true⟩ := by rw [eR182]; exact g177
  have ltb58M171 : b58 < M153.next := by have h := Mem.lt_of_get g178; rw [ef172] at h; exact h
  have g189 : R181.get b58 = some ⟨[(.slice w43a (Ww ws).length w43c), (.slice ra raw.length rc), sln], 26, 1, 0, true⟩ := by rw [eR182]; exact g178
  have ltb97M171 : b97 < M153.next := by have h := Mem.lt_of_get g179; rw [ef172] at h; exact h
  have g190 : R181.get b97 = some ⟨[(i64 (modI from_ (((nN x : Nat) : Int)))), (i64 from_), (i64 0), (i64 (-1)), (i64 (((nN x : Nat) : Int)))], 3, 1, 0, true⟩ := by rw [eR182]; exact g179
  have hw191 : FlatAt 1 R181 _ _ := hw180.ext (fun id k g => by rw [eR182]; exact g)
  obtain ⟨w192, N193, M194, p195, l196, e197, E198, hM199, Q200, G201⟩ := call_t (P := Tryd.prog) (GL := [0]) (f := 19) hM185 (Con.gl (con19 from_ (MemOk.log hM185) (mkAt g186 rfl g187 rfl).log hw191.log))
  have g202 := E198.old g186
  have g203 := E198.old g187
  have g204 := E198.old g188
  have g205 := E198.old g189
  have g206 := E198.old g190
  have ew192 := Qgo.val (mkAt g186 rfl g187 rfl).log hw191.log Q200
  subst ew192
  have lg207 : M194.log = [] := by rw [← e197]; exact lg184
  have X208 := X183.trans E198
  have hw209 := hw191.Ext E198
  have nx210 := E198.next
  obtain ⟨w211, N212, M213, p214, l215, e216, E217, hM218, Q219, G220⟩ := call_t (P := Tryd.prog) (GL := [0]) (f := 20) hM199 (Con.gl (con20 from_ (MemOk.log hM199) (mkAt g202 rfl g203 rfl).log hw209.log (mk_good _ _ _)))
  have g221 := E217.old g202
  have g222 := E217.old g203
  have g223 := E217.old g204
  have g224 := E217.old g205
  have g225 := E217.old g206
  have ew211 := Qgo.val (mkAt g202 rfl g203 rfl).log hw209.log Q219
  subst ew211
  have lg226 : M213.log = [] := by rw [← e216]; exact lg207
  have X227 := X208.trans E217
  have hw228 := hw209.Ext E217
  have nx229 := E217.next
  have hl230 : M171.log = (M153.log ++ (M98.log ++ M59.log)) := by rw [ef172]
  obtain ⟨M231, ef232⟩ : ∃ m : Mem, m = (Mem.mk M213.blks M213.next M213.hide (M213.log ++ (M153.log ++ (M98.log ++ M59.log)))) := ⟨_, rfl⟩
  have X233 : Ext M M231 := by rw [ef232, ← hl230]; exact Ext.join (X173) (X227)
  have hM234 : MemOk M231 := by rw [ef232]; exact hM218
  have g235 : M231.get y12s = some ⟨(irows (Rr x ns y)).flatten, 31, 5, 0, true⟩ := by rw [ef232]; exact g221
  have g236 : M231.get y12f = some ⟨(brows (Aa x y)).flatten, 4, 1, 0, true⟩ := by rw [ef232]; exact g222
  have g237 : M231.get b24 = some ⟨[(sli y12s 0 (nN x) (nN x)), (sli y12f 0 (nN x) (nN x))], 25, 2, 0, true⟩ := by rw [ef232]; exact g223
  have g238 : M231.get b58 = some ⟨[(.slice w43a (Ww ws).length w43c), (.slice ra raw.length rc), sln], 26, 1, 0, true⟩ := by rw [ef232]; exact g224
  have g239 : M231.get b97 = some ⟨[(i64 (modI from_ (((nN x : Nat) : Int)))), (i64 from_), (i64 0), (i64 (-1)), (i64 (((nN x : Nat) : Int)))], 3, 1, 0, true⟩ := by rw [ef232]; exact g225
  have hw240 : FlatAt 1 M231 _ _ := hw228.ext (fun id k g => by rw [ef232]; exact g)
  obtain ⟨R241, eR242⟩ : ∃ m : Mem, m = Mem.mk M231.blks M231.next M231.hide [] := ⟨_, rfl⟩
  have X243 : Ext (Mem.mk M.blks M.next M.hide []) R241 := by rw [eR242]; exact Ext.aside (X233)
  have lg244 : R241.log = [] := by rw [eR242]
  have nxR241 : R241.next = M231.next := by rw [eR242]
  have hM245 : MemOk R241 := by rw [eR242]; exact MemOk.log hM234
  have lty12sM231 : y12s < M213.next := by have h := Mem.lt_of_get g235; rw [ef232] at h; exact h
  have g246 : R241.get y12s = some ⟨(irows (Rr x ns y)).flatten, 31, 5, 0, true⟩ := by rw [eR242]; exact g235
  have lty12fM231 : y12f < M213.next := by have h := Mem.lt_of_get g236; rw [ef232] at h; exact h
  have g247 : R241.get y12f = some ⟨(brows (Aa x y)).flatten, 4, 1, 0, true⟩ := by rw [eR242]; exact g236
  have ltb24M231 : b24 < M213.next := by have h := Mem.lt_of_get g237; rw [ef232] at h; exact h
  have g248 : R241.get b24 = some ⟨[(sli y12s 0 (nN x) (nN x)), (sli y12f 0 (nN x) (nN x))], 25, 2, 0, true⟩ := by rw [eR242]; exact g237
  have ltb58M231 : b58 < M213.next := by have h := Mem.lt_of_get g238; rw [ef232] at h; exact h
  have g249 : R241.get b58 = some ⟨[(.slice w43a (Ww ws).length w43c), (.slice ra raw.length rc), sln], 26, 1, 0, true⟩ := by rw [eR242]; exact g238
  have ltb97M231 : b97 < M213.next := by have h := Mem.lt_of_get g239; rw [ef232] at h; exact h
  have g250 : R241.get b97 = some ⟨[(i64 (modI from_ (((nN x : Nat) : Int)))), (i64 from_), (i64 0), (i64 (-1)), (i64 (((nN x : Nat) : Int)))], 3, 1, 0, true⟩ := by rw [eR242]; exact g239
  have hw251 : FlatAt 1 R241 _ _ := hw240.ext (fun id k g => by rw [eR242]; exact g)
  obtain ⟨w252, N253, M254, p255, l256, e257, E258, hM259, Q260, G261⟩ := call_t (P := Tryd.prog) (GL := [0]) (f := 19) hM245 (Con.gl (con19 0 (MemOk.log hM245) (mkAt g246 rfl g247 rfl).log hw251.log))
  have g262 := E258.old g246
  have g263 := E258.old g247
  have g264 := E258.old g248
  have g265 := E258.old g249
  have g266 := E258.old g250
  have ew252 := Qgo.val (mkAt g246 rfl g247 rfl).log hw251.log Q260
  subst ew252
  have lg267 : M254.log = [] := by rw [← e257]; exact lg244
  have X268 := X243.trans E258
  have hw269 := hw251.Ext E258
  have nx270 := E258.next
  obtain ⟨w271, N272, M273, p274, l275, e276, E277, hM278, Q279, G280⟩ := call_t (P := Tryd.prog) (GL := [0]) (f := 20) hM259 (Con.gl (con20 0 (MemOk.log hM259) (mkAt g262 rfl g263 rfl).log hw269.log (mk_good _ _ _)))
  have g281 := E277.old g262
  have g282 := E277.old g263
  have g283 := E277.old g264
  have g284 := E277.old g265
  have g285 := E277.old g266
  have ew271 := Qgo.val (mkAt g262 rfl g263 rfl).log hw269.log Q279
  subst ew271
  have lg286 : M273.log = [] := by rw [← e276]; exact lg267
  have X287 := X268.trans E277
  have hw288 := hw269.Ext E277
  have nx289 := E277.next
  have hl290 : M231.log = (M213.log ++ (M153.log ++ (M98.log ++ M59.log))) := by rw [ef232]
  obtain ⟨M291, ef292⟩ : ∃ m : Mem, m = (Mem.mk M273.blks M273.next M273.hide (M273.log ++ (M213.log ++ (M153.log ++ (M98.log ++ M59.log))))) := ⟨_, rfl⟩
  have X293 : Ext M M291 := by rw [ef292, ← hl290]; exact Ext.join (X233) (X287)
  have hM294 : MemOk M291 := by rw [ef292]; exact hM278
  have g295 : M291.get y12s = some ⟨(irows (Rr x ns y)).flatten, 31, 5, 0, true⟩ := by rw [ef292]; exact g281
  have g296 : M291.get y12f = some ⟨(brows (Aa x y)).flatten, 4, 1, 0, true⟩ := by rw [ef292]; exact g282
  have g297 : M291.get b24 = some ⟨[(sli y12s 0 (nN x) (nN x)), (sli y12f 0 (nN x) (nN x))], 25, 2, 0, true⟩ := by rw [ef292]; exact g283
  have g298 : M291.get b58 = some ⟨[(.slice w43a (Ww ws).length w43c), (.slice ra raw.length rc), sln], 26, 1, 0, true⟩ := by rw [ef292]; exact g284
  have g299 : M291.get b97 = some ⟨[(i64 (modI from_ (((nN x : Nat) : Int)))), (i64 from_), (i64 0), (i64 (-1)), (i64 (((nN x : Nat) : Int)))], 3, 1, 0, true⟩ := by rw [ef292]; exact g285
  have hw300 : FlatAt 1 M291 _ _ := hw288.ext (fun id k g => by rw [ef292]; exact g)
  obtain ⟨R301, eR302⟩ : ∃ m : Mem, m = Mem.mk M291.blks M291.next M291.hide [] := ⟨_, rfl⟩
  have X303 : Ext (Mem.mk M.blks M.next M.hide []) R301 := by rw [eR302]; exact Ext.aside (X293)
  have lg304 : R301.log = [] := by rw [eR302]
  have nxR301 : R301.next = M291.next := by rw [eR302]
  have hM305 : MemOk R301 := by rw [eR302]; exact MemOk.log hM294
  have lty12sM291 : y12s < M273.next := by have h := Mem.lt_of_get g295; rw [ef292] at h; exact h
  have g306 : R301.get y12s = some ⟨(irows (Rr x ns y)).flatten, 31, 5, 0, true⟩ := by rw [eR302]; exact g295
  have lty12fM291 : y12f < M273.next := by have h := Mem.lt_of_get g296; rw [ef292] at h; exact h
  have g307 : R301.get y12f = some ⟨(brows (Aa x y)).flatten, 4, 1, 0, true⟩ := by rw [eR302]; exact g296
  have ltb24M291 : b24 < M273.next := by have h := Mem.lt_of_get g297; rw [ef292] at h; exact h
  have g308 : R301.get b24 = some ⟨[(sli y12s 0 (nN x) (nN x)), (sli y12f 0 (nN x) (nN x))], 25, 2, 0, true⟩ := by rw [eR302]; exact g297
  have ltb58M291 : b58 < M273.next := by have h := Mem.lt_of_get g298; rw [ef292] at h; exact h
  have g309 : R301.get b58 = some ⟨[(.slice w43a (Ww ws).length w43c), (.slice ra raw.length rc), sln], 26, 1, 0, true⟩ := by rw [eR302]; exact g298
  have ltb97M291 : b97 < M273.next := by have h := Mem.lt_of_get g299; rw [ef292] at h; exact h
  have g310 : R301.get b97 = some ⟨[(i64 (modI from_ (((nN x : Nat) : Int)))), (i64 from_), (i64 0), (i64 (-1)), (i64 (((nN x : Nat) : Int)))], 3, 1, 0, true⟩ := by rw [eR302]; exact g299
  have hw311 : FlatAt 1 R301 _ _ := hw300.ext (fun id k g => by rw [eR302]; exact g)
  obtain ⟨w312, N313, M314, p315, l316, e317, E318, hM319, Q320, G321⟩ := call_t (P := Tryd.prog) (GL := [0]) (f := 19) hM305 (Con.gl (con19 (-1) (MemOk.log hM305) (mkAt g306 rfl g307 rfl).log hw311.log))
  have g322 := E318.old g306
  have g323 := E318.old g307
  have g324 := E318.old g308
  have g325 := E318.old g309
  have g326 := E318.old g310
  have ew312 := Qgo.val (mkAt g306 rfl g307 rfl).log hw311.log Q320
  subst ew312
  have lg327 : M314.log = [] := by rw [← e317]; exact lg304
  have X328 := X303.trans E318
  have hw329 := hw311.Ext E318
  have nx330 := E318.next
  obtain ⟨w331, N332, M333, p334, l335, e336, E337, hM338, Q339, G340⟩ := call_t (P := Tryd.prog) (GL := [0]) (f := 20) hM319 (Con.gl (con20 (-1) (MemOk.log hM319) (mkAt g322 rfl g323 rfl).log hw329.log (mk_good _ _ _)))
  have g341 := E337.old g322
  have g342 := E337.old g323
  have g343 := E337.old g324
  have g344 := E337.old g325
  have g345 := E337.old g326
  have ew331 := Qgo.val (mkAt g322 rfl g323 rfl).log hw329.log Q339
  subst ew331
  have lg346 : M333.log = [] := by rw [← e336]; exact lg327
  have X347 := X328.trans E337
  have hw348 := hw329.Ext E337
  have nx349 := E337.next
  have hl350 : M291.log = (M273.log ++ (M213.log ++ (M153.log ++ (M98.log ++ M59.log)))) := by rw [ef292]
  obtain ⟨M351, ef352⟩ : ∃ m : Mem, m = (Mem.mk M333.blks M333.next M333.hide (M333.log ++ (M273.log ++ (M213.log ++ (M153.log ++ (M98.log ++ M59.log)))))) := ⟨_, rfl⟩
  have X353 : Ext M M351 := by rw [ef352, ← hl350]; exact Ext.join (X293) (X347)
  have hM354 : MemOk M351 := by rw [ef352]; exact hM338
  have g355 : M351.get y12s = some ⟨(irows (Rr x ns y)).flatten, 31, 5, 0, true⟩ := by rw [ef352]; exact g341
  have g356 : M351.get y12f = some ⟨(brows (Aa x y)).flatten, 4, 1, 0, true⟩ := by rw [ef352]; exact g342
  have g357 : M351.get b24 = some ⟨[(sli y12s 0 (nN x) (nN x)), (sli y12f 0 (nN x) (nN x))], 25, 2, 0, true⟩ := by rw [ef352]; exact g343
  have g358 : M351.get b58 = some ⟨[(.slice w43a (Ww ws).length w43c), (.slice ra raw.length rc), sln], 26, 1, 0, true⟩ := by rw [ef352]; exact g344
  have g359 : M351.get b97 = some ⟨[(i64 (modI from_ (((nN x : Nat) : Int)))), (i64 from_), (i64 0), (i64 (-1)), (i64 (((nN x : Nat) : Int)))], 3, 1, 0, true⟩ := by rw [ef352]; exact g345
  have hw360 : FlatAt 1 M351 _ _ := hw348.ext (fun id k g => by rw [ef352]; exact g)
  obtain ⟨R361, eR362⟩ : ∃ m : Mem, m = Mem.mk M351.blks M351.next M351.hide [] := ⟨_, rfl⟩
  have X363 : Ext (Mem.mk M.blks M.next M.hide []) R361 := by rw [eR362]; exact Ext.aside (X353)
  have lg364 : R361.log = [] := by rw [eR362]
  have nxR361 : R361.next = M351.next := by rw [eR362]
  have hM365 : MemOk R361 := by rw [eR362]; exact MemOk.log hM354
  have lty12sM351 : y12s < M333.next := by have h := Mem.lt_of_get g355; rw [ef352] at h; exact h
  have g366 : R361.get y12s = some ⟨(irows (Rr x ns y)).flatten, 31, 5, 0, true⟩ := by rw [eR362]; exact g355
  have lty12fM351 : y12f < M333.next := by have h := Mem.lt_of_get g356; rw [ef352] at h; exact h
  have g367 : R361.get y12f = some ⟨(brows (Aa x y)).flatten, 4, 1, 0, true⟩ := by rw [eR362]; exact g356
  have ltb24M351 : b24 < M333.next := by have h := Mem.lt_of_get g357; rw [ef352] at h; exact h
  have g368 : R361.get b24 = some ⟨[(sli y12s 0 (nN x) (nN x)), (sli y12f 0 (nN x) (nN x))], 25, 2, 0, true⟩ := by rw [eR362]; exact g357
  have ltb58M351 : b58 < M333.next := by have h := Mem.lt_of_get g358; rw [ef352] at h; exact h
  have g369 : R361.get b58 = some ⟨[(.slice w43a (Ww ws).length w43c), (.slice ra raw.length rc), sln], 26, 1, 0, true⟩ := by rw [eR362]; exact g358
  have ltb97M351 : b97 < M333.next := by have h := Mem.lt_of_get g359; rw [ef352] at h; exact h
  have g370 : R361.get b97 = some ⟨[(i64 (modI from_ (((nN x : Nat) : Int)))), (i64 from_), (i64 0), (i64 (-1)), (i64 (((nN x : Nat) : Int)))], 3, 1, 0, true⟩ := by rw [eR362]; exact g359
  have hw371 : FlatAt 1 R361 _ _ := hw360.ext (fun id k g => by rw [eR362]; exact g)
  obtain ⟨w372, N373, M374, p375, l376, e377, E378, hM379, Q380, G381⟩ := call_t (P := Tryd.prog) (GL := [0]) (f := 19) hM365 (Con.gl (con19 (((nN x : Nat) : Int)) (MemOk.log hM365) (mkAt g366 rfl g367 rfl).log hw371.log))
  have g382 := E378.old g366
  have g383 := E378.old g367
  have g384 := E378.old g368
  have g385 := E378.old g369
  have g386 := E378.old g370
  have ew372 := Qgo.val (mkAt g366 rfl g367 rfl).log hw371.log Q380
  subst ew372
  have lg387 : M374.log = [] := by rw [← e377]; exact lg364
  have X388 := X363.trans E378
  have hw389 := hw371.Ext E378
  have nx390 := E378.next
  obtain ⟨w391, N392, M393, p394, l395, e396, E397, hM398, Q399, G400⟩ := call_t (P := Tryd.prog) (GL := [0]) (f := 20) hM379 (Con.gl (con20 (((nN x : Nat) : Int)) (MemOk.log hM379) (mkAt g382 rfl g383 rfl).log hw389.log (mk_good _ _ _)))
  have g401 := E397.old g382
  have g402 := E397.old g383
  have g403 := E397.old g384
  have g404 := E397.old g385
  have g405 := E397.old g386
  have ew391 := Qgo.val (mkAt g382 rfl g383 rfl).log hw389.log Q399
  subst ew391
  have lg406 : M393.log = [] := by rw [← e396]; exact lg387
  have X407 := X388.trans E397
  have hw408 := hw389.Ext E397
  have nx409 := E397.next
  have hl410 : M351.log = (M333.log ++ (M273.log ++ (M213.log ++ (M153.log ++ (M98.log ++ M59.log))))) := by rw [ef352]
  obtain ⟨M411, ef412⟩ : ∃ m : Mem, m = (Mem.mk M393.blks M393.next M393.hide (M393.log ++ (M333.log ++ (M273.log ++ (M213.log ++ (M153.log ++ (M98.log ++ M59.log))))))) := ⟨_, rfl⟩
  have X413 : Ext M M411 := by rw [ef412, ← hl410]; exact Ext.join (X353) (X407)
  have hM414 : MemOk M411 := by rw [ef412]; exact hM398
  have g415 : M411.get y12s = some ⟨(irows (Rr x ns y)).flatten, 31, 5, 0, true⟩ := by rw [ef412]; exact g401
  have g416 : M411.get y12f = some ⟨(brows (Aa x y)).flatten, 4, 1, 0, true⟩ := by rw [ef412]; exact g402
  have g417 : M411.get b24 = some ⟨[(sli y12s 0 (nN x) (nN x)), (sli y12f 0 (nN x) (nN x))], 25, 2, 0, true⟩ := by rw [ef412]; exact g403
  have g418 : M411.get b58 = some ⟨[(.slice w43a (Ww ws).length w43c), (.slice ra raw.length rc), sln], 26, 1, 0, true⟩ := by rw [ef412]; exact g404
  have g419 : M411.get b97 = some ⟨[(i64 (modI from_ (((nN x : Nat) : Int)))), (i64 from_), (i64 0), (i64 (-1)), (i64 (((nN x : Nat) : Int)))], 3, 1, 0, true⟩ := by rw [ef412]; exact g405
  have hw420 : FlatAt 1 M411 _ _ := hw408.ext (fun id k g => by rw [ef412]; exact g)
  obtain ⟨R421, eR422⟩ : ∃ m : Mem, m = Mem.mk M411.blks M411.next M411.hide [] := ⟨_, rfl⟩
  have X423 : Ext (Mem.mk M.blks M.next M.hide []) R421 := by rw [eR422]; exact Ext.aside (X413)
  have lg424 : R421.log = [] := by rw [eR422]
  have nxR421 : R421.next = M411.next := by rw [eR422]
  have hM425 : MemOk R421 := by rw [eR422]; exact MemOk.log hM414
  have lty12sM411 : y12s < M393.next := by have h := Mem.lt_of_get g415; rw [ef412] at h; exact h
  have g426 : R421.get y12s = some ⟨(irows (Rr x ns y)).flatten, 31, 5, 0, true⟩ := by rw [eR422]; exact g415
  have lty12fM411 : y12f < M393.next := by have h := Mem.lt_of_get g416; rw [ef412] at h; exact h
  have g427 : R421.get y12f = some ⟨(brows (Aa x y)).flatten, 4, 1, 0, true⟩ := by rw [eR422]; exact g416
  have ltb24M411 : b24 < M393.next := by have h := Mem.lt_of_get g417; rw [ef412] at h; exact h
  have g428 : R421.get b24 = some ⟨[(sli y12s 0 (nN x) (nN x)), (sli y12f 0 (nN x) (nN x))], 25, 2, 0, true⟩ := by rw [eR422]; exact g417
  have ltb58M411 : b58 < M393.next := by have h := Mem.lt_of_get g418; rw [ef412] at h; exact h
  have g429 : R421.get b58 = some ⟨[(.slice w43a (Ww ws).length w43c), (.slice ra raw.length rc), sln], 26, 1, 0, true⟩ := by rw [eR422]; exact g418
  have ltb97M411 : b97 < M393.next := by have h := Mem.lt_of_get g419; rw [ef412] at h; exact h
  have g430 : R421.get b97 = some ⟨[(i64 (modI from_ (((nN x : Nat) : Int)))), (i64 from_), (i64 0), (i64 (-1)), (i64 (((nN x : Nat) : Int)))], 3, 1, 0, true⟩ := by rw [eR422]; exact g419
  have hw431 : FlatAt 1 R421 _ _ := hw420.ext (fun id k g => by rw [eR422]; exact g)
  obtain ⟨w432, N433, M434, p435, l436, e437, E438, hM439, Q440, G441⟩ := call_t (P := Tryd.prog) (GL := [0]) (f := 21) hM425 (Con.gl (con21 (MemOk.log hM425) (mkAt g426 rfl g427 rfl).log hw431.log))
  have g442 := E438.old g426
  have g443 := E438.old g427
  have g444 := E438.old g428
  have g445 := E438.old g429
  have g446 := E438.old g430
  have ew432 := Qrun.val (mkAt g426 rfl g427 rfl).log hw431.log Q440
  subst ew432
  have lg447 : M434.log = [] := by rw [← e437]; exact lg424
  have X448 := X423.trans E438
  have hw449 := hw431.Ext E438
  have nx450 := E438.next
  obtain ⟨w451, N452, M453, p454, l455, e456, E457, hM458, Q459, G460⟩ := call_t (P := Tryd.prog) (GL := [0]) (f := 22) hM439 (Con.gl (con22 (MemOk.log hM439) (mkAt g442 rfl g443 rfl).log hw449.log (mk_good _ _ _) (by rw [rowsI_len, accsI_len])))
  have g461 := E457.old g442
  have g462 := E457.old g443
  have g463 := E457.old g444
  have g464 := E457.old g445
  have g465 := E457.old g446
  have ew451 := Qrun.val (mkAt g442 rfl g443 rfl).log hw449.log Q459
  subst ew451
  have lg466 : M453.log = [] := by rw [← e456]; exact lg447
  have X467 := X448.trans E457
  have hw468 := hw449.Ext E457
  have nx469 := E457.next
  have hl470 : M411.log = (M393.log ++ (M333.log ++ (M273.log ++ (M213.log ++ (M153.log ++ (M98.log ++ M59.log)))))) := by rw [ef412]
  obtain ⟨M471, ef472⟩ : ∃ m : Mem, m = (Mem.mk M453.blks M453.next M453.hide (M453.log ++ (M393.log ++ (M333.log ++ (M273.log ++ (M213.log ++ (M153.log ++ (M98.log ++ M59.log)))))))) := ⟨_, rfl⟩
  have X473 : Ext M M471 := by rw [ef472, ← hl470]; exact Ext.join (X413) (X467)
  have hM474 : MemOk M471 := by rw [ef472]; exact hM458
  have g475 : M471.get y12s = some ⟨(irows (Rr x ns y)).flatten, 31, 5, 0, true⟩ := by rw [ef472]; exact g461
  have g476 : M471.get y12f = some ⟨(brows (Aa x y)).flatten, 4, 1, 0, true⟩ := by rw [ef472]; exact g462
  have g477 : M471.get b24 = some ⟨[(sli y12s 0 (nN x) (nN x)), (sli y12f 0 (nN x) (nN x))], 25, 2, 0, true⟩ := by rw [ef472]; exact g463
  have g478 : M471.get b58 = some ⟨[(.slice w43a (Ww ws).length w43c), (.slice ra raw.length rc), sln], 26, 1, 0, true⟩ := by rw [ef472]; exact g464
  have g479 : M471.get b97 = some ⟨[(i64 (modI from_ (((nN x : Nat) : Int)))), (i64 from_), (i64 0), (i64 (-1)), (i64 (((nN x : Nat) : Int)))], 3, 1, 0, true⟩ := by rw [ef472]; exact g465
  have hw480 : FlatAt 1 M471 _ _ := hw468.ext (fun id k g => by rw [ef472]; exact g)
  obtain ⟨R481, eR482⟩ : ∃ m : Mem, m = Mem.mk M471.blks M471.next M471.hide [] := ⟨_, rfl⟩
  have X483 : Ext (Mem.mk M.blks M.next M.hide []) R481 := by rw [eR482]; exact Ext.aside (X473)
  have lg484 : R481.log = [] := by rw [eR482]
  have nxR481 : R481.next = M471.next := by rw [eR482]
  have hM485 : MemOk R481 := by rw [eR482]; exact MemOk.log hM474
  have lty12sM471 : y12s < M453.next := by have h := Mem.lt_of_get g475; rw [ef472] at h; exact h
  have g486 : R481.get y12s = some ⟨(irows (Rr x ns y)).flatten, 31, 5, 0, true⟩ := by rw [eR482]; exact g475
  have lty12fM471 : y12f < M453.next := by have h := Mem.lt_of_get g476; rw [ef472] at h; exact h
  have g487 : R481.get y12f = some ⟨(brows (Aa x y)).flatten, 4, 1, 0, true⟩ := by rw [eR482]; exact g476
  have ltb24M471 : b24 < M453.next := by have h := Mem.lt_of_get g477; rw [ef472] at h; exact h
  have g488 : R481.get b24 = some ⟨[(sli y12s 0 (nN x) (nN x)), (sli y12f 0 (nN x) (nN x))], 25, 2, 0, true⟩ := by rw [eR482]; exact g477
  have ltb58M471 : b58 < M453.next := by have h := Mem.lt_of_get g478; rw [ef472] at h; exact h
  have g489 : R481.get b58 = some ⟨[(.slice w43a (Ww ws).length w43c), (.slice ra raw.length rc), sln], 26, 1, 0, true⟩ := by rw [eR482]; exact g478
  have ltb97M471 : b97 < M453.next := by have h := Mem.lt_of_get g479; rw [ef472] at h; exact h
  have g490 : R481.get b97 = some ⟨[(i64 (modI from_ (((nN x : Nat) : Int)))), (i64 from_), (i64 0), (i64 (-1)), (i64 (((nN x : Nat) : Int)))], 3, 1, 0, true⟩ := by rw [eR482]; exact g479
  have hw491 : FlatAt 1 R481 _ _ := hw480.ext (fun id k g => by rw [eR482]; exact g)
  obtain ⟨w492, N493, M494, p495, l496, e497, E498, hM499, Q500, G501⟩ := call_t (P := Tryd.prog) (GL := [0]) (f := 19) hM485 (Con.gl (con19 (modI from_ (((nN x : Nat) : Int))) (MemOk.log hM485) (mkAt g486 rfl g487 rfl).log ((FlatAt.log (lg := []) hrw).Ext X483).log))
  have g502 := E498.old g486
  have g503 := E498.old g487
  have g504 := E498.old g488
  have g505 := E498.old g489
  have g506 := E498.old g490
  have ew492 := Qgo.val (mkAt g486 rfl g487 rfl).log ((FlatAt.log (lg := []) hrw).Ext X483).log Q500
  subst ew492
  have lg507 : M494.log = [] := by rw [← e497]; exact lg484
  have X508 := X483.trans E498
  have hw509 := hw491.Ext E498
  have nx510 := E498.next
  obtain ⟨w511, N512, M513, p514, l515, e516, E517, hM518, Q519, G520⟩ := call_t (P := Tryd.prog) (GL := [0]) (f := 20) hM499 (Con.gl (con20 (modI from_ (((nN x : Nat) : Int))) (MemOk.log hM499) (mkAt g502 rfl g503 rfl).log ((FlatAt.log (lg := []) hrw).Ext X508).log (mk_good _ _ _)))
  have g521 := E517.old g502
  have g522 := E517.old g503
  have g523 := E517.old g504
  have g524 := E517.old g505
  have g525 := E517.old g506
  have ew511 := Qgo.val (mkAt g502 rfl g503 rfl).log ((FlatAt.log (lg := []) hrw).Ext X508).log Q519
  subst ew511
  have lg526 : M513.log = [] := by rw [← e516]; exact lg507
  have X527 := X508.trans E517
  have hw528 := hw509.Ext E517
  have nx529 := E517.next
  have hl530 : M471.log = (M453.log ++ (M393.log ++ (M333.log ++ (M273.log ++ (M213.log ++ (M153.log ++ (M98.log ++ M59.log))))))) := by rw [ef472]
  obtain ⟨M531, ef532⟩ : ∃ m : Mem, m = (Mem.mk M513.blks M513.next M513.hide (M513.log ++ (M453.log ++ (M393.log ++ (M333.log ++ (M273.log ++ (M213.log ++ (M153.log ++ (M98.log ++ M59.log))))))))) := ⟨_, rfl⟩
  have X533 : Ext M M531 := by rw [ef532, ← hl530]; exact Ext.join (X473) (X527)
  have hM534 : MemOk M531 := by rw [ef532]; exact hM518
  have g535 : M531.get y12s = some ⟨(irows (Rr x ns y)).flatten, 31, 5, 0, true⟩ := by rw [ef532]; exact g521
  have g536 : M531.get y12f = some ⟨(brows (Aa x y)).flatten, 4, 1, 0, true⟩ := by rw [ef532]; exact g522
  have g537 : M531.get b24 = some ⟨[(sli y12s 0 (nN x) (nN x)), (sli y12f 0 (nN x) (nN x))], 25, 2, 0, true⟩ := by rw [ef532]; exact g523
  have g538 : M531.get b58 = some ⟨[(.slice w43a (Ww ws).length w43c), (.slice ra raw.length rc), sln], 26, 1, 0, true⟩ := by rw [ef532]; exact g524
  have g539 : M531.get b97 = some ⟨[(i64 (modI from_ (((nN x : Nat) : Int)))), (i64 from_), (i64 0), (i64 (-1)), (i64 (((nN x : Nat) : Int)))], 3, 1, 0, true⟩ := by rw [ef532]; exact g525
  have hw540 : FlatAt 1 M531 _ _ := hw528.ext (fun id k g => by rw [ef532]; exact g)
  obtain ⟨R541, eR542⟩ : ∃ m : Mem, m = Mem.mk M531.blks M531.next M531.hide [] := ⟨_, rfl⟩
  have X543 : Ext (Mem.mk M.blks M.next M.hide []) R541 := by rw [eR542]; exact Ext.aside (X533)
  have lg544 : R541.log = [] := by rw [eR542]
  have nxR541 : R541.next = M531.next := by rw [eR542]
  have hM545 : MemOk R541 := by rw [eR542]; exact MemOk.log hM534
  have lty12sM531 : y12s < M513.next := by have h := Mem.lt_of_get g535; rw [ef532] at h; exact h
  have g546 : R541.get y12s = some ⟨(irows (Rr x ns y)).flatten, 31, 5, 0, true⟩ := by rw [eR542]; exact g535
  have lty12fM531 : y12f < M513.next := by have h := Mem.lt_of_get g536; rw [ef532] at h; exact h
  have g547 : R541.get y12f = some ⟨(brows (Aa x y)).flatten, 4, 1, 0, true⟩ := by rw [eR542]; exact g536
  have ltb24M531 : b24 < M513.next := by have h := Mem.lt_of_get g537; rw [ef532] at h; exact h
  have g548 : R541.get b24 = some ⟨[(sli y12s 0 (nN x) (nN x)), (sli y12f 0 (nN x) (nN x))], 25, 2, 0, true⟩ := by rw [eR542]; exact g537
  have ltb58M531 : b58 < M513.next := by have h := Mem.lt_of_get g538; rw [ef532] at h; exact h
  have g549 : R541.get b58 = some ⟨[(.slice w43a (Ww ws).length w43c), (.slice ra raw.length rc), sln], 26, 1, 0, true⟩ := by rw [eR542]; exact g538
  have ltb97M531 : b97 < M513.next := by have h := Mem.lt_of_get g539; rw [ef532] at h; exact h
  have g550 : R541.get b97 = some ⟨[(i64 (modI from_ (((nN x : Nat) : Int)))), (i64 from_), (i64 0), (i64 (-1)), (i64 (((nN x : Nat) : Int)))], 3, 1, 0, true⟩ := by rw [eR542]; exact g539
  have hw551 : FlatAt 1 R541 _ _ := hw540.ext (fun id k g => by rw [eR542]; exact g)
  obtain ⟨w552, N553, M554, p555, l556, e557, E558, hM559, Q560, G561⟩ := call_t (P := Tryd.prog) (GL := [0]) (f := 19) hM545 (Con.gl (con19 from_ (MemOk.log hM545) (mkAt g546 rfl g547 rfl).log ((FlatAt.log (lg := []) hrw).Ext X543).log))
  have g562 := E558.old g546
  have g563 := E558.old g547
  have g564 := E558.old g548
  have g565 := E558.old g549
  have g566 := E558.old g550
  have ew552 := Qgo.val (mkAt g546 rfl g547 rfl).log ((FlatAt.log (lg := []) hrw).Ext X543).log Q560
  subst ew552
  have lg567 : M554.log = [] := by rw [← e557]; exact lg544
  have X568 := X543.trans E558
  have hw569 := hw551.Ext E558
  have nx570 := E558.next
  obtain ⟨w571, N572, M573, p574, l575, e576, E577, hM578, Q579, G580⟩ := call_t (P := Tryd.prog) (GL := [0]) (f := 20) hM559 (Con.gl (con20 from_ (MemOk.log hM559) (mkAt g562 rfl g563 rfl).log ((FlatAt.log (lg := []) hrw).Ext X568).log (mk_good _ _ _)))
  have g581 := E577.old g562
  have g582 := E577.old g563
  have g583 := E577.old g564
  have g584 := E577.old g565
  have g585 := E577.old g566
  have ew571 := Qgo.val (mkAt g562 rfl g563 rfl).log ((FlatAt.log (lg := []) hrw).Ext X568).log Q579
  subst ew571
  have lg586 : M573.log = [] := by rw [← e576]; exact lg567
  have X587 := X568.trans E577
  have hw588 := hw569.Ext E577
  have nx589 := E577.next
  have hl590 : M531.log = (M513.log ++ (M453.log ++ (M393.log ++ (M333.log ++ (M273.log ++ (M213.log ++ (M153.log ++ (M98.log ++ M59.log)))))))) := by rw [ef532]
  obtain ⟨M591, ef592⟩ : ∃ m : Mem, m = (Mem.mk M573.blks M573.next M573.hide (M573.log ++ (M513.log ++ (M453.log ++ (M393.log ++ (M333.log ++ (M273.log ++ (M213.log ++ (M153.log ++ (M98.log ++ M59.log)))))))))) := ⟨_, rfl⟩
  have X593 : Ext M M591 := by rw [ef592, ← hl590]; exact Ext.join (X533) (X587)
  have hM594 : MemOk M591 := by rw [ef592]; exact hM578
  have g595 : M591.get y12s = some ⟨(irows (Rr x ns y)).flatten, 31, 5, 0, true⟩ := by rw [ef592]; exact g581
  have g596 : M591.get y12f = some ⟨(brows (Aa x y)).flatten, 4, 1, 0, true⟩ := by rw [ef592]; exact g582
  have g597 : M591.get b24 = some ⟨[(sli y12s 0 (nN x) (nN x)), (sli y12f 0 (nN x) (nN x))], 25, 2, 0, true⟩ := by rw [ef592]; exact g583
  have g598 : M591.get b58 = some ⟨[(.slice w43a (Ww ws).length w43c), (.slice ra raw.length rc), sln], 26, 1, 0, true⟩ := by rw [ef592]; exact g584
  have g599 : M591.get b97 = some ⟨[(i64 (modI from_ (((nN x : Nat) : Int)))), (i64 from_), (i64 0), (i64 (-1)), (i64 (((nN x : Nat) : Int)))], 3, 1, 0, true⟩ := by rw [ef592]; exact g585
  have hw600 : FlatAt 1 M591 _ _ := hw588.ext (fun id k g => by rw [ef592]; exact g)
  obtain ⟨R601, eR602⟩ : ∃ m : Mem, m = Mem.mk M591.blks M591.next M591.hide [] := ⟨_, rfl⟩
  have X603 : Ext (Mem.mk M.blks M.next M.hide []) R601 := by rw [eR602]; exact Ext.aside (X593)
  have lg604 : R601.log = [] := by rw [eR602]
  have nxR601 : R601.next = M591.next := by rw [eR602]
  have hM605 : MemOk R601 := by rw [eR602]; exact MemOk.log hM594
  have lty12sM591 : y12s < M573.next := by have h := Mem.lt_of_get g595; rw [ef592] at h; exact h
  have g606 : R601.get y12s = some ⟨(irows (Rr x ns y)).flatten, 31, 5, 0, true⟩ := by rw [eR602]; exact g595
  have lty12fM591 : y12f < M573.next := by have h := Mem.lt_of_get g596; rw [ef592] at h; exact h
  have g607 : R601.get y12f = some ⟨(brows (Aa x y)).flatten, 4, 1, 0, true⟩ := by rw [eR602]; exact g596
  have ltb24M591 : b24 < M573.next := by have h := Mem.lt_of_get g597; rw [ef592] at h; exact h
  have g608 : R601.get b24 = some ⟨[(sli y12s 0 (nN x) (nN x)), (sli y12f 0 (nN x) (nN x))], 25, 2, 0, true⟩ := by rw [eR602]; exact g597
  have ltb58M591 : b58 < M573.next := by have h := Mem.lt_of_get g598; rw [ef592] at h; exact h
  have g609 : R601.get b58 = some ⟨[(.slice w43a (Ww ws).length w43c), (.slice ra raw.length rc), sln], 26, 1, 0, true⟩ := by rw [eR602]; exact g598
  have ltb97M591 : b97 < M573.next := by have h := Mem.lt_of_get g599; rw [ef592] at h; exact h
  have g610 : R601.get b97 = some ⟨[(i64 (modI from_ (((nN x : Nat) : Int)))), (i64 from_), (i64 0), (i64 (-1)), (i64 (((nN x : Nat) : Int)))], 3, 1, 0, true⟩ := by rw [eR602]; exact g599
  have hw611 : FlatAt 1 R601 _ _ := hw600.ext (fun id k g => by rw [eR602]; exact g)
  obtain ⟨w612, N613, M614, p615, l616, e617, E618, hM619, Q620, G621⟩ := call_t (P := Tryd.prog) (GL := [0]) (f := 19) hM605 (Con.gl (con19 0 (MemOk.log hM605) (mkAt g606 rfl g607 rfl).log ((FlatAt.log (lg := []) hrw).Ext X603).log))
  have g622 := E618.old g606
  have g623 := E618.old g607
  have g624 := E618.old g608
  have g625 := E618.old g609
  have g626 := E618.old g610
  have ew612 := Qgo.val (mkAt g606 rfl g607 rfl).log ((FlatAt.log (lg := []) hrw).Ext X603).log Q620
  subst ew612
  have lg627 : M614.log = [] := by rw [← e617]; exact lg604
  have X628 := X603.trans E618
  have hw629 := hw611.Ext E618
  have nx630 := E618.next
  obtain ⟨w631, N632, M633, p634, l635, e636, E637, hM638, Q639, G640⟩ := call_t (P := Tryd.prog) (GL := [0]) (f := 20) hM619 (Con.gl (con20 0 (MemOk.log hM619) (mkAt g622 rfl g623 rfl).log ((FlatAt.log (lg := []) hrw).Ext X628).log (mk_good _ _ _)))
  have g641 := E637.old g622
  have g642 := E637.old g623
  have g643 := E637.old g624
  have g644 := E637.old g625
  have g645 := E637.old g626
  have ew631 := Qgo.val (mkAt g622 rfl g623 rfl).log ((FlatAt.log (lg := []) hrw).Ext X628).log Q639
  subst ew631
  have lg646 : M633.log = [] := by rw [← e636]; exact lg627
  have X647 := X628.trans E637
  have hw648 := hw629.Ext E637
  have nx649 := E637.next
  have hl650 : M591.log = (M573.log ++ (M513.log ++ (M453.log ++ (M393.log ++ (M333.log ++ (M273.log ++ (M213.log ++ (M153.log ++ (M98.log ++ M59.log))))))))) := by rw [ef592]
  obtain ⟨M651, ef652⟩ : ∃ m : Mem, m = (Mem.mk M633.blks M633.next M633.hide (M633.log ++ (M573.log ++ (M513.log ++ (M453.log ++ (M393.log ++ (M333.log ++ (M273.log ++ (M213.log ++ (M153.log ++ (M98.log ++ M59.log))))))))))) := ⟨_, rfl⟩
  have X653 : Ext M M651 := by rw [ef652, ← hl650]; exact Ext.join (X593) (X647)
  have hM654 : MemOk M651 := by rw [ef652]; exact hM638
  have g655 : M651.get y12s = some ⟨(irows (Rr x ns y)).flatten, 31, 5, 0, true⟩ := by rw [ef652]; exact g641
  have g656 : M651.get y12f = some ⟨(brows (Aa x y)).flatten, 4, 1, 0, true⟩ := by rw [ef652]; exact g642
  have g657 : M651.get b24 = some ⟨[(sli y12s 0 (nN x) (nN x)), (sli y12f 0 (nN x) (nN x))], 25, 2, 0, true⟩ := by rw [ef652]; exact g643
  have g658 : M651.get b58 = some ⟨[(.slice w43a (Ww ws).length w43c), (.slice ra raw.length rc), sln], 26, 1, 0, true⟩ := by rw [ef652]; exact g644
  have g659 : M651.get b97 = some ⟨[(i64 (modI from_ (((nN x : Nat) : Int)))), (i64 from_), (i64 0), (i64 (-1)), (i64 (((nN x : Nat) : Int)))], 3, 1, 0, true⟩ := by rw [ef652]; exact g645
  have hw660 : FlatAt 1 M651 _ _ := hw648.ext (fun id k g => by rw [ef652]; exact g)
  obtain ⟨R661, eR662⟩ : ∃ m : Mem, m = Mem.mk M651.blks M651.next M651.hide [] := ⟨_, rfl⟩
  have X663 : Ext (Mem.mk M.blks M.next M.hide []) R661 := by rw [eR662]; exact Ext.aside (X653)
  have lg664 : R661.log = [] := by rw [eR662]
  have nxR661 : R661.next = M651.next := by rw [eR662]
  have hM665 : MemOk R661 := by rw [eR662]; exact MemOk.log hM654
  have lty12sM651 : y12s < M633.next := by have h := Mem.lt_of_get g655; rw [ef652] at h; exact h
  have g666 : R661.get y12s = some ⟨(irows (Rr x ns y)).flatten, 31, 5, 0, true⟩ := by rw [eR662]; exact g655
  have lty12fM651 : y12f < M633.next := by have h := Mem.lt_of_get g656; rw [ef652] at h; exact h
  have g667 : R661.get y12f = some ⟨(brows (Aa x y)).flatten, 4, 1, 0, true⟩ := by rw [eR662]; exact g656
  have ltb24M651 : b24 < M633.next := by have h := Mem.lt_of_get g657; rw [ef652] at h; exact h
  have g668 : R661.get b24 = some ⟨[(sli y12s 0 (nN x) (nN x)), (sli y12f 0 (nN x) (nN x))], 25, 2, 0, true⟩ := by rw [eR662]; exact g657
  have ltb58M651 : b58 < M633.next := by have h := Mem.lt_of_get g658; rw [ef652] at h; exact h
  have g669 : R661.get b58 = some ⟨[(.slice w43a (Ww ws).length w43c), (.slice ra raw.length rc), sln], 26, 1, 0, true⟩ := by rw [eR662]; exact g658
  have ltb97M651 : b97 < M633.next := by have h := Mem.lt_of_get g659; rw [ef652] at h; exact h
  have g670 : R661.get b97 = some ⟨[(i64 (modI from_ (((nN x : Nat) : Int)))), (i64 from_), (i64 0), (i64 (-1)), (i64 (((nN x : Nat) : Int)))], 3, 1, 0, true⟩ := by rw [eR662]; exact g659
  have hw671 : FlatAt 1 R661 _ _ := hw660.ext (fun id k g => by rw [eR662]; exact g)
  obtain ⟨w672, N673, M674, p675, l676, e677, E678, hM679, Q680, G681⟩ := call_t (P := Tryd.prog) (GL := [0]) (f := 19) hM665 (Con.gl (con19 (-1) (MemOk.log hM665) (mkAt g666 rfl g667 rfl).log ((FlatAt.log (lg := []) hrw).Ext X663).log))
  have g682 := E678.old g666
  have g683 := E678.old g667
  have g684 := E678.old g668
  have g685 := E678.old g669
  have g686 := E678.old g670
  have ew672 := Qgo.val (mkAt g666 rfl g667 rfl).log ((FlatAt.log (lg := []) hrw).Ext X663).log Q680
  subst ew672
  have lg687 : M674.log = [] := by rw [← e677]; exact lg664
  have X688 := X663.trans E678
  have hw689 := hw671.Ext E678
  have nx690 := E678.next
  obtain ⟨w691, N692, M693, p694, l695, e696, E697, hM698, Q699, G700⟩ := call_t (P := Tryd.prog) (GL := [0]) (f := 20) hM679 (Con.gl (con20 (-1) (MemOk.log hM679) (mkAt g682 rfl g683 rfl).log ((FlatAt.log (lg := []) hrw).Ext X688).log (mk_good _ _ _)))
  have g701 := E697.old g682
  have g702 := E697.old g683
  have g703 := E697.old g684
  have g704 := E697.old g685
  have g705 := E697.old g686
  have ew691 := Qgo.val (mkAt g682 rfl g683 rfl).log ((FlatAt.log (lg := []) hrw).Ext X688).log Q699
  subst ew691
  have lg706 : M693.log = [] := by rw [← e696]; exact lg687
  have X707 := X688.trans E697
  have hw708 := hw689.Ext E697
  have nx709 := E697.next
  have hl710 : M651.log = (M633.log ++ (M573.log ++ (M513.log ++ (M453.log ++ (M393.log ++ (M333.log ++ (M273.log ++ (M213.log ++ (M153.log ++ (M98.log ++ M59.log)))))))))) := by rw [ef652]
  obtain ⟨M711, ef712⟩ : ∃ m : Mem, m = (Mem.mk M693.blks M693.next M693.hide (M693.log ++ (M633.log ++ (M573.log ++ (M513.log ++ (M453.log ++ (M393.log ++ (M333.log ++ (M273.log ++ (M213.log ++ (M153.log ++ (M98.log ++ M59.log)))))))))))) := ⟨_, rfl⟩
  have X713 : Ext M M711 := by rw [ef712, ← hl710]; exact Ext.join (X653) (X707)
  have hM714 : MemOk M711 := by rw [ef712]; exact hM698
  have g715 : M711.get y12s = some ⟨(irows (Rr x ns y)).flatten, 31, 5, 0, true⟩ := by rw [ef712]; exact g701
  have g716 : M711.get y12f = some ⟨(brows (Aa x y)).flatten, 4, 1, 0, true⟩ := by rw [ef712]; exact g702
  have g717 : M711.get b24 = some ⟨[(sli y12s 0 (nN x) (nN x)), (sli y12f 0 (nN x) (nN x))], 25, 2, 0, true⟩ := by rw [ef712]; exact g703
  have g718 : M711.get b58 = some ⟨[(.slice w43a (Ww ws).length w43c), (.slice ra raw.length rc), sln], 26, 1, 0, true⟩ := by rw [ef712]; exact g704
  have g719 : M711.get b97 = some ⟨[(i64 (modI from_ (((nN x : Nat) : Int)))), (i64 from_), (i64 0), (i64 (-1)), (i64 (((nN x : Nat) : Int)))], 3, 1, 0, true⟩ := by rw [ef712]; exact g705
  have hw720 : FlatAt 1 M711 _ _ := hw708.ext (fun id k g => by rw [ef712]; exact g)
  obtain ⟨R721, eR722⟩ : ∃ m : Mem, m = Mem.mk M711.blks M711.next M711.hide [] := ⟨_, rfl⟩
  have X723 : Ext (Mem.mk M.blks M.next M.hide []) R721 := by rw [eR722]; exact Ext.aside (X713)
  have lg724 : R721.log = [] := by rw [eR722]
  have nxR721 : R721.next = M711.next := by rw [eR722]
  have hM725 : MemOk R721 := by rw [eR722]; exact MemOk.log hM714
  have lty12sM711 : y12s < M693.next := by have h := Mem.lt_of_get g715; rw [ef712] at h; exact h
  have g726 : R721.get y12s = some ⟨(irows (Rr x ns y)).flatten, 31, 5, 0, true⟩ := by rw [eR722]; exact g715
  have lty12fM711 : y12f < M693.next := by have h := Mem.lt_of_get g716; rw [ef712] at h; exact h
  have g727 : R721.get y12f = some ⟨(brows (Aa x y)).flatten, 4, 1, 0, true⟩ := by rw [eR722]; exact g716
  have ltb24M711 : b24 < M693.next := by have h := Mem.lt_of_get g717; rw [ef712] at h; exact h
  have g728 : R721.get b24 = some ⟨[(sli y12s 0 (nN x) (nN x)), (sli y12f 0 (nN x) (nN x))], 25, 2, 0, true⟩ := by rw [eR722]; exact g717
  have ltb58M711 : b58 < M693.next := by have h := Mem.lt_of_get g718; rw [ef712] at h; exact h
  have g729 : R721.get b58 = some ⟨[(.slice w43a (Ww ws).length w43c), (.slice ra raw.length rc), sln], 26, 1, 0, true⟩ := by rw [eR722]; exact g718
  have ltb97M711 : b97 < M693.next := by have h := Mem.lt_of_get g719; rw [ef712] at h; exact h
  have g730 : R721.get b97 = some ⟨[(i64 (modI from_ (((nN x : Nat) : Int)))), (i64 from_), (i64 0), (i64 (-1)), (i64 (((nN x : Nat) : Int)))], 3, 1, 0, true⟩ := by rw [eR722]; exact g719
  have hw731 : FlatAt 1 R721 _ _ := hw720.ext (fun id k g => by rw [eR722]; exact g)
  obtain ⟨w732, N733, M734, p735, l736, e737, E738, hM739, Q740, G741⟩ := call_t (P := Tryd.prog) (GL := [0]) (f := 19) hM725 (Con.gl (con19 (((nN x : Nat) : Int)) (MemOk.log hM725) (mkAt g726 rfl g727 rfl).log ((FlatAt.log (lg := []) hrw).Ext X723).log))
  have g742 := E738.old g726
  have g743 := E738.old g727
  have g744 := E738.old g728
  have g745 := E738.old g729
  have g746 := E738.old g730
  have ew732 := Qgo.val (mkAt g726 rfl g727 rfl).log ((FlatAt.log (lg := []) hrw).Ext X723).log Q740
  subst ew732
  have lg747 : M734.log = [] := by rw [← e737]; exact lg724
  have X748 := X723.trans E738
  have hw749 := hw731.Ext E738
  have nx750 := E738.next
  obtain ⟨w751, N752, M753, p754, l755, e756, E757, hM758, Q759, G760⟩ := call_t (P := Tryd.prog) (GL := [0]) (f := 20) hM739 (Con.gl (con20 (((nN x : Nat) : Int)) (MemOk.log hM739) (mkAt g742 rfl g743 rfl).log ((FlatAt.log (lg := []) hrw).Ext X748).log (mk_good _ _ _)))
  have g761 := E757.old g742
  have g762 := E757.old g743
  have g763 := E757.old g744
  have g764 := E757.old g745
  have g765 := E757.old g746
  have ew751 := Qgo.val (mkAt g742 rfl g743 rfl).log ((FlatAt.log (lg := []) hrw).Ext X748).log Q759
  subst ew751
  have lg766 : M753.log = [] := by rw [← e756]; exact lg747
  have X767 := X748.trans E757
  have hw768 := hw749.Ext E757
  have nx769 := E757.next
  have hl770 : M711.log = (M693.log ++ (M633.log ++ (M573.log ++ (M513.log ++ (M453.log ++ (M393.log ++ (M333.log ++ (M273.log ++ (M213.log ++ (M153.log ++ (M98.log ++ M59.log))))))))))) := by rw [ef712]
  obtain ⟨M771, ef772⟩ : ∃ m : Mem, m = (Mem.mk M753.blks M753.next M753.hide (M753.log ++ (M693.log ++ (M633.log ++ (M573.log ++ (M513.log ++ (M453.log ++ (M393.log ++ (M333.log ++ (M273.log ++ (M213.log ++ (M153.log ++ (M98.log ++ M59.log))))))))))))) := ⟨_, rfl⟩
  have X773 : Ext M M771 := by rw [ef772, ← hl770]; exact Ext.join (X713) (X767)
  have hM774 : MemOk M771 := by rw [ef772]; exact hM758
  have g775 : M771.get y12s = some ⟨(irows (Rr x ns y)).flatten, 31, 5, 0, true⟩ := by rw [ef772]; exact g761
  have g776 : M771.get y12f = some ⟨(brows (Aa x y)).flatten, 4, 1, 0, true⟩ := by rw [ef772]; exact g762
  have g777 : M771.get b24 = some ⟨[(sli y12s 0 (nN x) (nN x)), (sli y12f 0 (nN x) (nN x))], 25, 2, 0, true⟩ := by rw [ef772]; exact g763
  have g778 : M771.get b58 = some ⟨[(.slice w43a (Ww ws).length w43c), (.slice ra raw.length rc), sln], 26, 1, 0, true⟩ := by rw [ef772]; exact g764
  have g779 : M771.get b97 = some ⟨[(i64 (modI from_ (((nN x : Nat) : Int)))), (i64 from_), (i64 0), (i64 (-1)), (i64 (((nN x : Nat) : Int)))], 3, 1, 0, true⟩ := by rw [ef772]; exact g765
  have hw780 : FlatAt 1 M771 _ _ := hw768.ext (fun id k g => by rw [ef772]; exact g)
  obtain ⟨R781, eR782⟩ : ∃ m : Mem, m = Mem.mk M771.blks M771.next M771.hide [] := ⟨_, rfl⟩
  have X783 : Ext (Mem.mk M.blks M.next M.hide []) R781 := by rw [eR782]; exact Ext.aside (X773)
  have lg784 : R781.log = [] := by rw [eR782]
  have nxR781 : R781.next = M771.next := by rw [eR782]
  have hM785 : MemOk R781 := by rw [eR782]; exact MemOk.log hM774
  have lty12sM771 : y12s < M753.next := by have h := Mem.lt_of_get g775; rw [ef772] at h; exact h
  have g786 : R781.get y12s = some ⟨(irows (Rr x ns y)).flatten, 31, 5, 0, true⟩ := by rw [eR782]; exact g775
  have lty12fM771 : y12f < M753.next := by have h := Mem.lt_of_get g776; rw [ef772] at h; exact h
  have g787 : R781.get y12f = some ⟨(brows (Aa x y)).flatten, 4, 1, 0, true⟩ := by rw [eR782]; exact g776
  have ltb24M771 : b24 < M753.next := by have h := Mem.lt_of_get g777; rw [ef772] at h; exact h
  have g788 : R781.get b24 = some ⟨[(sli y12s 0 (nN x) (nN x)), (sli y12f 0 (nN x) (nN x))], 25, 2, 0, true⟩ := by rw [eR782]; exact g777
  have ltb58M771 : b58 < M753.next := by have h := Mem.lt_of_get g778; rw [ef772] at h; exact h
  have g789 : R781.get b58 = some ⟨[(.slice w43a (Ww ws).length w43c), (.slice ra raw.length rc), sln], 26, 1, 0, true⟩ := by rw [eR782]; exact g778
  have ltb97M771 : b97 < M753.next := by have h := Mem.lt_of_get g779; rw [ef772] at h; exact h
  have g790 : R781.get b97 = some ⟨[(i64 (modI from_ (((nN x : Nat) : Int)))), (i64 from_), (i64 0), (i64 (-1)), (i64 (((nN x : Nat) : Int)))], 3, 1, 0, true⟩ := by rw [eR782]; exact g779
  have hw791 : FlatAt 1 R781 _ _ := hw780.ext (fun id k g => by rw [eR782]; exact g)
  obtain ⟨w792, N793, M794, p795, l796, e797, E798, hM799, Q800, G801⟩ := call_t (P := Tryd.prog) (GL := [0]) (f := 21) hM785 (Con.gl (con21 (MemOk.log hM785) (mkAt g786 rfl g787 rfl).log ((FlatAt.log (lg := []) hrw).Ext X783).log))
  have g802 := E798.old g786
  have g803 := E798.old g787
  have g804 := E798.old g788
  have g805 := E798.old g789
  have g806 := E798.old g790
  have ew792 := Qrun.val (mkAt g786 rfl g787 rfl).log ((FlatAt.log (lg := []) hrw).Ext X783).log Q800
  subst ew792
  have lg807 : M794.log = [] := by rw [← e797]; exact lg784
  have X808 := X783.trans E798
  have hw809 := hw791.Ext E798
  have nx810 := E798.next
  obtain ⟨w811, N812, M813, p814, l815, e816, E817, hM818, Q819, G820⟩ := call_t (P := Tryd.prog) (GL := [0]) (f := 22) hM799 (Con.gl (con22 (MemOk.log hM799) (mkAt g802 rfl g803 rfl).log ((FlatAt.log (lg := []) hrw).Ext X808).log (mk_good _ _ _) (by rw [rowsI_len, accsI_len])))
  have g821 := E817.old g802
  have g822 := E817.old g803
  have g823 := E817.old g804
  have g824 := E817.old g805
  have g825 := E817.old g806
  have ew811 := Qrun.val (mkAt g802 rfl g803 rfl).log ((FlatAt.log (lg := []) hrw).Ext X808).log Q819
  subst ew811
  have lg826 : M813.log = [] := by rw [← e816]; exact lg807
  have X827 := X808.trans E817
  have hw828 := hw809.Ext E817
  have nx829 := E817.next
  have hl830 : M771.log = (M753.log ++ (M693.log ++ (M633.log ++ (M573.log ++ (M513.log ++ (M453.log ++ (M393.log ++ (M333.log ++ (M273.log ++ (M213.log ++ (M153.log ++ (M98.log ++ M59.log)))))))))))) := by rw [ef772]
  obtain ⟨M831, ef832⟩ : ∃ m : Mem, m = (Mem.mk M813.blks M813.next M813.hide (M813.log ++ (M753.log ++ (M693.log ++ (M633.log ++ (M573.log ++ (M513.log ++ (M453.log ++ (M393.log ++ (M333.log ++ (M273.log ++ (M213.log ++ (M153.log ++ (M98.log ++ M59.log)))))))))))))) := ⟨_, rfl⟩
  have X833 : Ext M M831 := by rw [ef832, ← hl830]; exact Ext.join (X773) (X827)
  have hM834 : MemOk M831 := by rw [ef832]; exact hM818
  have g835 : M831.get y12s = some ⟨(irows (Rr x ns y)).flatten, 31, 5, 0, true⟩ := by rw [ef832]; exact g821
  have g836 : M831.get y12f = some ⟨(brows (Aa x y)).flatten, 4, 1, 0, true⟩ := by rw [ef832]; exact g822
  have g837 : M831.get b24 = some ⟨[(sli y12s 0 (nN x) (nN x)), (sli y12f 0 (nN x) (nN x))], 25, 2, 0, true⟩ := by rw [ef832]; exact g823
  have g838 : M831.get b58 = some ⟨[(.slice w43a (Ww ws).length w43c), (.slice ra raw.length rc), sln], 26, 1, 0, true⟩ := by rw [ef832]; exact g824
  have g839 : M831.get b97 = some ⟨[(i64 (modI from_ (((nN x : Nat) : Int)))), (i64 from_), (i64 0), (i64 (-1)), (i64 (((nN x : Nat) : Int)))], 3, 1, 0, true⟩ := by rw [ef832]; exact g825
  have hw840 : FlatAt 1 M831 _ _ := hw828.ext (fun id k g => by rw [ef832]; exact g)
  obtain ⟨R841, eR842⟩ : ∃ m : Mem, m = Mem.mk M831.blks M831.next M831.hide [] := ⟨_, rfl⟩
  have X843 : Ext (Mem.mk M.blks M.next M.hide []) R841 := by rw [eR842]; exact Ext.aside (X833)
  have lg844 : R841.log = [] := by rw [eR842]
  have nxR841 : R841.next = M831.next := by rw [eR842]
  have hM845 : MemOk R841 := by rw [eR842]; exact MemOk.log hM834
  have lty12sM831 : y12s < M813.next := by have h := Mem.lt_of_get g835; rw [ef832] at h; exact h
  have g846 : R841.get y12s = some ⟨(irows (Rr x ns y)).flatten, 31, 5, 0, true⟩ := by rw [eR842]; exact g835
  have lty12fM831 : y12f < M813.next := by have h := Mem.lt_of_get g836; rw [ef832] at h; exact h
  have g847 : R841.get y12f = some ⟨(brows (Aa x y)).flatten, 4, 1, 0, true⟩ := by rw [eR842]; exact g836
  have ltb24M831 : b24 < M813.next := by have h := Mem.lt_of_get g837; rw [ef832] at h; exact h
  have g848 : R841.get b24 = some ⟨[(sli y12s 0 (nN x) (nN x)), (sli y12f 0 (nN x) (nN x))], 25, 2, 0, true⟩ := by rw [eR842]; exact g837
  have ltb58M831 : b58 < M813.next := by have h := Mem.lt_of_get g838; rw [ef832] at h; exact h
  have g849 : R841.get b58 = some ⟨[(.slice w43a (Ww ws).length w43c), (.slice ra raw.length rc), sln], 26, 1, 0, true⟩ := by rw [eR842]; exact g838
  have ltb97M831 : b97 < M813.next := by have h := Mem.lt_of_get g839; rw [ef832] at h; exact h
  have g850 : R841.get b97 = some ⟨[(i64 (modI from_ (((nN x : Nat) : Int)))), (i64 from_), (i64 0), (i64 (-1)), (i64 (((nN x : Nat) : Int)))], 3, 1, 0, true⟩ := by rw [eR842]; exact g839
  have hw851 : FlatAt 1 R841 _ _ := hw840.ext (fun id k g => by rw [eR842]; exact g)
  obtain ⟨w852, N853, M854, p855, l856, e857, E858, hM859, Q860, G861⟩ := call_t (P := Tryd.prog) (GL := [0]) (f := 19) hM845 (Con.gl (con19 (modI from_ (((nN x : Nat) : Int))) (MemOk.log hM845) (mkAt g846 rfl g847 rfl).log flat_nil.log))
  have g862 := E858.old g846
  have g863 := E858.old g847
  have g864 := E858.old g848
  have g865 := E858.old g849
  have g866 := E858.old g850
  have ew852 := Qgo.val (mkAt g846 rfl g847 rfl).log flat_nil.log Q860
  subst ew852
  have lg867 : M854.log = [] := by rw [← e857]; exact lg844
  have X868 := X843.trans E858
  have hw869 := hw851.Ext E858
  have nx870 := E858.next
  obtain ⟨w871, N872, M873, p874, l875, e876, E877, hM878, Q879, G880⟩ := call_t (P := Tryd.prog) (GL := [0]) (f := 20) hM859 (Con.gl (con20 (modI from_ (((nN x : Nat) : Int))) (MemOk.log hM859) (mkAt g862 rfl g863 rfl).log flat_nil.log (mk_good _ _ _)))
  have g881 := E877.old g862
  have g882 := E877.old g863
  have g883 := E877.old g864
  have g884 := E877.old g865
  have g885 := E877.old g866
  have ew871 := Qgo.val (mkAt g862 rfl g863 rfl).log flat_nil.log Q879
  subst ew871
  have lg886 : M873.log = [] := by rw [← e876]; exact lg867
  have X887 := X868.trans E877
  have hw888 := hw869.Ext E877
  have nx889 := E877.next
  have hl890 : M831.log = (M813.log ++ (M753.log ++ (M693.log ++ (M633.log ++ (M573.log ++ (M513.log ++ (M453.log ++ (M393.log ++ (M333.log ++ (M273.log ++ (M213.log ++ (M153.log ++ (M98.log ++ M59.log))))))))))))) := by rw [ef832]
  obtain ⟨M891, ef892⟩ : ∃ m : Mem, m = (Mem.mk M873.blks M873.next M873.hide (M873.log ++ (M813.log ++ (M753.log ++ (M693.log ++ (M633.log ++ (M573.log ++ (M513.log ++ (M453.log ++ (M393.log ++ (M333.log ++ (M273.log ++ (M213.log ++ (M153.log ++ (M98.log ++ M59.log))))))))))))))) := ⟨_, rfl⟩
  have X893 : Ext M M891 := by rw [ef892, ← hl890]; exact Ext.join (X833) (X887)
  have hM894 : MemOk M891 := by rw [ef892]; exact hM878
  have g895 : M891.get y12s = some ⟨(irows (Rr x ns y)).flatten, 31, 5, 0, true⟩ := by rw [ef892]; exact g881
  have g896 : M891.get y12f = some ⟨(brows (Aa x y)).flatten, 4, 1, 0, true⟩ := by rw [ef892]; exact g882
  have g897 : M891.get b24 = some ⟨[(sli y12s 0 (nN x) (nN x)), (sli y12f 0 (nN x) (nN x))], 25, 2, 0, true⟩ := by rw [ef892]; exact g883
  have g898 : M891.get b58 = some ⟨[(.slice w43a (Ww ws).length w43c), (.slice ra raw.length rc), sln], 26, 1, 0, true⟩ := by rw [ef892]; exact g884
  have g899 : M891.get b97 = some ⟨[(i64 (modI from_ (((nN x : Nat) : Int)))), (i64 from_), (i64 0), (i64 (-1)), (i64 (((nN x : Nat) : Int)))], 3, 1, 0, true⟩ := by rw [ef892]; exact g885
  have hw900 : FlatAt 1 M891 _ _ := hw888.ext (fun id k g => by rw [ef892]; exact g)
  obtain ⟨R901, eR902⟩ : ∃ m : Mem, m = Mem.mk M891.blks M891.next M891.hide [] := ⟨_, rfl⟩
  have X903 : Ext (Mem.mk M.blks M.next M.hide []) R901 := by rw [eR902]; exact Ext.aside (X893)
  have lg904 : R901.log = [] := by rw [eR902]
  have nxR901 : R901.next = M891.next := by rw [eR902]
  have hM905 : MemOk R901 := by rw [eR902]; exact MemOk.log hM894
  have lty12sM891 : y12s < M873.next := by have h := Mem.lt_of_get g895; rw [ef892] at h; exact h
  have g906 : R901.get y12s = some ⟨(irows (Rr x ns y)).flatten, 31, 5, 0, true⟩ := by rw [eR902]; exact g895
  have lty12fM891 : y12f < M873.next := by have h := Mem.lt_of_get g896; rw [ef892] at h; exact h
  have g907 : R901.get y12f = some ⟨(brows (Aa x y)).flatten, 4, 1, 0, true⟩ := by rw [eR902]; exact g896
  have ltb24M891 : b24 < M873.next := by have h := Mem.lt_of_get g897; rw [ef892] at h; exact h
  have g908 : R901.get b24 = some ⟨[(sli y12s 0 (nN x) (nN x)), (sli y12f 0 (nN x) (nN x))], 25, 2, 0, true⟩ := by rw [eR902]; exact g897
  have ltb58M891 : b58 < M873.next := by have h := Mem.lt_of_get g898; rw [ef892] at h; exact h
  have g909 : R901.get b58 = some ⟨[(.slice w43a (Ww ws).length w43c), (.slice ra raw.length rc), sln], 26, 1, 0, true⟩ := by rw [eR902]; exact g898
  have ltb97M891 : b97 < M873.next := by have h := Mem.lt_of_get g899; rw [ef892] at h; exact h
  have g910 : R901.get b97 = some ⟨[(i64 (modI from_ (((nN x : Nat) : Int)))), (i64 from_), (i64 0), (i64 (-1)), (i64 (((nN x : Nat) : Int)))], 3, 1, 0, true⟩ := by rw [eR902]; exact g899
  have hw911 : FlatAt 1 R901 _ _ := hw900.ext (fun id k g => by rw [eR902]; exact g)
  obtain ⟨w912, N913, M914, p915, l916, e917, E918, hM919, Q920, G921⟩ := call_t (P := Tryd.prog) (GL := [0]) (f := 19) hM905 (Con.gl (con19 from_ (MemOk.log hM905) (mkAt g906 rfl g907 rfl).log flat_nil.log))
  have g922 := E918.old g906
  have g923 := E918.old g907
  have g924 := E918.old g908
  have g925 := E918.old g909
  have g926 := E918.old g910
  have ew912 := Qgo.val (mkAt g906 rfl g907 rfl).log flat_nil.log Q920
  subst ew912
  have lg927 : M914.log = [] := by rw [← e917]; exact lg904
  have X928 := X903.trans E918
  have hw929 := hw911.Ext E918
  have nx930 := E918.next
  obtain ⟨w931, N932, M933, p934, l935, e936, E937, hM938, Q939, G940⟩ := call_t (P := Tryd.prog) (GL := [0]) (f := 20) hM919 (Con.gl (con20 from_ (MemOk.log hM919) (mkAt g922 rfl g923 rfl).log flat_nil.log (mk_good _ _ _)))
  have g941 := E937.old g922
  have g942 := E937.old g923
  have g943 := E937.old g924
  have g944 := E937.old g925
  have g945 := E937.old g926
  have ew931 := Qgo.val (mkAt g922 rfl g923 rfl).log flat_nil.log Q939
  subst ew931
  have lg946 : M933.log = [] := by rw [← e936]; exact lg927
  have X947 := X928.trans E937
  have hw948 := hw929.Ext E937
  have nx949 := E937.next
  have hl950 : M891.log = (M873.log ++ (M813.log ++ (M753.log ++ (M693.log ++ (M633.log ++ (M573.log ++ (M513.log ++ (M453.log ++ (M393.log ++ (M333.log ++ (M273.log ++ (M213.log ++ (M153.log ++ (M98.log ++ M59.log)))))))))))))) := by rw [ef892]
  obtain ⟨M951, ef952⟩ : ∃ m : Mem, m = (Mem.mk M933.blks M933.next M933.hide (M933.log ++ (M873.log ++ (M813.log ++ (M753.log ++ (M693.log ++ (M633.log ++ (M573.log ++ (M513.log ++ (M453.log ++ (M393.log ++ (M333.log ++ (M273.log ++ (M213.log ++ (M153.log ++ (M98.log ++ M59.log)))))))))))))))) := ⟨_, rfl⟩
  have X953 : Ext M M951 := by rw [ef952, ← hl950]; exact Ext.join (X893) (X947)
  have hM954 : MemOk M951 := by rw [ef952]; exact hM938
  have g955 : M951.get y12s = some ⟨(irows (Rr x ns y)).flatten, 31, 5, 0, true⟩ := by rw [ef952]; exact g941
  have g956 : M951.get y12f = some ⟨(brows (Aa x y)).flatten, 4, 1, 0, true⟩ := by rw [ef952]; exact g942
  have g957 : M951.get b24 = some ⟨[(sli y12s 0 (nN x) (nN x)), (sli y12f 0 (nN x) (nN x))], 25, 2, 0, true⟩ := by rw [ef952]; exact g943
  have g958 : M951.get b58 = some ⟨[(.slice w43a (Ww ws).length w43c), (.slice ra raw.length rc), sln], 26, 1, 0, true⟩ := by rw [ef952]; exact g944
  have g959 : M951.get b97 = some ⟨[(i64 (modI from_ (((nN x : Nat) : Int)))), (i64 from_), (i64 0), (i64 (-1)), (i64 (((nN x : Nat) : Int)))], 3, 1, 0, true⟩ := by rw [ef952]; exact g945
  have hw960 : FlatAt 1 M951 _ _ := hw948.ext (fun id k g => by rw [ef952]; exact g)
  obtain ⟨R961, eR962⟩ : ∃ m : Mem, m = Mem.mk M951.blks M951.next M951.hide [] := ⟨_, rfl⟩
  have X963 : Ext (Mem.mk M.blks M.next M.hide []) R961 := by rw [eR962]; exact Ext.aside (X953)
  have lg964 : R961.log = [] := by rw [eR962]
  have nxR961 : R961.next = M951.next := by rw [eR962]
  have hM965 : MemOk R961 := by rw [eR962]; exact MemOk.log hM954
  have lty12sM951 : y12s < M933.next := by have h := Mem.lt_of_get g955; rw [ef952] at h; exact h
  have g966 : R961.get y12s = some ⟨(irows (Rr x ns y)).flatten, 31, 5, 0, true⟩ := by rw [eR962]; exact g955
  have lty12fM951 : y12f < M933.next := by have h := Mem.lt_of_get g956; rw [ef952] at h; exact h
  have g967 : R961.get y12f = some ⟨(brows (Aa x y)).flatten, 4, 1, 0, true⟩ := by rw [eR962]; exact g956
  have ltb24M951 : b24 < M933.next := by have h := Mem.lt_of_get g957; rw [ef952] at h; exact h
  have g968 : R961.get b24 = some ⟨[(sli y12s 0 (nN x) (nN x)), (sli y12f 0 (nN x) (nN x))], 25, 2, 0, true⟩ := by rw [eR962]; exact g957
  have ltb58M951 : b58 < M933.next := by have h := Mem.lt_of_get g958; rw [ef952] at h; exact h
  have g969 : R961.get b58 = some ⟨[(.slice w43a (Ww ws).length w43c), (.slice ra raw.length rc), sln], 26, 1, 0, true⟩ := by rw [eR962]; exact g958
  have ltb97M951 : b97 < M933.next := by have h := Mem.lt_of_get g959; rw [ef952] at h; exact h
  have g970 : R961.get b97 = some ⟨[(i64 (modI from_ (((nN x : Nat) : Int)))), (i64 from_), (i64 0), (i64 (-1)), (i64 (((nN x : Nat) : Int)))], 3, 1, 0, true⟩ := by rw [eR962]; exact g959
  have hw971 : FlatAt 1 R961 _ _ := hw960.ext (fun id k g => by rw [eR962]; exact g)
  obtain ⟨w972, N973, M974, p975, l976, e977, E978, hM979, Q980, G981⟩ := call_t (P := Tryd.prog) (GL := [0]) (f := 19) hM965 (Con.gl (con19 0 (MemOk.log hM965) (mkAt g966 rfl g967 rfl).log flat_nil.log))
  have g982 := E978.old g966
  have g983 := E978.old g967
  have g984 := E978.old g968
  have g985 := E978.old g969
  have g986 := E978.old g970
  have ew972 := Qgo.val (mkAt g966 rfl g967 rfl).log flat_nil.log Q980
  subst ew972
  have lg987 : M974.log = [] := by rw [← e977]; exact lg964
  have X988 := X963.trans E978
  have hw989 := hw971.Ext E978
  have nx990 := E978.next
  obtain ⟨w991, N992, M993, p994, l995, e996, E997, hM998, Q999, G1000⟩ := call_t (P := Tryd.prog) (GL := [0]) (f := 20) hM979 (Con.gl (con20 0 (MemOk.log hM979) (mkAt g982 rfl g983 rfl).log flat_nil.log (mk_good _ _ _)))
  have g1001 := E997.old g982
  have g1002 := E997.old g983
  have g1003 := E997.old g984
  have g1004 := E997.old g985
  have g1005 := E997.old g986
  have ew991 := Qgo.val (mkAt g982 rfl g983 rfl).log flat_nil.log Q999
  subst ew991
  have lg1006 : M993.log = [] := by rw [← e996]; exact lg987
  have X1007 := X988.trans E997
  have hw1008 := hw989.Ext E997
  have nx1009 := E997.next
  have hl1010 : M951.log = (M933.log ++ (M873.log ++ (M813.log ++ (M753.log ++ (M693.log ++ (M633.log ++ (M573.log ++ (M513.log ++ (M453.log ++ (M393.log ++ (M333.log ++ (M273.log ++ (M213.log ++ (M153.log ++ (M98.log ++ M59.log))))))))))))))) := by rw [ef952]
  obtain ⟨M1011, ef1012⟩ : ∃ m : Mem, m = (Mem.mk M993.blks M993.next M993.hide (M993.log ++ (M933.log ++ (M873.log ++ (M813.log ++ (M753.log ++ (M693.log ++ (M633.log ++ (M573.log ++ (M513.log ++ (M453.log ++ (M393.log ++ (M333.log ++ (M273.log ++ (M213.log ++ (M153.log ++ (M98.log ++ M59.log))))))))))))))))) := ⟨_, rfl⟩
  have X1013 : Ext M M1011 := by rw [ef1012, ← hl1010]; exact Ext.join (X953) (X1007)
  have hM1014 : MemOk M1011 := by rw [ef1012]; exact hM998
  have g1015 : M1011.get y12s = some ⟨(irows (Rr x ns y)).flatten, 31, 5, 0, true⟩ := by rw [ef1012]; exact g1001
  have g1016 : M1011.get y12f = some ⟨(brows (Aa x y)).flatten, 4, 1, 0, true⟩ := by rw [ef1012]; exact g1002
  have g1017 : M1011.get b24 = some ⟨[(sli y12s 0 (nN x) (nN x)), (sli y12f 0 (nN x) (nN x))], 25, 2, 0, true⟩ := by rw [ef1012]; exact g1003
  have g1018 : M1011.get b58 = some ⟨[(.slice w43a (Ww ws).length w43c), (.slice ra raw.length rc), sln], 26, 1, 0, true⟩ := by rw [ef1012]; exact g1004
  have g1019 : M1011.get b97 = some ⟨[(i64 (modI from_ (((nN x : Nat) : Int)))), (i64 from_), (i64 0), (i64 (-1)), (i64 (((nN x : Nat) : Int)))], 3, 1, 0, true⟩ := by rw [ef1012]; exact g1005
  have hw1020 : FlatAt 1 M1011 _ _ := hw1008.ext (fun id k g => by rw [ef1012]; exact g)
  obtain ⟨R1021, eR1022⟩ : ∃ m : Mem, m = Mem.mk M1011.blks M1011.next M1011.hide [] := ⟨_, rfl⟩
  have X1023 : Ext (Mem.mk M.blks M.next M.hide []) R1021 := by rw [eR1022]; exact Ext.aside (X1013)
  have lg1024 : R1021.log = [] := by rw [eR1022]
  have nxR1021 : R1021.next = M1011.next := by rw [eR1022]
  have hM1025 : MemOk R1021 := by rw [eR1022]; exact MemOk.log hM1014
  have lty12sM1011 : y12s < M993.next := by have h := Mem.lt_of_get g1015; rw [ef1012] at h; exact h
  have g1026 : R1021.get y12s = some ⟨(irows (Rr x ns y)).flatten, 31, 5, 0, true⟩ := by rw [eR1022]; exact g1015
  have lty12fM1011 : y12f < M993.next := by have h := Mem.lt_of_get g1016; rw [ef1012] at h; exact h
  have g1027 : R1021.get y12f = some ⟨(brows (Aa x y)).flatten, 4, 1, 0, true⟩ := by rw [eR1022]; exact g1016
  have ltb24M1011 : b24 < M993.next := by have h := Mem.lt_of_get g1017; rw [ef1012] at h; exact h
  have g1028 : R1021.get b24 = some ⟨[(sli y12s 0 (nN x) (nN x)), (sli y12f 0 (nN x) (nN x))], 25, 2, 0, true⟩ := by rw [eR1022]; exact g1017
  have ltb58M1011 : b58 < M993.next := by have h := Mem.lt_of_get g1018; rw [ef1012] at h; exact h
  have g1029 : R1021.get b58 = some ⟨[(.slice w43a (Ww ws).length w43c), (.slice ra raw.length rc), sln], 26, 1, 0, true⟩ := by rw [eR1022]; exact g1018
  have ltb97M1011 : b97 < M993.next := by have h := Mem.lt_of_get g1019; rw [ef1012] at h; exact h
  have g1030 : R1021.get b97 = some ⟨[(i64 (modI from_ (((nN x : Nat) : Int)))), (i64 from_), (i64 0), (i64 (-1)), (i64 (((nN x : Nat) : Int)))], 3, 1, 0, true⟩ := by rw [eR1022]; exact g1019
  have hw1031 : FlatAt 1 R1021 _ _ := hw1020.ext (fun id k g => by rw [eR1022]; exact g)
  obtain ⟨w1032, N1033, M1034, p1035, l1036, e1037, E1038, hM1039, Q1040, G1041⟩ := call_t (P := Tryd.prog) (GL := [0]) (f := 19) hM1025 (Con.gl (con19 (-1) (MemOk.log hM1025) (mkAt g1026 rfl g1027 rfl).log flat_nil.log))
  have g1042 := E1038.old g1026
  have g1043 := E1038.old g1027
  have g1044 := E1038.old g1028
  have g1045 := E1038.old g1029
  have g1046 := E1038.old g1030
  have ew1032 := Qgo.val (mkAt g1026 rfl g1027 rfl).log flat_nil.log Q1040
  subst ew1032
  have lg1047 : M1034.log = [] := by rw [← e1037]; exact lg1024
  have X1048 := X1023.trans E1038
  have hw1049 := hw1031.Ext E1038
  have nx1050 := E1038.next
  obtain ⟨w1051, N1052, M1053, p1054, l1055, e1056, E1057, hM1058, Q1059, G1060⟩ := call_t (P := Tryd.prog) (GL := [0]) (f := 20) hM1039 (Con.gl (con20 (-1) (MemOk.log hM1039) (mkAt g1042 rfl g1043 rfl).log flat_nil.log (mk_good _ _ _)))
  have g1061 := E1057.old g1042
  have g1062 := E1057.old g1043
  have g1063 := E1057.old g1044
  have g1064 := E1057.old g1045
  have g1065 := E1057.old g1046
  have ew1051 := Qgo.val (mkAt g1042 rfl g1043 rfl).log flat_nil.log Q1059
  subst ew1051
  have lg1066 : M1053.log = [] := by rw [← e1056]; exact lg1047
  have X1067 := X1048.trans E1057
  have hw1068 := hw1049.Ext E1057
  have nx1069 := E1057.next
  have hl1070 : M1011.log = (M993.log ++ (M933.log ++ (M873.log ++ (M813.log ++ (M753.log ++ (M693.log ++ (M633.log ++ (M573.log ++ (M513.log ++ (M453.log ++ (M393.log ++ (M333.log ++ (M273.log ++ (M213.log ++ (M153.log ++ (M98.log ++ M59.log)))))))))))))))) := by rw [ef1012]
  obtain ⟨M1071, ef1072⟩ : ∃ m : Mem, m = (Mem.mk M1053.blks M1053.next M1053.hide (M1053.log ++ (M993.log ++ (M933.log ++ (M873.log ++ (M813.log ++ (M753.log ++ (M693.log ++ (M633.log ++ (M573.log ++ (M513.log ++ (M453.log ++ (M393.log ++ (M333.log ++ (M273.log ++ (M213.log ++ (M153.log ++ (M98.log ++ M59.log)))))))))))))))))) := ⟨_, rfl⟩
  have X1073 : Ext M M1071 := by rw [ef1072, ← hl1070]; exact Ext.join (X1013) (X1067)
  have hM1074 : MemOk M1071 := by rw [ef1072]; exact hM1058
  have g1075 : M1071.get y12s = some ⟨(irows (Rr x ns y)).flatten, 31, 5, 0, true⟩ := by rw [ef1072]; exact g1061
  have g1076 : M1071.get y12f = some ⟨(brows (Aa x y)).flatten, 4, 1, 0, true⟩ := by rw [ef1072]; exact g1062
  have g1077 : M1071.get b24 = some ⟨[(sli y12s 0 (nN x) (nN x)), (sli y12f 0 (nN x) (nN x))], 25, 2, 0, true⟩ := by rw [ef1072]; exact g1063
  have g1078 : M1071.get b58 = some ⟨[(.slice w43a (Ww ws).length w43c), (.slice ra raw.length rc), sln], 26, 1, 0, true⟩ := by rw [ef1072]; exact g1064
  have g1079 : M1071.get b97 = some ⟨[(i64 (modI from_ (((nN x : Nat) : Int)))), (i64 from_), (i64 0), (i64 (-1)), (i64 (((nN x : Nat) : Int)))], 3, 1, 0, true⟩ := by rw [ef1072]; exact g1065
  have hw1080 : FlatAt 1 M1071 _ _ := hw1068.ext (fun id k g => by rw [ef1072]; exact g)
  obtain ⟨R1081, eR1082⟩ : ∃ m : Mem, m = Mem.mk M1071.blks M1071.next M1071.hide [] := ⟨_, rfl⟩
  have X1083 : Ext (Mem.mk M.blks M.next M.hide []) R1081 := by rw [eR1082]; exact Ext.aside (X1073)
  have lg1084 : R1081.log = [] := by rw [eR1082]
  have nxR1081 : R1081.next = M1071.next := by rw [eR1082]
  have hM1085 : MemOk R1081 := by rw [eR1082]; exact MemOk.log hM1074
  have lty12sM1071 : y12s < M1053.next := by have h := Mem.lt_of_get g1075; rw [ef1072] at h; exact h
  have g1086 : R1081.get y12s = some ⟨(irows (Rr x ns y)).flatten, 31, 5, 0, true⟩ := by rw [eR1082]; exact g1075
  have lty12fM1071 : y12f < M1053.next := by have h := Mem.lt_of_get g1076; rw [ef1072] at h; exact h
  have g1087 : R1081.get y12f = some ⟨(brows (Aa x y)).flatten, 4, 1, 0, true⟩ := by rw [eR1082]; exact g1076
  have ltb24M1071 : b24 < M1053.next := by have h := Mem.lt_of_get g1077; rw [ef1072] at h; exact h
  have g1088 : R1081.get b24 = some ⟨[(sli y12s 0 (nN x) (nN x)), (sli y12f 0 (nN x) (nN x))], 25, 2, 0, true⟩ := by rw [eR1082]; exact g1077
  have ltb58M1071 : b58 < M1053.next := by have h := Mem.lt_of_get g1078; rw [ef1072] at h; exact h
  have g1089 : R1081.get b58 = some ⟨[(.slice w43a (Ww ws).length w43c), (.slice ra raw.length rc), sln], 26, 1, 0, true⟩ := by rw [eR1082]; exact g1078
  have ltb97M1071 : b97 < M1053.next := by have h := Mem.lt_of_get g1079; rw [ef1072] at h; exact h
  have g1090 : R1081.get b97 = some ⟨[(i64 (modI from_ (((nN x : Nat) : Int)))), (i64 from_), (i64 0), (i64 (-1)), (i64 (((nN x : Nat) : Int)))], 3, 1, 0, true⟩ := by rw [eR1082]; exact g1079
  have hw1091 : FlatAt 1 R1081 _ _ := hw1080.ext (fun id k g => by rw [eR1082]; exact g)
  obtain ⟨w1092, N1093, M1094, p1095, l1096, e1097, E1098, hM1099, Q1100, G1101⟩ := call_t (P := Tryd.prog) (GL := [0]) (f := 19) hM1085 (Con.gl (con19 (((nN x : Nat) : Int)) (MemOk.log hM1085) (mkAt g1086 rfl g1087 rfl).log flat_nil.log))
  have g1102 := E1098.old g1086
  have g1103 := E1098.old g1087
  have g1104 := E1098.old g1088
  have g1105 := E1098.old g1089
  have g1106 := E1098.old g1090
  have ew1092 := Qgo.val (mkAt g1086 rfl g1087 rfl).log flat_nil.log Q1100
  subst ew1092
  have lg1107 : M1094.log = [] := by rw [← e1097]; exact lg1084
  have X1108 := X1083.trans E1098
  have hw1109 := hw1091.Ext E1098
  have nx1110 := E1098.next
  obtain ⟨w1111, N1112, M1113, p1114, l1115, e1116, E1117, hM1118, Q1119, G1120⟩ := call_t (P := Tryd.prog) (GL := [0]) (f := 20) hM1099 (Con.gl (con20 (((nN x : Nat) : Int)) (MemOk.log hM1099) (mkAt g1102 rfl g1103 rfl).log flat_nil.log (mk_good _ _ _)))
  have g1121 := E1117.old g1102
  have g1122 := E1117.old g1103
  have g1123 := E1117.old g1104
  have g1124 := E1117.old g1105
  have g1125 := E1117.old g1106
  have ew1111 := Qgo.val (mkAt g1102 rfl g1103 rfl).log flat_nil.log Q1119
  subst ew1111
  have lg1126 : M1113.log = [] := by rw [← e1116]; exact lg1107
  have X1127 := X1108.trans E1117
  have hw1128 := hw1109.Ext E1117
  have nx1129 := E1117.next
  have hl1130 : M1071.log = (M1053.log ++ (M993.log ++ (M933.log ++ (M873.log ++ (M813.log ++ (M753.log ++ (M693.log ++ (M633.log ++ (M573.log ++ (M513.log ++ (M453.log ++ (M393.log ++ (M333.log ++ (M273.log ++ (M213.log ++ (M153.log ++ (M98.log ++ M59.log))))))))))))))))) := by rw [ef1072]
  obtain ⟨M1131, ef1132⟩ : ∃ m : Mem, m = (Mem.mk M1113.blks M1113.next M1113.hide (M1113.log ++ (M1053.log ++ (M993.log ++ (M933.log ++ (M873.log ++ (M813.log ++ (M753.log ++ (M693.log ++ (M633.log ++ (M573.log ++ (M513.log ++ (M453.log ++ (M393.log ++ (M333.log ++ (M273.log ++ (M213.log ++ (M153.log ++ (M98.log ++ M59.log))))))))))))))))))) := ⟨_, rfl⟩
  have X1133 : Ext M M1131 := by rw [ef1132, ← hl1130]; exact Ext.join (X1073) (X1127)
  have hM1134 : MemOk M1131 := by rw [ef1132]; exact hM1118
  have g1135 : M1131.get y12s = some ⟨(irows (Rr x ns y)).flatten, 31, 5, 0, true⟩ := by rw [ef1132]; exact g1121
  have g1136 : M1131.get y12f = some ⟨(brows (Aa x y)).flatten, 4, 1, 0, true⟩ := by rw [ef1132]; exact g1122
  have g1137 : M1131.get b24 = some ⟨[(sli y12s 0 (nN x) (nN x)), (sli y12f 0 (nN x) (nN x))], 25, 2, 0, true⟩ := by rw [ef1132]; exact g1123
  have g1138 : M1131.get b58 = some ⟨[(.slice w43a (Ww ws).length w43c), (.slice ra raw.length rc), sln], 26, 1, 0, true⟩ := by rw [ef1132]; exact g1124
  have g1139 : M1131.get b97 = some ⟨[(i64 (modI from_ (((nN x : Nat) : Int)))), (i64 from_), (i64 0), (i64 (-1)), (i64 (((nN x : Nat) : Int)))], 3, 1, 0, true⟩ := by rw [ef1132]; exact g1125
  have hw1140 : FlatAt 1 M1131 _ _ := hw1128.ext (fun id k g => by rw [ef1132]; exact g)
  obtain ⟨R1141, eR1142⟩ : ∃ m : Mem, m = Mem.mk M1131.blks M1131.next M1131.hide [] := ⟨_, rfl⟩
  have X1143 : Ext (Mem.mk M.blks M.next M.hide []) R1141 := by rw [eR1142]; exact Ext.aside (X1133)
  have lg1144 : R1141.log = [] := by rw [eR1142]
  have nxR1141 : R1141.next = M1131.next := by rw [eR1142]
  have hM1145 : MemOk R1141 := by rw [eR1142]; exact MemOk.log hM1134
  have lty12sM1131 : y12s < M1113.next := by have h := Mem.lt_of_get g1135; rw [ef1132] at h; exact h
  have g1146 : R1141.get y12s = some ⟨(irows (Rr x ns y)).flatten, 31, 5, 0, true⟩ := by rw [eR1142]; exact g1135
  have lty12fM1131 : y12f < M1113.next := by have h := Mem.lt_of_get g1136; rw [ef1132] at h; exact h
  have g1147 : R1141.get y12f = some ⟨(brows (Aa x y)).flatten, 4, 1, 0, true⟩ := by rw [eR1142]; exact g1136
  have ltb24M1131 : b24 < M1113.next := by have h := Mem.lt_of_get g1137; rw [ef1132] at h; exact h
  have g1148 : R1141.get b24 = some ⟨[(sli y12s 0 (nN x) (nN x)), (sli y12f 0 (nN x) (nN x))], 25, 2, 0, true⟩ := by rw [eR1142]; exact g1137
  have ltb58M1131 : b58 < M1113.next := by have h := Mem.lt_of_get g1138; rw [ef1132] at h; exact h
  have g1149 : R1141.get b58 = some ⟨[(.slice w43a (Ww ws).length w43c), (.slice ra raw.length rc), sln], 26, 1, 0, true⟩ := by rw [eR1142]; exact g1138
  have ltb97M1131 : b97 < M1113.next := by have h := Mem.lt_of_get g1139; rw [ef1132] at h; exact h
  have g1150 : R1141.get b97 = some ⟨[(i64 (modI from_ (((nN x : Nat) : Int)))), (i64 from_), (i64 0), (i64 (-1)), (i64 (((nN x : Nat) : Int)))], 3, 1, 0, true⟩ := by rw [eR1142]; exact g1139
  have hw1151 : FlatAt 1 R1141 _ _ := hw1140.ext (fun id k g => by rw [eR1142]; exact g)
  obtain ⟨w1152, N1153, M1154, p1155, l1156, e1157, E1158, hM1159, Q1160, G1161⟩ := call_t (P := Tryd.prog) (GL := [0]) (f := 21) hM1145 (Con.gl (con21 (MemOk.log hM1145) (mkAt g1146 rfl g1147 rfl).log flat_nil.log))
  have g1162 := E1158.old g1146
  have g1163 := E1158.old g1147
  have g1164 := E1158.old g1148
  have g1165 := E1158.old g1149
  have g1166 := E1158.old g1150
  have ew1152 := Qrun.val (mkAt g1146 rfl g1147 rfl).log flat_nil.log Q1160
  subst ew1152
  have lg1167 : M1154.log = [] := by rw [← e1157]; exact lg1144
  have X1168 := X1143.trans E1158
  have hw1169 := hw1151.Ext E1158
  have nx1170 := E1158.next
  obtain ⟨w1171, N1172, M1173, p1174, l1175, e1176, E1177, hM1178, Q1179, G1180⟩ := call_t (P := Tryd.prog) (GL := [0]) (f := 22) hM1159 (Con.gl (con22 (MemOk.log hM1159) (mkAt g1162 rfl g1163 rfl).log flat_nil.log (mk_good _ _ _) (by rw [rowsI_len, accsI_len])))
  have g1181 := E1177.old g1162
  have g1182 := E1177.old g1163
  have g1183 := E1177.old g1164
  have g1184 := E1177.old g1165
  have g1185 := E1177.old g1166
  have ew1171 := Qrun.val (mkAt g1162 rfl g1163 rfl).log flat_nil.log Q1179
  subst ew1171
  have lg1186 : M1173.log = [] := by rw [← e1176]; exact lg1167
  have X1187 := X1168.trans E1177
  have hw1188 := hw1169.Ext E1177
  have nx1189 := E1177.next
  have hl1190 : M1131.log = (M1113.log ++ (M1053.log ++ (M993.log ++ (M933.log ++ (M873.log ++ (M813.log ++ (M753.log ++ (M693.log ++ (M633.log ++ (M573.log ++ (M513.log ++ (M453.log ++ (M393.log ++ (M333.log ++ (M273.log ++ (M213.log ++ (M153.log ++ (M98.log ++ M59.log)))))))))))))))))) := by rw [ef1132]
  obtain ⟨M1191, ef1192⟩ : ∃ m : Mem, m = (Mem.mk M1173.blks M1173.next M1173.hide (M1173.log ++ (M1113.log ++ (M1053.log ++ (M993.log ++ (M933.log ++ (M873.log ++ (M813.log ++ (M753.log ++ (M693.log ++ (M633.log ++ (M573.log ++ (M513.log ++ (M453.log ++ (M393.log ++ (M333.log ++ (M273.log ++ (M213.log ++ (M153.log ++ (M98.log ++ M59.log)))))))))))))))))))) := ⟨_, rfl⟩
  have X1193 : Ext M M1191 := by rw [ef1192, ← hl1190]; exact Ext.join (X1133) (X1187)
  have hM1194 : MemOk M1191 := by rw [ef1192]; exact hM1178
  have g1195 : M1191.get y12s = some ⟨(irows (Rr x ns y)).flatten, 31, 5, 0, true⟩ := by rw [ef1192]; exact g1181
  have g1196 : M1191.get y12f = some ⟨(brows (Aa x y)).flatten, 4, 1, 0, true⟩ := by rw [ef1192]; exact g1182
  have g1197 : M1191.get b24 = some ⟨[(sli y12s 0 (nN x) (nN x)), (sli y12f 0 (nN x) (nN x))], 25, 2, 0, true⟩ := by rw [ef1192]; exact g1183
  have g1198 : M1191.get b58 = some ⟨[(.slice w43a (Ww ws).length w43c), (.slice ra raw.length rc), sln], 26, 1, 0, true⟩ := by rw [ef1192]; exact g1184
  have g1199 : M1191.get b97 = some ⟨[(i64 (modI from_ (((nN x : Nat) : Int)))), (i64 from_), (i64 0), (i64 (-1)), (i64 (((nN x : Nat) : Int)))], 3, 1, 0, true⟩ := by rw [ef1192]; exact g1185
  have hw1200 : FlatAt 1 M1191 _ _ := hw1188.ext (fun id k g => by rw [ef1192]; exact g)
  have hraw := w4_1_raw x a c ns y from_ aw cw ws ra rc raw e M M3 M15 y12s y12f b24 M25 M34 M46 w43a w43c b58 M59 M82 b97 M98 M134 M153 M194 M213 M254 M273 M314 M333 M374 M393 M434 M453 M494 M513 M554 M573 M614 M633 M674 M693 M734 M753 M794 M813 M854 M873 M914 M933 M974 M993 M1034 M1053 M1094 M1113 M1154 M1173
  have rw0 : Mem.mk M59.blks M59.next M59.hide [] = R70 := eR71.symm
  have rw1 : Mem.mk M82.blks M82.next M59.hide M82.log = M82 := by rw [(show M59.hide = M82.hide from ((X68).hide.trans (X95).hide.symm))]
  have rw2 : Mem.mk M82.blks M82.next (hides 64 [⟨4, 1, M59.next, M82.next⟩, ⟨2, 1, M59.next, M59.next⟩] ++ M59.hide) M82.log = hidx (hides 64 [⟨4, 1, M59.next, M82.next⟩, ⟨2, 1, M59.next, M59.next⟩]) M82 := by rw [(show M59.hide = M82.hide from ((X68).hide.trans (X95).hide.symm))]; rfl
  have rw3 : Mem.mk M82.blks M82.next (hides 192 [⟨4, 1, M59.next, M82.next⟩, ⟨2, 1, M59.next, M59.next⟩] ++ M59.hide) M82.log = M82 := by rw [show hides 192 [⟨4, 1, M59.next, M82.next⟩, ⟨2, 1, M59.next, M59.next⟩] = [] from by simp [hides, Nat.beq_refl, nxR70, nxM82, show Nat.beq 1 0 = false from rfl], (show M59.hide = M82.hide from ((X68).hide.trans (X95).hide.symm))]; rfl
  have rw4 : Mem.mk M98.blks M98.next M59.hide M98.log = M98 := by rw [(show M59.hide = M98.hide from ((X68).hide.trans (X109).hide.symm))]
  have rw5 : (Mem.mk M98.blks M98.next M59.hide (M98.log ++ M59.log)) = (Mem.mk M98.blks M98.next M98.hide (M98.log ++ M59.log)) := by rw [(show M59.hide = M98.hide from ((X68).hide.trans (X109).hide.symm))]
  have rw6 : (Mem.mk M98.blks M98.next M98.hide (M98.log ++ M59.log)) = M111 := ef112.symm
  have rw7 : Mem.mk M98.blks M98.next M59.hide [] = R121 := by rw [eR122]; simp only [ef112, (show M59.hide = M98.hide from ((X68).hide.trans (X109).hide.symm))]
  have rw8 : Mem.mk M98.blks M98.next (hides 14 [⟨0, 1, M98.next, M98.next⟩] ++ M59.hide) [] = R121 := by rw [show hides 14 [⟨0, 1, M98.next, M98.next⟩] = [] from by simp [hides, Nat.beq_refl, show Nat.beq 1 0 = false from rfl]]; exact (show Mem.mk M98.blks M98.next M59.hide [] = R121 by rw [eR122]; simp only [ef112, (show M59.hide = M98.hide from ((X68).hide.trans (X109).hide.symm))])
  have rw9 : Mem.mk M98.blks M98.next (hides 224 [⟨4, 1, M98.next, M98.next⟩, ⟨0, 1, M98.next, M98.next⟩] ++ M59.hide) [] = R121 := by rw [show hides 224 [⟨4, 1, M98.next, M98.next⟩, ⟨0, 1, M98.next, M98.next⟩] = [] from by simp [hides, Nat.beq_refl, show Nat.beq 1 0 = false from rfl]]; exact (show Mem.mk M98.blks M98.next M59.hide [] = R121 by rw [eR122]; simp only [ef112, (show M59.hide = M98.hide from ((X68).hide.trans (X109).hide.symm))])
  have rw10 : Mem.mk M134.blks M134.next M59.hide M134.log = M134 := by rw [(show M59.hide = M134.hide from ((X68).hide.trans (X148).hide.symm))]
  have rw11 : Mem.mk M134.blks M134.next (hides 0 [⟨9, 1, M98.next, M134.next⟩, ⟨8, 1, M98.next, M98.next⟩, ⟨4, 1, M98.next, M98.next⟩, ⟨0, 1, M98.next, M98.next⟩] ++ M59.hide) M134.log = hidx (hides 0 [⟨9, 1, M98.next, M134.next⟩, ⟨8, 1, M98.next, M98.next⟩, ⟨4, 1, M98.next, M98.next⟩, ⟨0, 1, M98.next, M98.next⟩]) M134 := by rw [(show M59.hide = M134.hide from ((X68).hide.trans (X148).hide.symm))]; rfl
  have rw12 : Mem.mk M134.blks M134.next (hides 14336 [⟨9, 1, M98.next, M134.next⟩, ⟨8, 1, M98.next, M98.next⟩, ⟨4, 1, M98.next, M98.next⟩, ⟨0, 1, M98.next, M98.next⟩] ++ M59.hide) M134.log = hidx (hides 14336 [⟨9, 1, M98.next, M134.next⟩, ⟨8, 1, M98.next, M98.next⟩, ⟨4, 1, M98.next, M98.next⟩, ⟨0, 1, M98.next, M98.next⟩]) M134 := by rw [(show M59.hide = M134.hide from ((X68).hide.trans (X148).hide.symm))]; rfl
  have rw13 : Mem.mk M134.blks M134.next (hides 229376 [⟨9, 1, M98.next, M134.next⟩, ⟨8, 1, M98.next, M98.next⟩, ⟨4, 1, M98.next, M98.next⟩, ⟨0, 1, M98.next, M98.next⟩] ++ M59.hide) M134.log = hidx (hides 229376 [⟨9, 1, M98.next, M134.next⟩, ⟨8, 1, M98.next, M98.next⟩, ⟨4, 1, M98.next, M98.next⟩, ⟨0, 1, M98.next, M98.next⟩]) M134 := by rw [(show M59.hide = M134.hide from ((X68).hide.trans (X148).hide.symm))]; rfl
  have rw14 : Mem.mk M153.blks M153.next M59.hide M153.log = M153 := by rw [(show M59.hide = M153.hide from ((X68).hide.trans (X167).hide.symm))]
  have rw15 : (Mem.mk M153.blks M153.next M59.hide (M153.log ++ (M98.log ++ M59.log))) = (Mem.mk M153.blks M153.next M153.hide (M153.log ++ (M98.log ++ M59.log))) := by rw [(show M59.hide = M153.hide from ((X68).hide.trans (X167).hide.symm))]
  have rw16 : (Mem.mk M153.blks M153.next M153.hide (M153.log ++ (M98.log ++ M59.log))) = M171 := ef172.symm
  have rw17 : Mem.mk M153.blks M153.next M59.hide [] = R181 := by rw [eR182]; simp only [ef172, (show M59.hide = M153.hide from ((X68).hide.trans (X167).hide.symm))]
  have rw18 : Mem.mk M153.blks M153.next (hides 14 [⟨0, 1, M153.next, M153.next⟩] ++ M59.hide) [] = R181 := by rw [show hides 14 [⟨0, 1, M153.next, M153.next⟩] = [] from by simp [hides, Nat.beq_refl, show Nat.beq 1 0 = false from rfl]]; exact (show Mem.mk M153.blks M153.next M59.hide [] = R181 by rw [eR182]; simp only [ef172, (show M59.hide = M153.hide from ((X68).hide.trans (X167).hide.symm))])
  have rw19 : Mem.mk M153.blks M153.next (hides 224 [⟨4, 1, M153.next, M153.next⟩, ⟨0, 1, M153.next, M153.next⟩] ++ M59.hide) [] = R181 := by rw [show hides 224 [⟨4, 1, M153.next, M153.next⟩, ⟨0, 1, M153.next, M153.next⟩] = [] from by simp [hides, Nat.beq_refl, show Nat.beq 1 0 = false from rfl]]; exact (show Mem.mk M153.blks M153.next M59.hide [] = R181 by rw [eR182]; simp only [ef172, (show M59.hide = M153.hide from ((X68).hide.trans (X167).hide.symm))])
  have rw20 : Mem.mk M194.blks M194.next M59.hide M194.log = M194 := by rw [(show M59.hide = M194.hide from ((X68).hide.trans (X208).hide.symm))]
  have rw21 : Mem.mk M194.blks M194.next (hides 0 [⟨9, 1, M153.next, M194.next⟩, ⟨8, 1, M153.next, M153.next⟩, ⟨4, 1, M153.next, M153.next⟩, ⟨0, 1, M153.next, M153.next⟩] ++ M59.hide) M194.log = hidx (hides 0 [⟨9, 1, M153.next, M194.next⟩, ⟨8, 1, M153.next, M153.next⟩, ⟨4, 1, M153.next, M153.next⟩, ⟨0, 1, M153.next, M153.next⟩]) M194 := by rw [(show M59.hide = M194.hide from ((X68).hide.trans (X208).hide.symm))]; rfl
  have rw22 : Mem.mk M194.blks M194.next (hides 14336 [⟨9, 1, M153.next, M194.next⟩, ⟨8, 1, M153.next, M153.next⟩, ⟨4, 1, M153.next, M153.next⟩, ⟨0, 1, M153.next, M153.next⟩] ++ M59.hide) M194.log = hidx (hides 14336 [⟨9, 1, M153.next, M194.next⟩, ⟨8, 1, M153.next, M153.next⟩, ⟨4, 1, M153.next, M153.next⟩, ⟨0, 1, M153.next, M153.next⟩]) M194 := by rw [(show M59.hide = M194.hide from ((X68).hide.trans (X208).hide.symm))]; rfl
  have rw23 : Mem.mk M194.blks M194.next (hides 229376 [⟨9, 1, M153.next, M194.next⟩, ⟨8, 1, M153.next, M153.next⟩, ⟨4, 1, M153.next, M153.next⟩, ⟨0, 1, M153.next, M153.next⟩] ++ M59.hide) M194.log = hidx (hides 229376 [⟨9, 1, M153.next, M194.next⟩, ⟨8, 1, M153.next, M153.next⟩, ⟨4, 1, M153.next, M153.next⟩, ⟨0, 1, M153.next, M153.next⟩]) M194 := by rw [(show M59.hide = M194.hide from ((X68).hide.trans (X208).hide.symm))]; rfl
  have rw24 : Mem.mk M213.blks M213.next M59.hide M213.log = M213 := by rw [(show M59.hide = M213.hide from ((X68).hide.trans (X227).hide.symm))]
  have rw25 : (Mem.mk M213.blks M213.next M59.hide (M213.log ++ (M153.log ++ (M98.log ++ M59.log)))) = (Mem.mk M213.blks M213.next M213.hide (M213.log ++ (M153.log ++ (M98.log ++ M59.log)))) := by rw [(show M59.hide = M213.hide from ((X68).hide.trans (X227).hide.symm))]
  have rw26 : (Mem.mk M213.blks M213.next M213.hide (M213.log ++ (M153.log ++ (M98.log ++ M59.log)))) = M231 := ef232.symm
  have rw27 : Mem.mk M213.blks M213.next M59.hide [] = R241 := by rw [eR242]; simp only [ef232, (show M59.hide = M213.hide from ((X68).hide.trans (X227).hide.symm))]
  have rw28 : Mem.mk M213.blks M213.next (hides 14 [⟨0, 1, M213.next, M213.next⟩] ++ M59.hide) [] = R241 := by rw [show hides 14 [⟨0, 1, M213.next, M213.next⟩] = [] from by simp [hides, Nat.beq_refl, show Nat.beq 1 0 = false from rfl]]; exact (show Mem.mk M213.blks M213.next M59.hide [] = R241 by rw [eR242]; simp only [ef232, (show M59.hide = M213.hide from ((X68).hide.trans (X227).hide.symm))])
  have rw29 : Mem.mk M213.blks M213.next (hides 224 [⟨4, 1, M213.next, M213.next⟩, ⟨0, 1, M213.next, M213.next⟩] ++ M59.hide) [] = R241 := by rw [show hides 224 [⟨4, 1, M213.next, M213.next⟩, ⟨0, 1, M213.next, M213.next⟩] = [] from by simp [hides, Nat.beq_refl, show Nat.beq 1 0 = false from rfl]]; exact (show Mem.mk M213.blks M213.next M59.hide [] = R241 by rw [eR242]; simp only [ef232, (show M59.hide = M213.hide from ((X68).hide.trans (X227).hide.symm))])
  have rw30 : Mem.mk M254.blks M254.next M59.hide M254.log = M254 := by rw [(show M59.hide = M254.hide from ((X68).hide.trans (X268).hide.symm))]
  have rw31 : Mem.mk M254.blks M254.next (hides 0 [⟨9, 1, M213.next, M254.next⟩, ⟨8, 1, M213.next, M213.next⟩, ⟨4, 1, M213.next, M213.next⟩, ⟨0, 1, M213.next, M213.next⟩] ++ M59.hide) M254.log = hidx (hides 0 [⟨9, 1, M213.next, M254.next⟩, ⟨8, 1, M213.next, M213.next⟩, ⟨4, 1, M213.next, M213.next⟩, ⟨0, 1, M213.next, M213.next⟩]) M254 := by rw [(show M59.hide = M254.hide from ((X68).hide.trans (X268).hide.symm))]; rfl
  have rw32 : Mem.mk M254.blks M254.next (hides 14336 [⟨9, 1, M213.next, M254.next⟩, ⟨8, 1, M213.next, M213.next⟩, ⟨4, 1, M213.next, M213.next⟩, ⟨0, 1, M213.next, M213.next⟩] ++ M59.hide) M254.log = hidx (hides 14336 [⟨9, 1, M213.next, M254.next⟩, ⟨8, 1, M213.next, M213.next⟩, ⟨4, 1, M213.next, M213.next⟩, ⟨0, 1, M213.next, M213.next⟩]) M254 := by rw [(show M59.hide = M254.hide from ((X68).hide.trans (X268).hide.symm))]; rfl
  have rw33 : Mem.mk M254.blks M254.next (hides 229376 [⟨9, 1, M213.next, M254.next⟩, ⟨8, 1, M213.next, M213.next⟩, ⟨4, 1, M213.next, M213.next⟩, ⟨0, 1, M213.next, M213.next⟩] ++ M59.hide) M254.log = hidx (hides 229376 [⟨9, 1, M213.next, M254.next⟩, ⟨8, 1, M213.next, M213.next⟩, ⟨4, 1, M213.next, M213.next⟩, ⟨0, 1, M213.next, M213.next⟩]) M254 := by rw [(show M59.hide = M254.hide from ((X68).hide.trans (X268).hide.symm))]; rfl
  have rw34 : Mem.mk M273.blks M273.next M59.hide M273.log = M273 := by rw [(show M59.hide = M273.hide from ((X68).hide.trans (X287).hide.symm))]
  have rw35 : (Mem.mk M273.blks M273.next M59.hide (M273.log ++ (M213.log ++ (M153.log ++ (M98.log ++ M59.log))))) = (Mem.mk M273.blks M273.next M273.hide (M273.log ++ (M213.log ++ (M153.log ++ (M98.log ++ M59.log))))) := by rw [(show M59.hide = M273.hide from ((X68).hide.trans (X287).hide.symm))]
  have rw36 : (Mem.mk M273.blks M273.next M273.hide (M273.log ++ (M213.log ++ (M153.log ++ (M98.log ++ M59.log))))) = M291 := ef292.symm
  have rw37 : Mem.mk M273.blks M273.next M59.hide [] = R301 := by rw [eR302]; simp only [ef292, (show M59.hide = M273.hide from ((X68).hide.trans (X287).hide.symm))]
  have rw38 : Mem.mk M273.blks M273.next (hides 14 [⟨0, 1, M273.next, M273.next⟩] ++ M59.hide) [] = R301 := by rw [show hides 14 [⟨0, 1, M273.next, M273.next⟩] = [] from by simp [hides, Nat.beq_refl, show Nat.beq 1 0 = false from rfl]]; exact (show Mem.mk M273.blks M273.next M59.hide [] = R301 by rw [eR302]; simp only [ef292, (show M59.hide = M273.hide from ((X68).hide.trans (X287).hide.symm))])
  have rw39 : Mem.mk M273.blks M273.next (hides 224 [⟨4, 1, M273.next, M273.next⟩, ⟨0, 1, M273.next, M273.next⟩] ++ M59.hide) [] = R301 := by rw [show hides 224 [⟨4, 1, M273.next, M273.next⟩, ⟨0, 1, M273.next, M273.next⟩] = [] from by simp [hides, Nat.beq_refl, show Nat.beq 1 0 = false from rfl]]; exact (show Mem.mk M273.blks M273.next M59.hide [] = R301 by rw [eR302]; simp only [ef292, (show M59.hide = M273.hide from ((X68).hide.trans (X287).hide.symm))])
  have rw40 : Mem.mk M314.blks M314.next M59.hide M314.log = M314 := by rw [(show M59.hide = M314.hide from ((X68).hide.trans (X328).hide.symm))]
  have rw41 : Mem.mk M314.blks M314.next (hides 0 [⟨9, 1, M273.next, M314.next⟩, ⟨8, 1, M273.next, M273.next⟩, ⟨4, 1, M273.next, M273.next⟩, ⟨0, 1, M273.next, M273.next⟩] ++ M59.hide) M314.log = hidx (hides 0 [⟨9, 1, M273.next, M314.next⟩, ⟨8, 1, M273.next, M273.next⟩, ⟨4, 1, M273.next, M273.next⟩, ⟨0, 1, M273.next, M273.next⟩]) M314 := by rw [(show M59.hide = M314.hide from ((X68).hide.trans (X328).hide.symm))]; rfl
  have rw42 : Mem.mk M314.blks M314.next (hides 14336 [⟨9, 1, M273.next, M314.next⟩, ⟨8, 1, M273.next, M273.next⟩, ⟨4, 1, M273.next, M273.next⟩, ⟨0, 1, M273.next, M273.next⟩] ++ M59.hide) M314.log = hidx (hides 14336 [⟨9, 1, M273.next, M314.next⟩, ⟨8, 1, M273.next, M273.next⟩, ⟨4, 1, M273.next, M273.next⟩, ⟨0, 1, M273.next, M273.next⟩]) M314 := by rw [(show M59.hide = M314.hide from ((X68).hide.trans (X328).hide.symm))]; rfl
  have rw43 : Mem.mk M314.blks M314.next (hides 229376 [⟨9, 1, M273.next, M314.next⟩, ⟨8, 1, M273.next, M273.next⟩, ⟨4, 1, M273.next, M273.next⟩, ⟨0, 1, M273.next, M273.next⟩] ++ M59.hide) M314.log = hidx (hides 229376 [⟨9, 1, M273.next, M314.next⟩, ⟨8, 1, M273.next, M273.next⟩, ⟨4, 1, M273.next, M273.next⟩, ⟨0, 1, M273.next, M273.next⟩]) M314 := by rw [(show M59.hide = M314.hide from ((X68).hide.trans (X328).hide.symm))]; rfl
  have rw44 : Mem.mk M333.blks M333.next M59.hide M333.log = M333 := by rw [(show M59.hide = M333.hide from ((X68).hide.trans (X347).hide.symm))]
  have rw45 : (Mem.mk M333.blks M333.next M59.hide (M333.log ++ (M273.log ++ (M213.log ++ (M153.log ++ (M98.log ++ M59.log)))))) = (Mem.mk M333.blks M333.next M333.hide (M333.log ++ (M273.log ++ (M213.log ++ (M153.log ++ (M98.log ++ M59.log)))))) := by rw [(show M59.hide = M333.hide from ((X68).hide.trans (X347).hide.symm))]
  have rw46 : (Mem.mk M333.blks M333.next M333.hide (M333.log ++ (M273.log ++ (M213.log ++ (M153.log ++ (M98.log ++ M59.log)))))) = M351 := ef352.symm
  have rw47 : Mem.mk M333.blks M333.next M59.hide [] = R361 := by rw [eR362]; simp only [ef352, (show M59.hide = M333.hide from ((X68).hide.trans (X347).hide.symm))]
  have rw48 : Mem.mk M333.blks M333.next (hides 14 [⟨0, 1, M333.next, M333.next⟩] ++ M59.hide) [] = R361 := by rw [show hides 14 [⟨0, 1, M333.next, M333.next⟩] = [] from by simp [hides, Nat.beq_refl, show Nat.beq 1 0 = false from rfl]]; exact (show Mem.mk M333.blks M333.next M59.hide [] = R361 by rw [eR362]; simp only [ef352, (show M59.hide = M333.hide from ((X68).hide.trans (X347).hide.symm))])
  have rw49 : Mem.mk M333.blks M333.next (hides 224 [⟨4, 1, M333.next, M333.next⟩, ⟨0, 1, M333.next, M333.next⟩] ++ M59.hide) [] = R361 := by rw [show hides 224 [⟨4, 1, M333.next, M333.next⟩, ⟨0, 1, M333.next, M333.next⟩] = [] from by simp [hides, Nat.beq_refl, show Nat.beq 1 0 = false from rfl]]; exact (show Mem.mk M333.blks M333.next M59.hide [] = R361 by rw [eR362]; simp only [ef352, (show M59.hide = M333.hide from ((X68).hide.trans (X347).hide.symm))])
  have rw50 : Mem.mk M374.blks M374.next M59.hide M374.log = M374 := by rw [(show M59.hide = M374.hide from ((X68).hide.trans (X388).hide.symm))]
  have rw51 : Mem.mk M374.blks M374.next (hides 0 [⟨9, 1, M333.next, M374.next⟩, ⟨8, 1, M333.next, M333.next⟩, ⟨4, 1, M333.next, M333.next⟩, ⟨0, 1, M333.next, M333.next⟩] ++ M59.hide) M374.log = hidx (hides 0 [⟨9, 1, M333.next, M374.next⟩, ⟨8, 1, M333.next, M333.next⟩, ⟨4, 1, M333.next, M333.next⟩, ⟨0, 1, M333.next, M333.next⟩]) M374 := by rw [(show M59.hide = M374.hide from ((X68).hide.trans (X388).hide.symm))]; rfl
  have rw52 : Mem.mk M374.blks M374.next (hides 14336 [⟨9, 1, M333.next, M374.next⟩, ⟨8, 1, M333.next, M333.next⟩, ⟨4, 1, M333.next, M333.next⟩, ⟨0, 1, M333.next, M333.next⟩] ++ M59.hide) M374.log = hidx (hides 14336 [⟨9, 1, M333.next, M374.next⟩, ⟨8, 1, M333.next, M333.next⟩, ⟨4, 1, M333.next, M333.next⟩, ⟨0, 1, M333.next, M333.next⟩]) M374 := by rw [(show M59.hide = M374.hide from ((X68).hide.trans (X388).hide.symm))]; rfl
  have rw53 : Mem.mk M374.blks M374.next (hides 229376 [⟨9, 1, M333.next, M374.next⟩, ⟨8, 1, M333.next, M333.next⟩, ⟨4, 1, M333.next, M333.next⟩, ⟨0, 1, M333.next, M333.next⟩] ++ M59.hide) M374.log = hidx (hides 229376 [⟨9, 1, M333.next, M374.next⟩, ⟨8, 1, M333.next, M333.next⟩, ⟨4, 1, M333.next, M333.next⟩, ⟨0, 1, M333.next, M333.next⟩]) M374 := by rw [(show M59.hide = M374.hide from ((X68).hide.trans (X388).hide.symm))]; rfl
  have rw54 : Mem.mk M393.blks M393.next M59.hide M393.log = M393 := by rw [(show M59.hide = M393.hide from ((X68).hide.trans (X407).hide.symm))]
  have rw55 : (Mem.mk M393.blks M393.next M59.hide (M393.log ++ (M333.log ++ (M273.log ++ (M213.log ++ (M153.log ++ (M98.log ++ M59.log))))))) = (Mem.mk M393.blks M393.next M393.hide (M393.log ++ (M333.log ++ (M273.log ++ (M213.log ++ (M153.log ++ (M98.log ++ M59.log))))))) := by rw [(show M59.hide = M393.hide from ((X68).hide.trans (X407).hide.symm))]
  have rw56 : (Mem.mk M393.blks M393.next M393.hide (M393.log ++ (M333.log ++ (M273.log ++ (M213.log ++ (M153.log ++ (M98.log ++ M59.log))))))) = M411 := ef412.symm
  have rw57 : Mem.mk M393.blks M393.next M59.hide [] = R421 := by rw [eR422]; simp only [ef412, (show M59.hide = M393.hide from ((X68).hide.trans (X407).hide.symm))]
  have rw58 : Mem.mk M393.blks M393.next (hides 14 [⟨0, 1, M393.next, M393.next⟩] ++ M59.hide) [] = R421 := by rw [show hides 14 [⟨0, 1, M393.next, M393.next⟩] = [] from by simp [hides, Nat.beq_refl, show Nat.beq 1 0 = false from rfl]]; exact (show Mem.mk M393.blks M393.next M59.hide [] = R421 by rw [eR422]; simp only [ef412, (show M59.hide = M393.hide from ((X68).hide.trans (X407).hide.symm))])
  have rw59 : Mem.mk M434.blks M434.next M59.hide M434.log = M434 := by rw [(show M59.hide = M434.hide from ((X68).hide.trans (X448).hide.symm))]
  have rw60 : Mem.mk M434.blks M434.next (hides 0 [⟨5, 1, M393.next, M434.next⟩, ⟨4, 1, M393.next, M393.next⟩, ⟨0, 1, M393.next, M393.next⟩] ++ M59.hide) M434.log = hidx (hides 0 [⟨5, 1, M393.next, M434.next⟩, ⟨4, 1, M393.next, M393.next⟩, ⟨0, 1, M393.next, M393.next⟩]) M434 := by rw [(show M59.hide = M434.hide from ((X68).hide.trans (X448).hide.symm))]; rfl
  have rw61 : Mem.mk M434.blks M434.next (hides 896 [⟨5, 1, M393.next, M434.next⟩, ⟨4, 1, M393.next, M393.next⟩, ⟨0, 1, M393.next, M393.next⟩] ++ M59.hide) M434.log = hidx (hides 896 [⟨5, 1, M393.next, M434.next⟩, ⟨4, 1, M393.next, M393.next⟩, ⟨0, 1, M393.next, M393.next⟩]) M434 := by rw [(show M59.hide = M434.hide from ((X68).hide.trans (X448).hide.symm))]; rfl
  have rw62 : Mem.mk M453.blks M453.next M59.hide M453.log = M453 := by rw [(show M59.hide = M453.hide from ((X68).hide.trans (X467).hide.symm))]
  have rw63 : (Mem.mk M453.blks M453.next M59.hide (M453.log ++ (M393.log ++ (M333.log ++ (M273.log ++ (M213.log ++ (M153.log ++ (M98.log ++ M59.log)))))))) = (Mem.mk M453.blks M453.next M453.hide (M453.log ++ (M393.log ++ (M333.log ++ (M273.log ++ (M213.log ++ (M153.log ++ (M98.log ++ M59.log)))))))) := by rw [(show M59.hide = M453.hide from ((X68).hide.trans (X467).hide.symm))]
  have rw64 : (Mem.mk M453.blks M453.next M453.hide (M453.log ++ (M393.log ++ (M333.log ++ (M273.log ++ (M213.log ++ (M153.log ++ (M98.log ++ M59.log)))))))) = M471 := ef472.symm
  have rw65 : Mem.mk M453.blks M453.next M59.hide [] = R481 := by rw [eR482]; simp only [ef472, (show M59.hide = M453.hide from ((X68).hide.trans (X467).hide.symm))]
  have rw66 : Mem.mk M453.blks M453.next (hides 14 [⟨0, 1, M453.next, M453.next⟩] ++ M59.hide) [] = R481 := by rw [show hides 14 [⟨0, 1, M453.next, M453.next⟩] = [] from by simp [hides, Nat.beq_refl, show Nat.beq 1 0 = false from rfl]]; exact (show Mem.mk M453.blks M453.next M59.hide [] = R481 by rw [eR482]; simp only [ef472, (show M59.hide = M453.hide from ((X68).hide.trans (X467).hide.symm))])
  have rw67 : Mem.mk M453.blks M453.next (hides 224 [⟨4, 1, M453.next, M453.next⟩, ⟨0, 1, M453.next, M453.next⟩] ++ M59.hide) [] = R481 := by rw [show hides 224 [⟨4, 1, M453.next, M453.next⟩, ⟨0, 1, M453.next, M453.next⟩] = [] from by simp [hides, Nat.beq_refl, show Nat.beq 1 0 = false from rfl]]; exact (show Mem.mk M453.blks M453.next M59.hide [] = R481 by rw [eR482]; simp only [ef472, (show M59.hide = M453.hide from ((X68).hide.trans (X467).hide.symm))])
  have rw68 : Mem.mk M494.blks M494.next M59.hide M494.log = M494 := by rw [(show M59.hide = M494.hide from ((X68).hide.trans (X508).hide.symm))]
  have rw69 : Mem.mk M494.blks M494.next (hides 0 [⟨9, 1, M453.next, M494.next⟩, ⟨8, 1, M453.next, M453.next⟩, ⟨4, 1, M453.next, M453.next⟩, ⟨0, 1, M453.next, M453.next⟩] ++ M59.hide) M494.log = hidx (hides 0 [⟨9, 1, M453.next, M494.next⟩, ⟨8, 1, M453.next, M453.next⟩, ⟨4, 1, M453.next, M453.next⟩, ⟨0, 1, M453.next, M453.next⟩]) M494 := by rw [(show M59.hide = M494.hide from ((X68).hide.trans (X508).hide.symm))]; rfl
  have rw70 : Mem.mk M494.blks M494.next (hides 14336 [⟨9, 1, M453.next, M494.next⟩, ⟨8, 1, M453.next, M453.next⟩, ⟨4, 1, M453.next, M453.next⟩, ⟨0, 1, M453.next, M453.next⟩] ++ M59.hide) M494.log = hidx (hides 14336 [⟨9, 1, M453.next, M494.next⟩, ⟨8, 1, M453.next, M453.next⟩, ⟨4, 1, M453.next, M453.next⟩, ⟨0, 1, M453.next, M453.next⟩]) M494 := by rw [(show M59.hide = M494.hide from ((X68).hide.trans (X508).hide.symm))]; rfl
  have rw71 : Mem.mk M494.blks M494.next (hides 229376 [⟨9, 1, M453.next, M494.next⟩, ⟨8, 1, M453.next, M453.next⟩, ⟨4, 1, M453.next, M453.next⟩, ⟨0, 1, M453.next, M453.next⟩] ++ M59.hide) M494.log = hidx (hides 229376 [⟨9, 1, M453.next, M494.next⟩, ⟨8, 1, M453.next, M453.next⟩, ⟨4, 1, M453.next, M453.next⟩, ⟨0, 1, M453.next, M453.next⟩]) M494 := by rw [(show M59.hide = M494.hide from ((X68).hide.trans (X508).hide.symm))]; rfl
  have rw72 : Mem.mk M513.blks M513.next M59.hide M513.log = M513 := by rw [(show M59.hide = M513.hide from ((X68).hide.trans (X527).hide.symm))]
  have rw73 : (Mem.mk M513.blks M513.next M59.hide (M513.log ++ (M453.log ++ (M393.log ++ (M333.log ++ (M273.log ++ (M213.log ++ (M153.log ++ (M98.log ++ M59.log))))))))) = (Mem.mk M513.blks M513.next M513.hide (M513.log ++ (M453.log ++ (M393.log ++ (M333.log ++ (M273.log ++ (M213.log ++ (M153.log ++ (M98.log ++ M59.log))))))))) := by rw [(show M59.hide = M513.hide from ((X68).hide.trans (X527).hide.symm))]
  have rw74 : (Mem.mk M513.blks M513.next M513.hide (M513.log ++ (M453.log ++ (M393.log ++ (M333.log ++ (M273.log ++ (M213.log ++ (M153.log ++ (M98.log ++ M59.log))))))))) = M531 := ef532.symm
  have rw75 : Mem.mk M513.blks M513.next M59.hide [] = R541 := by rw [eR542]; simp only [ef532, (show M59.hide = M513.hide from ((X68).hide.trans (X527).hide.symm))]
  have rw76 : Mem.mk M513.blks M513.next (hides 14 [⟨0, 1, M513.next, M513.next⟩] ++ M59.hide) [] = R541 := by rw [show hides 14 [⟨0, 1, M513.next, M513.next⟩] = [] from by simp [hides, Nat.beq_refl, show Nat.beq 1 0 = false from rfl]]; exact (show Mem.mk M513.blks M513.next M59.hide [] = R541 by rw [eR542]; simp only [ef532, (show M59.hide = M513.hide from ((X68).hide.trans (X527).hide.symm))])
  have rw77 : Mem.mk M513.blks M513.next (hides 224 [⟨4, 1, M513.next, M513.next⟩, ⟨0, 1, M513.next, M513.next⟩] ++ M59.hide) [] = R541 := by rw [show hides 224 [⟨4, 1, M513.next, M513.next⟩, ⟨0, 1, M513.next, M513.next⟩] = [] from by simp [hides, Nat.beq_refl, show Nat.beq 1 0 = false from rfl]]; exact (show Mem.mk M513.blks M513.next M59.hide [] = R541 by rw [eR542]; simp only [ef532, (show M59.hide = M513.hide from ((X68).hide.trans (X527).hide.symm))])
  have rw78 : Mem.mk M554.blks M554.next M59.hide M554.log = M554 := by rw [(show M59.hide = M554.hide from ((X68).hide.trans (X568).hide.symm))]
  have rw79 : Mem.mk M554.blks M554.next (hides 0 [⟨9, 1, M513.next, M554.next⟩, ⟨8, 1, M513.next, M513.next⟩, ⟨4, 1, M513.next, M513.next⟩, ⟨0, 1, M513.next, M513.next⟩] ++ M59.hide) M554.log = hidx (hides 0 [⟨9, 1, M513.next, M554.next⟩, ⟨8, 1, M513.next, M513.next⟩, ⟨4, 1, M513.next, M513.next⟩, ⟨0, 1, M513.next, M513.next⟩]) M554 := by rw [(show M59.hide = M554.hide from ((X68).hide.trans (X568).hide.symm))]; rfl
  have rw80 : Mem.mk M554.blks M554.next (hides 14336 [⟨9, 1, M513.next, M554.next⟩, ⟨8, 1, M513.next, M513.next⟩, ⟨4, 1, M513.next, M513.next⟩, ⟨0, 1, M513.next, M513.next⟩] ++ M59.hide) M554.log = hidx (hides 14336 [⟨9, 1, M513.next, M554.next⟩, ⟨8, 1, M513.next, M513.next⟩, ⟨4, 1, M513.next, M513.next⟩, ⟨0, 1, M513.next, M513.next⟩]) M554 := by rw [(show M59.hide = M554.hide from ((X68).hide.trans (X568).hide.symm))]; rfl
  have rw81 : Mem.mk M554.blks M554.next (hides 229376 [⟨9, 1, M513.next, M554.next⟩, ⟨8, 1, M513.next, M513.next⟩, ⟨4, 1, M513.next, M513.next⟩, ⟨0, 1, M513.next, M513.next⟩] ++ M59.hide) M554.log = hidx (hides 229376 [⟨9, 1, M513.next, M554.next⟩, ⟨8, 1, M513.next, M513.next⟩, ⟨4, 1, M513.next, M513.next⟩, ⟨0, 1, M513.next, M513.next⟩]) M554 := by rw [(show M59.hide = M554.hide from ((X68).hide.trans (X568).hide.symm))]; rfl
  have rw82 : Mem.mk M573.blks M573.next M59.hide M573.log = M573 := by rw [(show M59.hide = M573.hide from ((X68).hide.trans (X587).hide.symm))]
  have rw83 : (Mem.mk M573.blks M573.next M59.hide (M573.log ++ (M513.log ++ (M453.log ++ (M393.log ++ (M333.log ++ (M273.log ++ (M213.log ++ (M153.log ++ (M98.log ++ M59.log)))))))))) = (Mem.mk M573.blks M573.next M573.hide (M573.log ++ (M513.log ++ (M453.log ++ (M393.log ++ (M333.log ++ (M273.log ++ (M213.log ++ (M153.log ++ (M98.log ++ M59.log)))))))))) := by rw [(show M59.hide = M573.hide from ((X68).hide.trans (X587).hide.symm))]
  have rw84 : (Mem.mk M573.blks M573.next M573.hide (M573.log ++ (M513.log ++ (M453.log ++ (M393.log ++ (M333.log ++ (M273.log ++ (M213.log ++ (M153.log ++ (M98.log ++ M59.log)))))))))) = M591 := ef592.symm
  have rw85 : Mem.mk M573.blks M573.next M59.hide [] = R601 := by rw [eR602]; simp only [ef592, (show M59.hide = M573.hide from ((X68).hide.trans (X587).hide.symm))]
  have rw86 : Mem.mk M573.blks M573.next (hides 14 [⟨0, 1, M573.next, M573.next⟩] ++ M59.hide) [] = R601 := by rw [show hides 14 [⟨0, 1, M573.next, M573.next⟩] = [] from by simp [hides, Nat.beq_refl, show Nat.beq 1 0 = false from rfl]]; exact (show Mem.mk M573.blks M573.next M59.hide [] = R601 by rw [eR602]; simp only [ef592, (show M59.hide = M573.hide from ((X68).hide.trans (X587).hide.symm))])
  have rw87 : Mem.mk M573.blks M573.next (hides 224 [⟨4, 1, M573.next, M573.next⟩, ⟨0, 1, M573.next, M573.next⟩] ++ M59.hide) [] = R601 := by rw [show hides 224 [⟨4, 1, M573.next, M573.next⟩, ⟨0, 1, M573.next, M573.next⟩] = [] from by simp [hides, Nat.beq_refl, show Nat.beq 1 0 = false from rfl]]; exact (show Mem.mk M573.blks M573.next M59.hide [] = R601 by rw [eR602]; simp only [ef592, (show M59.hide = M573.hide from ((X68).hide.trans (X587).hide.symm))])
  have rw88 : Mem.mk M614.blks M614.next M59.hide M614.log = M614 := by rw [(show M59.hide = M614.hide from ((X68).hide.trans (X628).hide.symm))]
  have rw89 : Mem.mk M614.blks M614.next (hides 0 [⟨9, 1, M573.next, M614.next⟩, ⟨8, 1, M573.next, M573.next⟩, ⟨4, 1, M573.next, M573.next⟩, ⟨0, 1, M573.next, M573.next⟩] ++ M59.hide) M614.log = hidx (hides 0 [⟨9, 1, M573.next, M614.next⟩, ⟨8, 1, M573.next, M573.next⟩, ⟨4, 1, M573.next, M573.next⟩, ⟨0, 1, M573.next, M573.next⟩]) M614 := by rw [(show M59.hide = M614.hide from ((X68).hide.trans (X628).hide.symm))]; rfl
  have rw90 : Mem.mk M614.blks M614.next (hides 14336 [⟨9, 1, M573.next, M614.next⟩, ⟨8, 1, M573.next, M573.next⟩, ⟨4, 1, M573.next, M573.next⟩, ⟨0, 1, M573.next, M573.next⟩] ++ M59.hide) M614.log = hidx (hides 14336 [⟨9, 1, M573.next, M614.next⟩, ⟨8, 1, M573.next, M573.next⟩, ⟨4, 1, M573.next, M573.next⟩, ⟨0, 1, M573.next, M573.next⟩]) M614 := by rw [(show M59.hide = M614.hide from ((X68).hide.trans (X628).hide.symm))]; rfl
  have rw91 : Mem.mk M614.blks M614.next (hides 229376 [⟨9, 1, M573.next, M614.next⟩, ⟨8, 1, M573.next, M573.next⟩, ⟨4, 1, M573.next, M573.next⟩, ⟨0, 1, M573.next, M573.next⟩] ++ M59.hide) M614.log = hidx (hides 229376 [⟨9, 1, M573.next, M614.next⟩, ⟨8, 1, M573.next, M573.next⟩, ⟨4, 1, M573.next, M573.next⟩, ⟨0, 1, M573.next, M573.next⟩]) M614 := by rw [(show M59.hide = M614.hide from ((X68).hide.trans (X628).hide.symm))]; rfl
  have rw92 : Mem.mk M633.blks M633.next M59.hide M633.log = M633 := by rw [(show M59.hide = M633.hide from ((X68).hide.trans (X647).hide.symm))]
  have rw93 : (Mem.mk M633.blks M633.next M59.hide (M633.log ++ (M573.log ++ (M513.log ++ (M453.log ++ (M393.log ++ (M333.log ++ (M273.log ++ (M213.log ++ (M153.log ++ (M98.log ++ M59.log))))))))))) = (Mem.mk M633.blks M633.next M633.hide (M633.log ++ (M573.log ++ (M513.log ++ (M453.log ++ (M393.log ++ (M333.log ++ (M273.log ++ (M213.log ++ (M153.log ++ (M98.log ++ M59.log))))))))))) := by rw [(show M59.hide = M633.hide from ((X68).hide.trans (X647).hide.symm))]
  have rw94 : (Mem.mk M633.blks M633.next M633.hide (M633.log ++ (M573.log ++ (M513.log ++ (M453.log ++ (M393.log ++ (M333.log ++ (M273.log ++ (M213.log ++ (M153.log ++ (M98.log ++ M59.log))))))))))) = M651 := ef652.symm
  have rw95 : Mem.mk M633.blks M633.next M59.hide [] = R661 := by rw [eR662]; simp only [ef652, (show M59.hide = M633.hide from ((X68).hide.trans (X647).hide.symm))]
  have rw96 : Mem.mk M633.blks M633.next (hides 14 [⟨0, 1, M633.next, M633.next⟩] ++ M59.hide) [] = R661 := by rw [show hides 14 [⟨0, 1, M633.next, M633.next⟩] = [] from by simp [hides, Nat.beq_refl, show Nat.beq 1 0 = false from rfl]]; exact (show Mem.mk M633.blks M633.next M59.hide [] = R661 by rw [eR662]; simp only [ef652, (show M59.hide = M633.hide from ((X68).hide.trans (X647).hide.symm))])
  have rw97 : Mem.mk M633.blks M633.next (hides 224 [⟨4, 1, M633.next, M633.next⟩, ⟨0, 1, M633.next, M633.next⟩] ++ M59.hide) [] = R661 := by rw [show hides 224 [⟨4, 1, M633.next, M633.next⟩, ⟨0, 1, M633.next, M633.next⟩] = [] from by simp [hides, Nat.beq_refl, show Nat.beq 1 0 = false from rfl]]; exact (show Mem.mk M633.blks M633.next M59.hide [] = R661 by rw [eR662]; simp only [ef652, (show M59.hide = M633.hide from ((X68).hide.trans (X647).hide.symm))])
  have rw98 : Mem.mk M674.blks M674.next M59.hide M674.log = M674 := by rw [(show M59.hide = M674.hide from ((X68).hide.trans (X688).hide.symm))]
  have rw99 : Mem.mk M674.blks M674.next (hides 0 [⟨9, 1, M633.next, M674.next⟩, ⟨8, 1, M633.next, M633.next⟩, ⟨4, 1, M633.next, M633.next⟩, ⟨0, 1, M633.next, M633.next⟩] ++ M59.hide) M674.log = hidx (hides 0 [⟨9, 1, M633.next, M674.next⟩, ⟨8, 1, M633.next, M633.next⟩, ⟨4, 1, M633.next, M633.next⟩, ⟨0, 1, M633.next, M633.next⟩]) M674 := by rw [(show M59.hide = M674.hide from ((X68).hide.trans (X688).hide.symm))]; rfl
  have rw100 : Mem.mk M674.blks M674.next (hides 14336 [⟨9, 1, M633.next, M674.next⟩, ⟨8, 1, M633.next, M633.next⟩, ⟨4, 1, M633.next, M633.next⟩, ⟨0, 1, M633.next, M633.next⟩] ++ M59.hide) M674.log = hidx (hides 14336 [⟨9, 1, M633.next, M674.next⟩, ⟨8, 1, M633.next, M633.next⟩, ⟨4, 1, M633.next, M633.next⟩, ⟨0, 1, M633.next, M633.next⟩]) M674 := by rw [(show M59.hide = M674.hide from ((X68).hide.trans (X688).hide.symm))]; rfl
  have rw101 : Mem.mk M674.blks M674.next (hides 229376 [⟨9, 1, M633.next, M674.next⟩, ⟨8, 1, M633.next, M633.next⟩, ⟨4, 1, M633.next, M633.next⟩, ⟨0, 1, M633.next, M633.next⟩] ++ M59.hide) M674.log = hidx (hides 229376 [⟨9, 1, M633.next, M674.next⟩, ⟨8, 1, M633.next, M633.next⟩, ⟨4, 1, M633.next, M633.next⟩, ⟨0, 1, M633.next, M633.next⟩]) M674 := by rw [(show M59.hide = M674.hide from ((X68).hide.trans (X688).hide.symm))]; rfl
  have rw102 : Mem.mk M693.blks M693.next M59.hide M693.log = M693 := by rw [(show M59.hide = M693.hide from ((X68).hide.trans (X707).hide.symm))]
  have rw103 : (Mem.mk M693.blks M693.next M59.hide (M693.log ++ (M633.log ++ (M573.log ++ (M513.log ++ (M453.log ++ (M393.log ++ (M333.log ++ (M273.log ++ (M213.log ++ (M153.log ++ (M98.log ++ M59.log)))))))))))) = (Mem.mk M693.blks M693.next M693.hide (M693.log ++ (M633.log ++ (M573.log ++ (M513.log ++ (M453.log ++ (M393.log ++ (M333.log ++ (M273.log ++ (M213.log ++ (M153.log ++ (M98.log ++ M59.log)))))))))))) := by rw [(show M59.hide = M693.hide from ((X68).hide.trans (X707).hide.symm))]
  have rw104 : (Mem.mk M693.blks M693.next M693.hide (M693.log ++ (M633.log ++ (M573.log ++ (M513.log ++ (M453.log ++ (M393.log ++ (M333.log ++ (M273.log ++ (M213.log ++ (M153.log ++ (M98.log ++ M59.log)))))))))))) = M711 := ef712.symm
  have rw105 : Mem.mk M693.blks M693.next M59.hide [] = R721 := by rw [eR722]; simp only [ef712, (show M59.hide = M693.hide from ((X68).hide.trans (X707).hide.symm))]
  have rw106 : Mem.mk M693.blks M693.next (hides 14 [⟨0, 1, M693.next, M693.next⟩] ++ M59.hide) [] = R721 := by rw [show hides 14 [⟨0, 1, M693.next, M693.next⟩] = [] from by simp [hides, Nat.beq_refl, show Nat.beq 1 0 = false from rfl]]; exact (show Mem.mk M693.blks M693.next M59.hide [] = R721 by rw [eR722]; simp only [ef712, (show M59.hide = M693.hide from ((X68).hide.trans (X707).hide.symm))])
  have rw107 : Mem.mk M693.blks M693.next (hides 224 [⟨4, 1, M693.next, M693.next⟩, ⟨0, 1, M693.next, M693.next⟩] ++ M59.hide) [] = R721 := by rw [show hides 224 [⟨4, 1, M693.next, M693.next⟩, ⟨0, 1, M693.next, M693.next⟩] = [] from by simp [hides, Nat.beq_refl, show Nat.beq 1 0 = false from rfl]]; exact (show Mem.mk M693.blks M693.next M59.hide [] = R721 by rw [eR722]; simp only [ef712, (show M59.hide = M693.hide from ((X68).hide.trans (X707).hide.symm))])
  have rw108 : Mem.mk M734.blks M734.next M59.hide M734.log = M734 := by rw [(show M59.hide = M734.hide from ((X68).hide.trans (X748).hide.symm))]
  have rw109 : Mem.mk M734.blks M734.next (hides 0 [⟨9, 1, M693.next, M734.next⟩, ⟨8, 1, M693.next, M693.next⟩, ⟨4, 1, M693.next, M693.next⟩, ⟨0, 1, M693.next, M693.next⟩] ++ M59.hide) M734.log = hidx (hides 0 [⟨9, 1, M693.next, M734.next⟩, ⟨8, 1, M693.next, M693.next⟩, ⟨4, 1, M693.next, M693.next⟩, ⟨0, 1, M693.next, M693.next⟩]) M734 := by rw [(show M59.hide = M734.hide from ((X68).hide.trans (X748).hide.symm))]; rfl
  have rw110 : Mem.mk M734.blks M734.next (hides 14336 [⟨9, 1, M693.next, M734.next⟩, ⟨8, 1, M693.next, M693.next⟩, ⟨4, 1, M693.next, M693.next⟩, ⟨0, 1, M693.next, M693.next⟩] ++ M59.hide) M734.log = hidx (hides 14336 [⟨9, 1, M693.next, M734.next⟩, ⟨8, 1, M693.next, M693.next⟩, ⟨4, 1, M693.next, M693.next⟩, ⟨0, 1, M693.next, M693.next⟩]) M734 := by rw [(show M59.hide = M734.hide from ((X68).hide.trans (X748).hide.symm))]; rfl
  have rw111 : Mem.mk M734.blks M734.next (hides 229376 [⟨9, 1, M693.next, M734.next⟩, ⟨8, 1, M693.next, M693.next⟩, ⟨4, 1, M693.next, M693.next⟩, ⟨0, 1, M693.next, M693.next⟩] ++ M59.hide) M734.log = hidx (hides 229376 [⟨9, 1, M693.next, M734.next⟩, ⟨8, 1, M693.next, M693.next⟩, ⟨4, 1, M693.next, M693.next⟩, ⟨0, 1, M693.next, M693.next⟩]) M734 := by rw [(show M59.hide = M734.hide from ((X68).hide.trans (X748).hide.symm))]; rfl
  have rw112 : Mem.mk M753.blks M753.next M59.hide M753.log = M753 := by rw [(show M59.hide = M753.hide from ((X68).hide.trans (X767).hide.symm))]
  have rw113 : (Mem.mk M753.blks M753.next M59.hide (M753.log ++ (M693.log ++ (M633.log ++ (M573.log ++ (M513.log ++ (M453.log ++ (M393.log ++ (M333.log ++ (M273.log ++ (M213.log ++ (M153.log ++ (M98.log ++ M59.log))))))))))))) = (Mem.mk M753.blks M753.next M753.hide (M753.log ++ (M693.log ++ (M633.log ++ (M573.log ++ (M513.log ++ (M453.log ++ (M393.log ++ (M333.log ++ (M273.log ++ (M213.log ++ (M153.log ++ (M98.log ++ M59.log))))))))))))) := by rw [(show M59.hide = M753.hide from ((X68).hide.trans (X767).hide.symm))]
  have rw114 : (Mem.mk M753.blks M753.next M753.hide (M753.log ++ (M693.log ++ (M633.log ++ (M573.log ++ (M513.log ++ (M453.log ++ (M393.log ++ (M333.log ++ (M273.log ++ (M213.log ++ (M153.log ++ (M98.log ++ M59.log))))))))))))) = M771 := ef772.symm
  have rw115 : Mem.mk M753.blks M753.next M59.hide [] = R781 := by rw [eR782]; simp only [ef772, (show M59.hide = M753.hide from ((X68).hide.trans (X767).hide.symm))]
  have rw116 : Mem.mk M753.blks M753.next (hides 14 [⟨0, 1, M753.next, M753.next⟩] ++ M59.hide) [] = R781 := by rw [show hides 14 [⟨0, 1, M753.next, M753.next⟩] = [] from by simp [hides, Nat.beq_refl, show Nat.beq 1 0 = false from rfl]]; exact (show Mem.mk M753.blks M753.next M59.hide [] = R781 by rw [eR782]; simp only [ef772, (show M59.hide = M753.hide from ((X68).hide.trans (X767).hide.symm))])
  have rw117 : Mem.mk M794.blks M794.next M59.hide M794.log = M794 := by rw [(show M59.hide = M794.hide from ((X68).hide.trans (X808).hide.symm))]
  have rw118 : Mem.mk M794.blks M794.next (hides 0 [⟨5, 1, M753.next, M794.next⟩, ⟨4, 1, M753.next, M753.next⟩, ⟨0, 1, M753.next, M753.next⟩] ++ M59.hide) M794.log = hidx (hides 0 [⟨5, 1, M753.next, M794.next⟩, ⟨4, 1, M753.next, M753.next⟩, ⟨0, 1, M753.next, M753.next⟩]) M794 := by rw [(show M59.hide = M794.hide from ((X68).hide.trans (X808).hide.symm))]; rfl
  have rw119 : Mem.mk M794.blks M794.next (hides 896 [⟨5, 1, M753.next, M794.next⟩, ⟨4, 1, M753.next, M753.next⟩, ⟨0, 1, M753.next, M753.next⟩] ++ M59.hide) M794.log = hidx (hides 896 [⟨5, 1, M753.next, M794.next⟩, ⟨4, 1, M753.next, M753.next⟩, ⟨0, 1, M753.next, M753.next⟩]) M794 := by rw [(show M59.hide = M794.hide from ((X68).hide.trans (X808).hide.symm))]; rfl
  have rw120 : Mem.mk M813.blks M813.next M59.hide M813.log = M813 := by rw [(show M59.hide = M813.hide from ((X68).hide.trans (X827).hide.symm))]
  have rw121 : (Mem.mk M813.blks M813.next M59.hide (M813.log ++ (M753.log ++ (M693.log ++ (M633.log ++ (M573.log ++ (M513.log ++ (M453.log ++ (M393.log ++ (M333.log ++ (M273.log ++ (M213.log ++ (M153.log ++ (M98.log ++ M59.log)))))))))))))) = (Mem.mk M813.blks M813.next M813.hide (M813.log ++ (M753.log ++ (M693.log ++ (M633.log ++ (M573.log ++ (M513.log ++ (M453.log ++ (M393.log ++ (M333.log ++ (M273.log ++ (M213.log ++ (M153.log ++ (M98.log ++ M59.log)))))))))))))) := by rw [(show M59.hide = M813.hide from ((X68).hide.trans (X827).hide.symm))]
  have rw122 : (Mem.mk M813.blks M813.next M813.hide (M813.log ++ (M753.log ++ (M693.log ++ (M633.log ++ (M573.log ++ (M513.log ++ (M453.log ++ (M393.log ++ (M333.log ++ (M273.log ++ (M213.log ++ (M153.log ++ (M98.log ++ M59.log)))))))))))))) = M831 := ef832.symm
  have rw123 : Mem.mk M813.blks M813.next M59.hide [] = R841 := by rw [eR842]; simp only [ef832, (show M59.hide = M813.hide from ((X68).hide.trans (X827).hide.symm))]
  have rw124 : Mem.mk M813.blks M813.next (hides 14 [⟨0, 1, M813.next, M813.next⟩] ++ M59.hide) [] = R841 := by rw [show hides 14 [⟨0, 1, M813.next, M813.next⟩] = [] from by simp [hides, Nat.beq_refl, show Nat.beq 1 0 = false from rfl]]; exact (show Mem.mk M813.blks M813.next M59.hide [] = R841 by rw [eR842]; simp only [ef832, (show M59.hide = M813.hide from ((X68).hide.trans (X827).hide.symm))])
  have rw125 : Mem.mk M813.blks M813.next (hides 224 [⟨4, 1, M813.next, M813.next⟩, ⟨0, 1, M813.next, M813.next⟩] ++ M59.hide) [] = R841 := by rw [show hides 224 [⟨4, 1, M813.next, M813.next⟩, ⟨0, 1, M813.next, M813.next⟩] = [] from by simp [hides, Nat.beq_refl, show Nat.beq 1 0 = false from rfl]]; exact (show Mem.mk M813.blks M813.next M59.hide [] = R841 by rw [eR842]; simp only [ef832, (show M59.hide = M813.hide from ((X68).hide.trans (X827).hide.symm))])
  have rw126 : Mem.mk M854.blks M854.next M59.hide M854.log = M854 := by rw [(show M59.hide = M854.hide from ((X68).hide.trans (X868).hide.symm))]
  have rw127 : Mem.mk M854.blks M854.next (hides 0 [⟨9, 1, M813.next, M854.next⟩, ⟨8, 1, M813.next, M813.next⟩, ⟨4, 1, M813.next, M813.next⟩, ⟨0, 1, M813.next, M813.next⟩] ++ M59.hide) M854.log = hidx (hides 0 [⟨9, 1, M813.next, M854.next⟩, ⟨8, 1, M813.next, M813.next⟩, ⟨4, 1, M813.next, M813.next⟩, ⟨0, 1, M813.next, M813.next⟩]) M854 := by rw [(show M59.hide = M854.hide from ((X68).hide.trans (X868).hide.symm))]; rfl
  have rw128 : Mem.mk M854.blks M854.next (hides 14336 [⟨9, 1, M813.next, M854.next⟩, ⟨8, 1, M813.next, M813.next⟩, ⟨4, 1, M813.next, M813.next⟩, ⟨0, 1, M813.next, M813.next⟩] ++ M59.hide) M854.log = hidx (hides 14336 [⟨9, 1, M813.next, M854.next⟩, ⟨8, 1, M813.next, M813.next⟩, ⟨4, 1, M813.next, M813.next⟩, ⟨0, 1, M813.next, M813.next⟩]) M854 := by rw [(show M59.hide = M854.hide from ((X68).hide.trans (X868).hide.symm))]; rfl
  have rw129 : Mem.mk M854.blks M854.next (hides 229376 [⟨9, 1, M813.next, M854.next⟩, ⟨8, 1, M813.next, M813.next⟩, ⟨4, 1, M813.next, M813.next⟩, ⟨0, 1, M813.next, M813.next⟩] ++ M59.hide) M854.log = hidx (hides 229376 [⟨9, 1, M813.next, M854.next⟩, ⟨8, 1, M813.next, M813.next⟩, ⟨4, 1, M813.next, M813.next⟩, ⟨0, 1, M813.next, M813.next⟩]) M854 := by rw [(show M59.hide = M854.hide from ((X68).hide.trans (X868).hide.symm))]; rfl
  have rw130 : Mem.mk M873.blks M873.next M59.hide M873.log = M873 := by rw [(show M59.hide = M873.hide from ((X68).hide.trans (X887).hide.symm))]
  have rw131 : (Mem.mk M873.blks M873.next M59.hide (M873.log ++ (M813.log ++ (M753.log ++ (M693.log ++ (M633.log ++ (M573.log ++ (M513.log ++ (M453.log ++ (M393.log ++ (M333.log ++ (M273.log ++ (M213.log ++ (M153.log ++ (M98.log ++ M59.log))))))))))))))) = (Mem.mk M873.blks M873.next M873.hide (M873.log ++ (M813.log ++ (M753.log ++ (M693.log ++ (M633.log ++ (M573.log ++ (M513.log ++ (M453.log ++ (M393.log ++ (M333.log ++ (M273.log ++ (M213.log ++ (M153.log ++ (M98.log ++ M59.log))))))))))))))) := by rw [(show M59.hide = M873.hide from ((X68).hide.trans (X887).hide.symm))]
  have rw132 : (Mem.mk M873.blks M873.next M873.hide (M873.log ++ (M813.log ++ (M753.log ++ (M693.log ++ (M633.log ++ (M573.log ++ (M513.log ++ (M453.log ++ (M393.log ++ (M333.log ++ (M273.log ++ (M213.log ++ (M153.log ++ (M98.log ++ M59.log))))))))))))))) = M891 := ef892.symm
  have rw133 : Mem.mk M873.blks M873.next M59.hide [] = R901 := by rw [eR902]; simp only [ef892, (show M59.hide = M873.hide from ((X68).hide.trans (X887).hide.symm))]
  have rw134 : Mem.mk M873.blks M873.next (hides 14 [⟨0, 1, M873.next, M873.next⟩] ++ M59.hide) [] = R901 := by rw [show hides 14 [⟨0, 1, M873.next, M873.next⟩] = [] from by simp [hides, Nat.beq_refl, show Nat.beq 1 0 = false from rfl]]; exact (show Mem.mk M873.blks M873.next M59.hide [] = R901 by rw [eR902]; simp only [ef892, (show M59.hide = M873.hide from ((X68).hide.trans (X887).hide.symm))])
  have rw135 : Mem.mk M873.blks M873.next (hides 224 [⟨4, 1, M873.next, M873.next⟩, ⟨0, 1, M873.next, M873.next⟩] ++ M59.hide) [] = R901 := by rw [show hides 224 [⟨4, 1, M873.next, M873.next⟩, ⟨0, 1, M873.next, M873.next⟩] = [] from by simp [hides, Nat.beq_refl, show Nat.beq 1 0 = false from rfl]]; exact (show Mem.mk M873.blks M873.next M59.hide [] = R901 by rw [eR902]; simp only [ef892, (show M59.hide = M873.hide from ((X68).hide.trans (X887).hide.symm))])
  have rw136 : Mem.mk M914.blks M914.next M59.hide M914.log = M914 := by rw [(show M59.hide = M914.hide from ((X68).hide.trans (X928).hide.symm))]
  have rw137 : Mem.mk M914.blks M914.next (hides 0 [⟨9, 1, M873.next, M914.next⟩, ⟨8, 1, M873.next, M873.next⟩, ⟨4, 1, M873.next, M873.next⟩, ⟨0, 1, M873.next, M873.next⟩] ++ M59.hide) M914.log = hidx (hides 0 [⟨9, 1, M873.next, M914.next⟩, ⟨8, 1, M873.next, M873.next⟩, ⟨4, 1, M873.next, M873.next⟩, ⟨0, 1, M873.next, M873.next⟩]) M914 := by rw [(show M59.hide = M914.hide from ((X68).hide.trans (X928).hide.symm))]; rfl
  have rw138 : Mem.mk M914.blks M914.next (hides 14336 [⟨9, 1, M873.next, M914.next⟩, ⟨8, 1, M873.next, M873.next⟩, ⟨4, 1, M873.next, M873.next⟩, ⟨0, 1, M873.next, M873.next⟩] ++ M59.hide) M914.log = hidx (hides 14336 [⟨9, 1, M873.next, M914.next⟩, ⟨8, 1, M873.next, M873.next⟩, ⟨4, 1, M873.next, M873.next⟩, ⟨0, 1, M873.next, M873.next⟩]) M914 := by rw [(show M59.hide = M914.hide from ((X68).hide.trans (X928).hide.symm))]; rfl
  have rw139 : Mem.mk M914.blks M914.next (hides 229376 [⟨9, 1, M873.next, M914.next⟩, ⟨8, 1, M873.next, M873.next⟩, ⟨4, 1, M873.next, M873.next⟩, ⟨0, 1, M873.next, M873.next⟩] ++ M59.hide) M914.log = hidx (hides 229376 [⟨9, 1, M873.next, M914.next⟩, ⟨8, 1, M873.next, M873.next⟩, ⟨4, 1, M873.next, M873.next⟩, ⟨0, 1, M873.next, M873.next⟩]) M914 := by rw [(show M59.hide = M914.hide from ((X68).hide.trans (X928).hide.symm))]; rfl
  have rw140 : Mem.mk M933.blks M933.next M59.hide M933.log = M933 := by rw [(show M59.hide = M933.hide from ((X68).hide.trans (X947).hide.symm))]
  have rw141 : (Mem.mk M933.blks M933.next M59.hide (M933.log ++ (M873.log ++ (M813.log ++ (M753.log ++ (M693.log ++ (M633.log ++ (M573.log ++ (M513.log ++ (M453.log ++ (M393.log ++ (M333.log ++ (M273.log ++ (M213.log ++ (M153.log ++ (M98.log ++ M59.log)))))))))))))))) = (Mem.mk M933.blks M933.next M933.hide (M933.log ++ (M873.log ++ (M813.log ++ (M753.log ++ (M693.log ++ (M633.log ++ (M573.log ++ (M513.log ++ (M453.log ++ (M393.log ++ (M333.log ++ (M273.log ++ (M213.log ++ (M153.log ++ (M98.log ++ M59.log)))))))))))))))) := by rw [(show M59.hide = M933.hide from ((X68).hide.trans (X947).hide.symm))]
  have rw142 : (Mem.mk M933.blks M933.next M933.hide (M933.log ++ (M873.log ++ (M813.log ++ (M753.log ++ (M693.log ++ (M633.log ++ (M573.log ++ (M513.log ++ (M453.log ++ (M393.log ++ (M333.log ++ (M273.log ++ (M213.log ++ (M153.log ++ (M98.log ++ M59.log)))))))))))))))) = M951 := ef952.symm
  have rw143 : Mem.mk M933.blks M933.next M59.hide [] = R961 := by rw [eR962]; simp only [ef952, (show M59.hide = M933.hide from ((X68).hide.trans (X947).hide.symm))]
  have rw144 : Mem.mk M933.blks M933.next (hides 14 [⟨0, 1, M933.next, M933.next⟩] ++ M59.hide) [] = R961 := by rw [show hides 14 [⟨0, 1, M933.next, M933.next⟩] = [] from by simp [hides, Nat.beq_refl, show Nat.beq 1 0 = false from rfl]]; exact (show Mem.mk M933.blks M933.next M59.hide [] = R961 by rw [eR962]; simp only [ef952, (show M59.hide = M933.hide from ((X68).hide.trans (X947).hide.symm))])
  have rw145 : Mem.mk M933.blks M933.next (hides 224 [⟨4, 1, M933.next, M933.next⟩, ⟨0, 1, M933.next, M933.next⟩] ++ M59.hide) [] = R961 := by rw [show hides 224 [⟨4, 1, M933.next, M933.next⟩, ⟨0, 1, M933.next, M933.next⟩] = [] from by simp [hides, Nat.beq_refl, show Nat.beq 1 0 = false from rfl]]; exact (show Mem.mk M933.blks M933.next M59.hide [] = R961 by rw [eR962]; simp only [ef952, (show M59.hide = M933.hide from ((X68).hide.trans (X947).hide.symm))])
  have rw146 : Mem.mk M974.blks M974.next M59.hide M974.log = M974 := by rw [(show M59.hide = M974.hide from ((X68).hide.trans (X988).hide.symm))]
  have rw147 : Mem.mk M974.blks M974.next (hides 0 [⟨9, 1, M933.next, M974.next⟩, ⟨8, 1, M933.next, M933.next⟩, ⟨4, 1, M933.next, M933.next⟩, ⟨0, 1, M933.next, M933.next⟩] ++ M59.hide) M974.log = hidx (hides 0 [⟨9, 1, M933.next, M974.next⟩, ⟨8, 1, M933.next, M933.next⟩, ⟨4, 1, M933.next, M933.next⟩, ⟨0, 1, M933.next, M933.next⟩]) M974 := by rw [(show M59.hide = M974.hide from ((X68).hide.trans (X988).hide.symm))]; rfl
  have rw148 : Mem.mk M974.blks M974.next (hides 14336 [⟨9, 1, M933.next, M974.next⟩, ⟨8, 1, M933.next, M933.next⟩, ⟨4, 1, M933.next, M933.next⟩, ⟨0, 1, M933.next, M933.next⟩] ++ M59.hide) M974.log = hidx (hides 14336 [⟨9, 1, M933.next, M974.next⟩, ⟨8, 1, M933.next, M933.next⟩, ⟨4, 1, M933.next, M933.next⟩, ⟨0, 1, M933.next, M933.next⟩]) M974 := by rw [(show M59.hide = M974.hide from ((X68).hide.trans (X988).hide.symm))]; rfl
  have rw149 : Mem.mk M974.blks M974.next (hides 229376 [⟨9, 1, M933.next, M974.next⟩, ⟨8, 1, M933.next, M933.next⟩, ⟨4, 1, M933.next, M933.next⟩, ⟨0, 1, M933.next, M933.next⟩] ++ M59.hide) M974.log = hidx (hides 229376 [⟨9, 1, M933.next, M974.next⟩, ⟨8, 1, M933.next, M933.next⟩, ⟨4, 1, M933.next, M933.next⟩, ⟨0, 1, M933.next, M933.next⟩]) M974 := by rw [(show M59.hide = M974.hide from ((X68).hide.trans (X988).hide.symm))]; rfl
  have rw150 : Mem.mk M993.blks M993.next M59.hide M993.log = M993 := by rw [(show M59.hide = M993.hide from ((X68).hide.trans (X1007).hide.symm))]
  have rw151 : (Mem.mk M993.blks M993.next M59.hide (M993.log ++ (M933.log ++ (M873.log ++ (M813.log ++ (M753.log ++ (M693.log ++ (M633.log ++ (M573.log ++ (M513.log ++ (M453.log ++ (M393.log ++ (M333.log ++ (M273.log ++ (M213.log ++ (M153.log ++ (M98.log ++ M59.log))))))))))))))))) = (Mem.mk M993.blks M993.next M993.hide (M993.log ++ (M933.log ++ (M873.log ++ (M813.log ++ (M753.log ++ (M693.log ++ (M633.log ++ (M573.log ++ (M513.log ++ (M453.log ++ (M393.log ++ (M333.log ++ (M273.log ++ (M213.log ++ (M153.log ++ (M98.log ++ M59.log))))))))))))))))) := by rw [(show M59.hide = M993.hide from ((X68).hide.trans (X1007).hide.symm))]
  have rw152 : (Mem.mk M993.blks M993.next M993.hide (M993.log ++ (M933.log ++ (M873.log ++ (M813.log ++ (M753.log ++ (M693.log ++ (M633.log ++ (M573.log ++ (M513.log ++ (M453.log ++ (M393.log ++ (M333.log ++ (M273.log ++ (M213.log ++ (M153.log ++ (M98.log ++ M59.log))))))))))))))))) = M1011 := ef1012.symm
  have rw153 : Mem.mk M993.blks M993.next M59.hide [] = R1021 := by rw [eR1022]; simp only [ef1012, (show M59.hide = M993.hide from ((X68).hide.trans (X1007).hide.symm))]
  have rw154 : Mem.mk M993.blks M993.next (hides 14 [⟨0, 1, M993.next, M993.next⟩] ++ M59.hide) [] = R1021 := by rw [show hides 14 [⟨0, 1, M993.next, M993.next⟩] = [] from by simp [hides, Nat.beq_refl, show Nat.beq 1 0 = false from rfl]]; exact (show Mem.mk M993.blks M993.next M59.hide [] = R1021 by rw [eR1022]; simp only [ef1012, (show M59.hide = M993.hide from ((X68).hide.trans (X1007).hide.symm))])
  have rw155 : Mem.mk M993.blks M993.next (hides 224 [⟨4, 1, M993.next, M993.next⟩, ⟨0, 1, M993.next, M993.next⟩] ++ M59.hide) [] = R1021 := by rw [show hides 224 [⟨4, 1, M993.next, M993.next⟩, ⟨0, 1, M993.next, M993.next⟩] = [] from by simp [hides, Nat.beq_refl, show Nat.beq 1 0 = false from rfl]]; exact (show Mem.mk M993.blks M993.next M59.hide [] = R1021 by rw [eR1022]; simp only [ef1012, (show M59.hide = M993.hide from ((X68).hide.trans (X1007).hide.symm))])
  have rw156 : Mem.mk M1034.blks M1034.next M59.hide M1034.log = M1034 := by rw [(show M59.hide = M1034.hide from ((X68).hide.trans (X1048).hide.symm))]
  have rw157 : Mem.mk M1034.blks M1034.next (hides 0 [⟨9, 1, M993.next, M1034.next⟩, ⟨8, 1, M993.next, M993.next⟩, ⟨4, 1, M993.next, M993.next⟩, ⟨0, 1, M993.next, M993.next⟩] ++ M59.hide) M1034.log = hidx (hides 0 [⟨9, 1, M993.next, M1034.next⟩, ⟨8, 1, M993.next, M993.next⟩, ⟨4, 1, M993.next, M993.next⟩, ⟨0, 1, M993.next, M993.next⟩]) M1034 := by rw [(show M59.hide = M1034.hide from ((X68).hide.trans (X1048).hide.symm))]; rfl
  have rw158 : Mem.mk M1034.blks M1034.next (hides 14336 [⟨9, 1, M993.next, M1034.next⟩, ⟨8, 1, M993.next, M993.next⟩, ⟨4, 1, M993.next, M993.next⟩, ⟨0, 1, M993.next, M993.next⟩] ++ M59.hide) M1034.log = hidx (hides 14336 [⟨9, 1, M993.next, M1034.next⟩, ⟨8, 1, M993.next, M993.next⟩, ⟨4, 1, M993.next, M993.next⟩, ⟨0, 1, M993.next, M993.next⟩]) M1034 := by rw [(show M59.hide = M1034.hide from ((X68).hide.trans (X1048).hide.symm))]; rfl
  have rw159 : Mem.mk M1034.blks M1034.next (hides 229376 [⟨9, 1, M993.next, M1034.next⟩, ⟨8, 1, M993.next, M993.next⟩, ⟨4, 1, M993.next, M993.next⟩, ⟨0, 1, M993.next, M993.next⟩] ++ M59.hide) M1034.log = hidx (hides 229376 [⟨9, 1, M993.next, M1034.next⟩, ⟨8, 1, M993.next, M993.next⟩, ⟨4, 1, M993.next, M993.next⟩, ⟨0, 1, M993.next, M993.next⟩]) M1034 := by rw [(show M59.hide = M1034.hide from ((X68).hide.trans (X1048).hide.symm))]; rfl
  have rw160 : Mem.mk M1053.blks M1053.next M59.hide M1053.log = M1053 := by rw [(show M59.hide = M1053.hide from ((X68).hide.trans (X1067).hide.symm))]
  have rw161 : (Mem.mk M1053.blks M1053.next M59.hide (M1053.log ++ (M993.log ++ (M933.log ++ (M873.log ++ (M813.log ++ (M753.log ++ (M693.log ++ (M633.log ++ (M573.log ++ (M513.log ++ (M453.log ++ (M393.log ++ (M333.log ++ (M273.log ++ (M213.log ++ (M153.log ++ (M98.log ++ M59.log)))))))))))))))))) = (Mem.mk M1053.blks M1053.next M1053.hide (M1053.log ++ (M993.log ++ (M933.log ++ (M873.log ++ (M813.log ++ (M753.log ++ (M693.log ++ (M633.log ++ (M573.log ++ (M513.log ++ (M453.log ++ (M393.log ++ (M333.log ++ (M273.log ++ (M213.log ++ (M153.log ++ (M98.log ++ M59.log)))))))))))))))))) := by rw [(show M59.hide = M1053.hide from ((X68).hide.trans (X1067).hide.symm))]
  have rw162 : (Mem.mk M1053.blks M1053.next M1053.hide (M1053.log ++ (M993.log ++ (M933.log ++ (M873.log ++ (M813.log ++ (M753.log ++ (M693.log ++ (M633.log ++ (M573.log ++ (M513.log ++ (M453.log ++ (M393.log ++ (M333.log ++ (M273.log ++ (M213.log ++ (M153.log ++ (M98.log ++ M59.log)))))))))))))))))) = M1071 := ef1072.symm
  have rw163 : Mem.mk M1053.blks M1053.next M59.hide [] = R1081 := by rw [eR1082]; simp only [ef1072, (show M59.hide = M1053.hide from ((X68).hide.trans (X1067).hide.symm))]
  have rw164 : Mem.mk M1053.blks M1053.next (hides 14 [⟨0, 1, M1053.next, M1053.next⟩] ++ M59.hide) [] = R1081 := by rw [show hides 14 [⟨0, 1, M1053.next, M1053.next⟩] = [] from by simp [hides, Nat.beq_refl, show Nat.beq 1 0 = false from rfl]]; exact (show Mem.mk M1053.blks M1053.next M59.hide [] = R1081 by rw [eR1082]; simp only [ef1072, (show M59.hide = M1053.hide from ((X68).hide.trans (X1067).hide.symm))])
  have rw165 : Mem.mk M1053.blks M1053.next (hides 224 [⟨4, 1, M1053.next, M1053.next⟩, ⟨0, 1, M1053.next, M1053.next⟩] ++ M59.hide) [] = R1081 := by rw [show hides 224 [⟨4, 1, M1053.next, M1053.next⟩, ⟨0, 1, M1053.next, M1053.next⟩] = [] from by simp [hides, Nat.beq_refl, show Nat.beq 1 0 = false from rfl]]; exact (show Mem.mk M1053.blks M1053.next M59.hide [] = R1081 by rw [eR1082]; simp only [ef1072, (show M59.hide = M1053.hide from ((X68).hide.trans (X1067).hide.symm))])
  have rw166 : Mem.mk M1094.blks M1094.next M59.hide M1094.log = M1094 := by rw [(show M59.hide = M1094.hide from ((X68).hide.trans (X1108).hide.symm))]
  have rw167 : Mem.mk M1094.blks M1094.next (hides 0 [⟨9, 1, M1053.next, M1094.next⟩, ⟨8, 1, M1053.next, M1053.next⟩, ⟨4, 1, M1053.next, M1053.next⟩, ⟨0, 1, M1053.next, M1053.next⟩] ++ M59.hide) M1094.log = hidx (hides 0 [⟨9, 1, M1053.next, M1094.next⟩, ⟨8, 1, M1053.next, M1053.next⟩, ⟨4, 1, M1053.next, M1053.next⟩, ⟨0, 1, M1053.next, M1053.next⟩]) M1094 := by rw [(show M59.hide = M1094.hide from ((X68).hide.trans (X1108).hide.symm))]; rfl
  have rw168 : Mem.mk M1094.blks M1094.next (hides 14336 [⟨9, 1, M1053.next, M1094.next⟩, ⟨8, 1, M1053.next, M1053.next⟩, ⟨4, 1, M1053.next, M1053.next⟩, ⟨0, 1, M1053.next, M1053.next⟩] ++ M59.hide) M1094.log = hidx (hides 14336 [⟨9, 1, M1053.next, M1094.next⟩, ⟨8, 1, M1053.next, M1053.next⟩, ⟨4, 1, M1053.next, M1053.next⟩, ⟨0, 1, M1053.next, M1053.next⟩]) M1094 := by rw [(show M59.hide = M1094.hide from ((X68).hide.trans (X1108).hide.symm))]; rfl
  have rw169 : Mem.mk M1094.blks M1094.next (hides 229376 [⟨9, 1, M1053.next, M1094.next⟩, ⟨8, 1, M1053.next, M1053.next⟩, ⟨4, 1, M1053.next, M1053.next⟩, ⟨0, 1, M1053.next, M1053.next⟩] ++ M59.hide) M1094.log = hidx (hides 229376 [⟨9, 1, M1053.next, M1094.next⟩, ⟨8, 1, M1053.next, M1053.next⟩, ⟨4, 1, M1053.next, M1053.next⟩, ⟨0, 1, M1053.next, M1053.next⟩]) M1094 := by rw [(show M59.hide = M1094.hide from ((X68).hide.trans (X1108).hide.symm))]; rfl
  have rw170 : Mem.mk M1113.blks M1113.next M59.hide M1113.log = M1113 := by rw [(show M59.hide = M1113.hide from ((X68).hide.trans (X1127).hide.symm))]
  have rw171 : (Mem.mk M1113.blks M1113.next M59.hide (M1113.log ++ (M1053.log ++ (M993.log ++ (M933.log ++ (M873.log ++ (M813.log ++ (M753.log ++ (M693.log ++ (M633.log ++ (M573.log ++ (M513.log ++ (M453.log ++ (M393.log ++ (M333.log ++ (M273.log ++ (M213.log ++ (M153.log ++ (M98.log ++ M59.log))))))))))))))))))) = (Mem.mk M1113.blks M1113.next M1113.hide (M1113.log ++ (M1053.log ++ (M993.log ++ (M933.log ++ (M873.log ++ (M813.log ++ (M753.log ++ (M693.log ++ (M633.log ++ (M573.log ++ (M513.log ++ (M453.log ++ (M393.log ++ (M333.log ++ (M273.log ++ (M213.log ++ (M153.log ++ (M98.log ++ M59.log))))))))))))))))))) := by rw [(show M59.hide = M1113.hide from ((X68).hide.trans (X1127).hide.symm))]
  have rw172 : (Mem.mk M1113.blks M1113.next M1113.hide (M1113.log ++ (M1053.log ++ (M993.log ++ (M933.log ++ (M873.log ++ (M813.log ++ (M753.log ++ (M693.log ++ (M633.log ++ (M573.log ++ (M513.log ++ (M453.log ++ (M393.log ++ (M333.log ++ (M273.log ++ (M213.log ++ (M153.log ++ (M98.log ++ M59.log))))))))))))))))))) = M1131 := ef1132.symm
  have rw173 : Mem.mk M1113.blks M1113.next M59.hide [] = R1141 := by rw [eR1142]; simp only [ef1132, (show M59.hide = M1113.hide from ((X68).hide.trans (X1127).hide.symm))]
  have rw174 : Mem.mk M1113.blks M1113.next (hides 14 [⟨0, 1, M1113.next, M1113.next⟩] ++ M59.hide) [] = R1141 := by rw [show hides 14 [⟨0, 1, M1113.next, M1113.next⟩] = [] from by simp [hides, Nat.beq_refl, show Nat.beq 1 0 = false from rfl]]; exact (show Mem.mk M1113.blks M1113.next M59.hide [] = R1141 by rw [eR1142]; simp only [ef1132, (show M59.hide = M1113.hide from ((X68).hide.trans (X1127).hide.symm))])
  have rw175 : Mem.mk M1154.blks M1154.next M59.hide M1154.log = M1154 := by rw [(show M59.hide = M1154.hide from ((X68).hide.trans (X1168).hide.symm))]
  have rw176 : Mem.mk M1154.blks M1154.next (hides 0 [⟨5, 1, M1113.next, M1154.next⟩, ⟨4, 1, M1113.next, M1113.next⟩, ⟨0, 1, M1113.next, M1113.next⟩] ++ M59.hide) M1154.log = hidx (hides 0 [⟨5, 1, M1113.next, M1154.next⟩, ⟨4, 1, M1113.next, M1113.next⟩, ⟨0, 1, M1113.next, M1113.next⟩]) M1154 := by rw [(show M59.hide = M1154.hide from ((X68).hide.trans (X1168).hide.symm))]; rfl
  have rw177 : Mem.mk M1154.blks M1154.next (hides 896 [⟨5, 1, M1113.next, M1154.next⟩, ⟨4, 1, M1113.next, M1113.next⟩, ⟨0, 1, M1113.next, M1113.next⟩] ++ M59.hide) M1154.log = hidx (hides 896 [⟨5, 1, M1113.next, M1154.next⟩, ⟨4, 1, M1113.next, M1113.next⟩, ⟨0, 1, M1113.next, M1113.next⟩]) M1154 := by rw [(show M59.hide = M1154.hide from ((X68).hide.trans (X1168).hide.symm))]; rfl
  have rw178 : Mem.mk M1173.blks M1173.next M59.hide M1173.log = M1173 := by rw [(show M59.hide = M1173.hide from ((X68).hide.trans (X1187).hide.symm))]
  have rw179 : (Mem.mk M1173.blks M1173.next M59.hide (M1173.log ++ (M1113.log ++ (M1053.log ++ (M993.log ++ (M933.log ++ (M873.log ++ (M813.log ++ (M753.log ++ (M693.log ++ (M633.log ++ (M573.log ++ (M513.log ++ (M453.log ++ (M393.log ++ (M333.log ++ (M273.log ++ (M213.log ++ (M153.log ++ (M98.log ++ M59.log)))))))))))))))))))) = (Mem.mk M1173.blks M1173.next M1173.hide (M1173.log ++ (M1113.log ++ (M1053.log ++ (M993.log ++ (M933.log ++ (M873.log ++ (M813.log ++ (M753.log ++ (M693.log ++ (M633.log ++ (M573.log ++ (M513.log ++ (M453.log ++ (M393.log ++ (M333.log ++ (M273.log ++ (M213.log ++ (M153.log ++ (M98.log ++ M59.log)))))))))))))))))))) := by rw [(show M59.hide = M1173.hide from ((X68).hide.trans (X1187).hide.symm))]
  have rw180 : (Mem.mk M1173.blks M1173.next M1173.hide (M1173.log ++ (M1113.log ++ (M1053.log ++ (M993.log ++ (M933.log ++ (M873.log ++ (M813.log ++ (M753.log ++ (M693.log ++ (M633.log ++ (M573.log ++ (M513.log ++ (M453.log ++ (M393.log ++ (M333.log ++ (M273.log ++ (M213.log ++ (M153.log ++ (M98.log ++ M59.log)))))))))))))))))))) = M1191 := ef1192.symm
  try rw [rw0] at hraw
  try rw [rw1] at hraw
  try rw [rw2] at hraw
  try rw [rw3] at hraw
  try rw [rw4] at hraw
  try rw [rw5] at hraw
  try rw [rw6] at hraw
  try rw [rw7] at hraw
  try rw [rw8] at hraw
  try rw [rw9] at hraw
  try rw [rw10] at hraw
  try rw [rw11] at hraw
  try rw [rw12] at hraw
  try rw [rw13] at hraw
  try rw [rw14] at hraw
  try rw [rw15] at hraw
  try rw [rw16] at hraw
  try rw [rw17] at hraw
  try rw [rw18] at hraw
  try rw [rw19] at hraw
  try rw [rw20] at hraw
  try rw [rw21] at hraw
  try rw [rw22] at hraw
  try rw [rw23] at hraw
  try rw [rw24] at hraw
  try rw [rw25] at hraw
  try rw [rw26] at hraw
  try rw [rw27] at hraw
  try rw [rw28] at hraw
  try rw [rw29] at hraw
  try rw [rw30] at hraw
  try rw [rw31] at hraw
  try rw [rw32] at hraw
  try rw [rw33] at hraw
  try rw [rw34] at hraw
  try rw [rw35] at hraw
  try rw [rw36] at hraw
  try rw [rw37] at hraw
  try rw [rw38] at hraw
  try rw [rw39] at hraw
  try rw [rw40] at hraw
  try rw [rw41] at hraw
  try rw [rw42] at hraw
  try rw [rw43] at hraw
  try rw [rw44] at hraw
  try rw [rw45] at hraw
  try rw [rw46] at hraw
  try rw [rw47] at hraw
  try rw [rw48] at hraw
  try rw [rw49] at hraw
  try rw [rw50] at hraw
  try rw [rw51] at hraw
  try rw [rw52] at hraw
  try rw [rw53] at hraw
  try rw [rw54] at hraw
  try rw [rw55] at hraw
  try rw [rw56] at hraw
  try rw [rw57] at hraw
  try rw [rw58] at hraw
  try rw [rw59] at hraw
  try rw [rw60] at hraw
  try rw [rw61] at hraw
  try rw [rw62] at hraw
  try rw [rw63] at hraw
  try rw [rw64] at hraw
  try rw [rw65] at hraw
  try rw [rw66] at hraw
  try rw [rw67] at hraw
  try rw [rw68] at hraw
  try rw [rw69] at hraw
  try rw [rw70] at hraw
  try rw [rw71] at hraw
  try rw [rw72] at hraw
  try rw [rw73] at hraw
  try rw [rw74] at hraw
  try rw [rw75] at hraw
  try rw [rw76] at hraw
  try rw [rw77] at hraw
  try rw [rw78] at hraw
  try rw [rw79] at hraw
  try rw [rw80] at hraw
  try rw [rw81] at hraw
  try rw [rw82] at hraw
  try rw [rw83] at hraw
  try rw [rw84] at hraw
  try rw [rw85] at hraw
  try rw [rw86] at hraw
  try rw [rw87] at hraw
  try rw [rw88] at hraw
  try rw [rw89] at hraw
  try rw [rw90] at hraw
  try rw [rw91] at hraw
  try rw [rw92] at hraw
  try rw [rw93] at hraw
  try rw [rw94] at hraw
  try rw [rw95] at hraw
  try rw [rw96] at hraw
  try rw [rw97] at hraw
  try rw [rw98] at hraw
  try rw [rw99] at hraw
  try rw [rw100] at hraw
  try rw [rw101] at hraw
  try rw [rw102] at hraw
  try rw [rw103] at hraw
  try rw [rw104] at hraw
  try rw [rw105] at hraw
  try rw [rw106] at hraw
  try rw [rw107] at hraw
  try rw [rw108] at hraw
  try rw [rw109] at hraw
  try rw [rw110] at hraw
  try rw [rw111] at hraw
  try rw [rw112] at hraw
  try rw [rw113] at hraw
  try rw [rw114] at hraw
  try rw [rw115] at hraw
  try rw [rw116] at hraw
  try rw [rw117] at hraw
  try rw [rw118] at hraw
  try rw [rw119] at hraw
  try rw [rw120] at hraw
  try rw [rw121] at hraw
  try rw [rw122] at hraw
  try rw [rw123] at hraw
  try rw [rw124] at hraw
  try rw [rw125] at hraw
  try rw [rw126] at hraw
  try rw [rw127] at hraw
  try rw [rw128] at hraw
  try rw [rw129] at hraw
  try rw [rw130] at hraw
  try rw [rw131] at hraw
  try rw [rw132] at hraw
  try rw [rw133] at hraw
  try rw [rw134] at hraw
  try rw [rw135] at hraw
  try rw [rw136] at hraw
  try rw [rw137] at hraw
  try rw [rw138] at hraw
  try rw [rw139] at hraw
  try rw [rw140] at hraw
  try rw [rw141] at hraw
  try rw [rw142] at hraw
  try rw [rw143] at hraw
  try rw [rw144] at hraw
  try rw [rw145] at hraw
  try rw [rw146] at hraw
  try rw [rw147] at hraw
  try rw [rw148] at hraw
  try rw [rw149] at hraw
  try rw [rw150] at hraw
  try rw [rw151] at hraw
  try rw [rw152] at hraw
  try rw [rw153] at hraw
  try rw [rw154] at hraw
  try rw [rw155] at hraw
  try rw [rw156] at hraw
  try rw [rw157] at hraw
  try rw [rw158] at hraw
  try rw [rw159] at hraw
  try rw [rw160] at hraw
  try rw [rw161] at hraw
  try rw [rw162] at hraw
  try rw [rw163] at hraw
  try rw [rw164] at hraw
  try rw [rw165] at hraw
  try rw [rw166] at hraw
  try rw [rw167] at hraw
  try rw [rw168] at hraw
  try rw [rw169] at hraw
  try rw [rw170] at hraw
  try rw [rw171] at hraw
  try rw [rw172] at hraw
  try rw [rw173] at hraw
  try rw [rw174] at hraw
  try rw [rw175] at hraw
  try rw [rw176] at hraw
  try rw [rw177] at hraw
  try rw [rw178] at hraw
  try rw [rw179] at hraw
  try rw [rw180] at hraw
  have hE := Ev.told_tmp noNumP mixedP Tryd.func4 q4_ok (by kernel_rfl) rK4 (fun B => specsB_ok (k := []) (hS4_12_14_17_18_19_20_21_22 B) (fun p hp => by cases hp)) (fun _ _ => rfl) hraw (hk (q_call rfl p4 l5 e6) (hk (lN hrw.ln) (hk (bF cc0) (hk (q_call rfl p16 l17 e18) (hk (q_eq (by rw [← eb26, ← em27]; kernel_rfl) Nat.one_ne_zero) (hk (q_st q35) (hk (q_call rfl p47 l48 e49) (hk (q_eq (by rw [← eb60, ← em61]; kernel_rfl) Nat.one_ne_zero) (hk (lC dC22 g77 rfl) (hk (q_call rfl p83 l84 e85) (hk (lC dC22 (hidx_get.2 ⟨hides_low (by simp; omega), g92⟩) rfl) (hk (q_lt ltb24M59) (hk (q_eq (by rw [← eb99, ← em100]; kernel_rfl) Nat.one_ne_zero) (hk (q_apart (by rw [lg108]; simp <;> omega)) (hk (lA ⟨dA25, dS25⟩ g128 rfl) (hk (lC dC3 g130 rfl) (hk (lC dC26 g129 rfl) (hk (q_call rfl p135 l136 e137) (hk (lA ⟨dA25, dS25⟩ (hidx_get.2 ⟨hides_low (by simp; omega), g144⟩) rfl) (hk (q_lt ltb24M111) (hk (lC dC3 (hidx_get.2 ⟨hides_low (by simp; omega), g146⟩) rfl) (hk (q_lt ltb97M111) (hk (lC dC26 (hidx_get.2 ⟨hides_low (by simp; omega), g145⟩) rfl) (hk (q_lt ltb58M111) (hk (q_call rfl p154 l155 e156) (hk (q_apart (by rw [lg166]; simp <;> omega)) (hk (bF (by simp)) (hk (lA ⟨dA25, dS25⟩ g188 rfl) (hk (lC dC3 g190 rfl) (hk (lC dC26 g189 rfl) (hk (q_call rfl p195 l196 e197) (hk (lA ⟨dA25, dS25⟩ (hidx_get.2 ⟨hides_low (by simp; omega), g204⟩) rfl) (hk (q_lt ltb24M171) (hk (lC dC3 (hidx_get.2 ⟨hides_low (by simp; omega), g206⟩) rfl) (hk (q_lt ltb97M171) (hk (lC dC26 (hidx_get.2 ⟨hides_low (by simp; omega), g205⟩) rfl) (hk (q_lt ltb58M171) (hk (q_call rfl p214 l215 e216) (hk (q_apart (by rw [lg226]; simp <;> omega)) (hk (bF (by simp)) (hk (lA ⟨dA25, dS25⟩ g248 rfl) (hk (lC dC3 g250 rfl) (hk (lC dC26 g249 rfl) (hk (q_call rfl p255 l256 e257) (hk (lA ⟨dA25, dS25⟩ (hidx_get.2 ⟨hides_low (by simp; omega), g264⟩) rfl) (hk (q_lt ltb24M231) (hk (lC dC3 (hidx_get.2 ⟨hides_low (by simp; omega), g266⟩) rfl) (hk (q_lt ltb97M231) (hk (lC dC26 (hidx_get.2 ⟨hides_low (by simp; omega), g265⟩) rfl) (hk (q_lt ltb58M231) (hk (q_call rfl p274 l275 e276) (hk (q_apart (by rw [lg286]; simp <;> omega)) (hk (bF (by simp)) (hk (lA ⟨dA25, dS25⟩ g308 rfl) (hk (lC dC3 g310 rfl) (hk (lC dC26 g309 rfl) (hk (q_call rfl p315 l316 e317) (hk (lA ⟨dA25, dS25⟩ (hidx_get.2 ⟨hides_low (by simp; omega), g324⟩) rfl) (hk (q_lt ltb24M291) (hk (lC dC3 (hidx_get.2 ⟨hides_low (by simp; omega), g326⟩) rfl) (hk (q_lt ltb97M291) (hk (lC dC26 (hidx_get.2 ⟨hides_low (by simp; omega), g325⟩) rfl) (hk (q_lt ltb58M291) (hk (q_call rfl p334 l335 e336) (hk (q_apart (by rw [lg346]; simp <;> omega)) (hk (bF (by simp)) (hk (lA ⟨dA25, dS25⟩ g368 rfl) (hk (lC dC3 g370 rfl) (hk (lC dC26 g369 rfl) (hk (q_call rfl p375 l376 e377) (hk (lA ⟨dA25, dS25⟩ (hidx_get.2 ⟨hides_low (by simp; omega), g384⟩) rfl) (hk (q_lt ltb24M351) (hk (lC dC3 (hidx_get.2 ⟨hides_low (by simp; omega), g386⟩) rfl) (hk (q_lt ltb97M351) (hk (lC dC26 (hidx_get.2 ⟨hides_low (by simp; omega), g385⟩) rfl) (hk (q_lt ltb58M351) (hk (q_call rfl p394 l395 e396) (hk (q_apart (by rw [lg406]; simp <;> omega)) (hk (bF (by simp)) (hk (lA ⟨dA25, dS25⟩ g428 rfl) (hk (lC dC26 g429 rfl) (hk (q_call rfl p435 l436 e437) (hk (lA ⟨dA25, dS25⟩ (hidx_get.2 ⟨hides_low (by simp; omega), g444⟩) rfl) (hk (q_lt ltb24M411) (hk (lC dC26 (hidx_get.2 ⟨hides_low (by simp; omega), g445⟩) rfl) (hk (q_lt ltb58M411) (hk (q_call rfl p454 l455 e456) (hk (q_apart (by rw [lg466]; simp <;> omega)) (hk (bF (by simp)) (hk (lA ⟨dA25, dS25⟩ g488 rfl) (hk (lC dC3 g490 rfl) (hk (lC dC26 g489 rfl) (hk (q_call rfl p495 l496 e497) (hk (lA ⟨dA25, dS25⟩ (hidx_get.2 ⟨hides_low (by simp; omega), g504⟩) rfl) (hk (q_lt ltb24M471) (hk (lC dC3 (hidx_get.2 ⟨hides_low (by simp; omega), g506⟩) rfl) (hk (q_lt ltb97M471) (hk (lC dC26 (hidx_get.2 ⟨hides_low (by simp; omega), g505⟩) rfl) (hk (q_lt ltb58M471) (hk (q_call rfl p514 l515 e516) (hk (q_apart (by rw [lg526]; simp <;> omega)) (hk (bF (by simp)) (hk (lA ⟨dA25, dS25⟩ g548 rfl) (hk (lC dC3 g550 rfl) (hk (lC dC26 g549 rfl) (hk (q_call rfl p555 l556 e557) (hk (lA ⟨dA25, dS25⟩ (hidx_get.2 ⟨hides_low (by simp; omega), g564⟩) rfl) (hk (q_lt ltb24M531) (hk (lC dC3 (hidx_get.2 ⟨hides_low (by simp; omega), g566⟩) rfl) (hk (q_lt ltb97M531) (hk (lC dC26 (hidx_get.2 ⟨hides_low (by simp; omega), g565⟩) rfl) (hk (q_lt ltb58M531) (hk (q_call rfl p574 l575 e576) (hk (q_apart (by rw [lg586]; simp <;> omega)) (hk (bF (by simp)) (hk (lA ⟨dA25, dS25⟩ g608 rfl) (hk (lC dC3 g610 rfl) (hk (lC dC26 g609 rfl) (hk (q_call rfl p615 l616 e617) (hk (lA ⟨dA25, dS25⟩ (hidx_get.2 ⟨hides_low (by simp; omega), g624⟩) rfl) (hk (q_lt ltb24M591) (hk (lC dC3 (hidx_get.2 ⟨hides_low (by simp; omega), g626⟩) rfl) (hk (q_lt ltb97M591) (hk (lC dC26 (hidx_get.2 ⟨hides_low (by simp; omega), g625⟩) rfl) (hk (q_lt ltb58M591) (hk (q_call rfl p634 l635 e636) (hk (q_apart (by rw [lg646]; simp <;> omega)) (hk (bF (by simp)) (hk (lA ⟨dA25, dS25⟩ g668 rfl) (hk (lC dC3 g670 rfl) (hk (lC dC26 g669 rfl) (hk (q_call rfl p675 l676 e677) (hk (lA ⟨dA25, dS25⟩ (hidx_get.2 ⟨hides_low (by simp; omega), g684⟩) rfl) (hk (q_lt ltb24M651) (hk (lC dC3 (hidx_get.2 ⟨hides_low (by simp; omega), g686⟩) rfl) (hk (q_lt ltb97M651) (hk (lC dC26 (hidx_get.2 ⟨hides_low (by simp; omega), g685⟩) rfl) (hk (q_lt ltb58M651) (hk (q_call rfl p694 l695 e696) (hk (q_apart (by rw [lg706]; simp <;> omega)) (hk (bF (by simp)) (hk (lA ⟨dA25, dS25⟩ g728 rfl) (hk (lC dC3 g730 rfl) (hk (lC dC26 g729 rfl) (hk (q_call rfl p735 l736 e737) (hk (lA ⟨dA25, dS25⟩ (hidx_get.2 ⟨hides_low (by simp; omega), g744⟩) rfl) (hk (q_lt ltb24M711) (hk (lC dC3 (hidx_get.2 ⟨hides_low (by simp; omega), g746⟩) rfl) (hk (q_lt ltb97M711) (hk (lC dC26 (hidx_get.2 ⟨hides_low (by simp; omega), g745⟩) rfl) (hk (q_lt ltb58M711) (hk (q_call rfl p754 l755 e756) (hk (q_apart (by rw [lg766]; simp <;> omega)) (hk (bF (by simp)) (hk (lA ⟨dA25, dS25⟩ g788 rfl) (hk (lC dC26 g789 rfl) (hk (q_call rfl p795 l796 e797) (hk (lA ⟨dA25, dS25⟩ (hidx_get.2 ⟨hides_low (by simp; omega), g804⟩) rfl) (hk (q_lt ltb24M771) (hk (lC dC26 (hidx_get.2 ⟨hides_low (by simp; omega), g805⟩) rfl) (hk (q_lt ltb58M771) (hk (q_call rfl p814 l815 e816) (hk (q_apart (by rw [lg826]; simp <;> omega)) (hk (bF (by simp)) (hk (lA ⟨dA25, dS25⟩ g848 rfl) (hk (lC dC3 g850 rfl) (hk (lC dC26 g849 rfl) (hk (q_call rfl p855 l856 e857) (hk (lA ⟨dA25, dS25⟩ (hidx_get.2 ⟨hides_low (by simp; omega), g864⟩) rfl) (hk (q_lt ltb24M831) (hk (lC dC3 (hidx_get.2 ⟨hides_low (by simp; omega), g866⟩) rfl) (hk (q_lt ltb97M831) (hk (lC dC26 (hidx_get.2 ⟨hides_low (by simp; omega), g865⟩) rfl) (hk (q_lt ltb58M831) (hk (q_call rfl p874 l875 e876) (hk (q_apart (by rw [lg886]; simp <;> omega)) (hk (bF (by simp)) (hk (lA ⟨dA25, dS25⟩ g908 rfl) (hk (lC dC3 g910 rfl) (hk (lC dC26 g909 rfl) (hk (q_call rfl p915 l916 e917) (hk (lA ⟨dA25, dS25⟩ (hidx_get.2 ⟨hides_low (by simp; omega), g924⟩) rfl) (hk (q_lt ltb24M891) (hk (lC dC3 (hidx_get.2 ⟨hides_low (by simp; omega), g926⟩) rfl) (hk (q_lt ltb97M891) (hk (lC dC26 (hidx_get.2 ⟨hides_low (by simp; omega), g925⟩) rfl) (hk (q_lt ltb58M891) (hk (q_call rfl p934 l935 e936) (hk (q_apart (by rw [lg946]; simp <;> omega)) (hk (bF (by simp)) (hk (lA ⟨dA25, dS25⟩ g968 rfl) (hk (lC dC3 g970 rfl) (hk (lC dC26 g969 rfl) (hk (q_call rfl p975 l976 e977) (hk (lA ⟨dA25, dS25⟩ (hidx_get.2 ⟨hides_low (by simp; omega), g984⟩) rfl) (hk (q_lt ltb24M951) (hk (lC dC3 (hidx_get.2 ⟨hides_low (by simp; omega), g986⟩) rfl) (hk (q_lt ltb97M951) (hk (lC dC26 (hidx_get.2 ⟨hides_low (by simp; omega), g985⟩) rfl) (hk (q_lt ltb58M951) (hk (q_call rfl p994 l995 e996) (hk (q_apart (by rw [lg1006]; simp <;> omega)) (hk (bF (by simp)) (hk (lA ⟨dA25, dS25⟩ g1028 rfl) (hk (lC dC3 g1030 rfl) (hk (lC dC26 g1029 rfl) (hk (q_call rfl p1035 l1036 e1037) (hk (lA ⟨dA25, dS25⟩ (hidx_get.2 ⟨hides_low (by simp; omega), g1044⟩) rfl) (hk (q_lt ltb24M1011) (hk (lC dC3 (hidx_get.2 ⟨hides_low (by simp; omega), g1046⟩) rfl) (hk (q_lt ltb97M1011) (hk (lC dC26 (hidx_get.2 ⟨hides_low (by simp; omega), g1045⟩) rfl) (hk (q_lt ltb58M1011) (hk (q_call rfl p1054 l1055 e1056) (hk (q_apart (by rw [lg1066]; simp <;> omega)) (hk (bF (by simp)) (hk (lA ⟨dA25, dS25⟩ g1088 rfl) (hk (lC dC3 g1090 rfl) (hk (lC dC26 g1089 rfl) (hk (q_call rfl p1095 l1096 e1097) (hk (lA ⟨dA25, dS25⟩ (hidx_get.2 ⟨hides_low (by simp; omega), g1104⟩) rfl) (hk (q_lt ltb24M1071) (hk (lC dC3 (hidx_get.2 ⟨hides_low (by simp; omega), g1106⟩) rfl) (hk (q_lt ltb97M1071) (hk (lC dC26 (hidx_get.2 ⟨hides_low (by simp; omega), g1105⟩) rfl) (hk (q_lt ltb58M1071) (hk (q_call rfl p1114 l1115 e1116) (hk (q_apart (by rw [lg1126]; simp <;> omega)) (hk (bF (by simp)) (hk (lA ⟨dA25, dS25⟩ g1148 rfl) (hk (lC dC26 g1149 rfl) (hk (q_call rfl p1155 l1156 e1157) (hk (lA ⟨dA25, dS25⟩ (hidx_get.2 ⟨hides_low (by simp; omega), g1164⟩) rfl) (hk (q_lt ltb24M1131) (hk (lC dC26 (hidx_get.2 ⟨hides_low (by simp; omega), g1165⟩) rfl) (hk (q_lt ltb58M1131) (hk (q_call rfl p1174 l1175 e1176) (hk (q_apart (by rw [lg1186]; simp <;> omega)) (hk (bF (by simp)) hn)))))))))))))))))))))))))))))))))))))))))))))))))))))))))))))))))))))))))))))))))))))))))))))))))))))))))))))))))))))))))))))))))))))))))))))))))))))))))))))))))))))))))))))))))))))))))))))))))))))))))))))))))))))))))))))))))))))))))))))))
  exact ⟨_, hE⟩
end Go.Proofs.YtepgijgmnijdpaaDoor
