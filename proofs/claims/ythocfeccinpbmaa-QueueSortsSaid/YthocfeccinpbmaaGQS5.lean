/-
  QueueSorts: whatever the two rows, the call returns true, and its arguments read as they did.
-/
import Derived.Test.YthocfeccinpbmaaGQS4
open Go Go.Am Go.Proofs
namespace Go.Proofs.Ythocfeccinpbmaa
set_option maxRecDepth 100000

def A4v (n0 : Nat) (av : Value) (ob : List (Nat × ABlk)) (n : Nat) (nv : Int) (el : Nat) (kc : List Value) (i : Int) (Pl K : List Int) (line : ABlk) (eb : List (Nat × ABlk)) (nx : Nat) : St :=
  ⟨tabT [(0, sl 0 n0), (1, av), (5, i64 nv), (6, pt 4 0), (7, .slice (some ⟨5, 0, none⟩) n (n + 1)), (8, i64 i)], 174, ⟨blkTree (bl4 ob n el kc Pl K line eb), nx, [], [3, 4, 5] ++ []⟩⟩
def Ds4w1 (id : Nat) : Door := match id with | 0 => DA1 | 2 => DB | _ => DCD1
def Ds4w2 (id : Nat) : Door := match id with | 0 => DA1 | _ => DCC1
def Ds4w3 (id : Nat) : Door := match id with | 0 => DA0 | _ => DCC0
noncomputable def run4w1 (SP : Specs) (n0 : Nat) (m0 : Nat) (el : Nat) (ed : Nat) (kc : List Value) (kd : List Value) (F : List Fact) :=
  (xexec Try.prog [] (SP) 600 Body4 ⟨initT [sl 0 n0, sl 1 m0] 0 .nil, Try.f4.ntmps, startMem [(0, ro kc el 1), (1, ro kd ed 1)] 2⟩ F 0).map (fun r => (r.1.1, (), aresults Try.prog Try.f4 r.1.2, r.2.2.2.map (view (Ds4w1) [4, 2, 48, 3])))
theorem m4w1 (n0 : Nat) (m0 : Nat) (n : Nat) (el : Nat) (ed : Nat) (kc : List Value) (kd : List Value) (Pl : List Int) (K : List Int) (k : Nat) (E : List En) (Pl2 : List Int) (K2 : List Int) (k2 : Nat) (E2 : List En) (g g2 g4 : Code → St → Option (AExit × St)) : run4w1 (SP4Q [(0, g), (2, g2), (4, g4)]) n0 m0 el ed kc kd [fls 27, fls 29, fls 32, fls 33, madeB 41 (.slice (some ⟨3, 0, none⟩) n (n + 1)) ⟨ints (List.replicate n 0), 3, 1, 0, true⟩, madeB 60 (.slice (some ⟨5, 0, none⟩) n (n + 1)) ⟨ints (List.replicate n 0), 3, 1, 0, true⟩, past 65 .normal (FA4 (sl 1 m0) [(1, ro kd ed 1)] n el kc (Pl) (K) (lineB 2 6 3 k n) [(6, own (ents (E)) 43 2)] 24), past 68 .normal (FB4 [(1, ro kd ed 1)] n el kc (Pl2) (K2) (lineB 2 24 3 k2 n) [(24, own (ents (E2)) 43 2)] 48), past 75 .normal (FC4 [(1, ro kd ed 1)] n el kc (List.replicate n 0) (K2) (lineB 2 48 3 0 n) [(48, own (ents []) 43 2)] 72 ([3, 4, 5, 6, 24] ++ [3, 4, 5, 6, 3, 4, 5])), mcl 79 (.tuple ⟨[(i64 0), (i64 0), (.bool false)]⟩) [(4, some ⟨[(.iface 45 (.slice (some ⟨2, 0, none⟩) 2 3)), (.slice (some ⟨72, 0, none⟩) 0 0), (.slice (some ⟨3, 0, none⟩) n (n + 1))], 52, 3, 0, true⟩), (48, none), (3, some ⟨ints (List.replicate n 0), 3, 1, 0, true⟩)] [⟨ents [], 43, 2, 0, true⟩]] = some (.ret, (), some (.bool true), [.b (decide (((minN ((((n0 : Nat) : Int))) (60))) < (0 : Int))) (.val (.bool false)), .b (decide (((minN ((((n0 : Nat) : Int))) (60))) < (0 : Int))) (.val (.bool false)), .b (decide (((minN ((((n0 : Nat) : Int))) (60))) < (0 : Int))) (.val (.bool false)), .b (decide (((minN ((((n0 : Nat) : Int))) (60))) > (1000000 : Int))) (.val (.bool false)), .mk 22 (i64 ((minN ((((n0 : Nat) : Int))) (60)))) (i64 ((minN ((((n0 : Nat) : Int))) (60)))) 3 (.val (.slice (some ⟨3, 0, none⟩) n (n + 1))) ⟨ints (List.replicate n 0), 3, 1, 0, true⟩, .mk 22 (i64 ((minN ((((n0 : Nat) : Int))) (60)))) (i64 ((minN ((((n0 : Nat) : Int))) (60)))) 5 (.val (.slice (some ⟨5, 0, none⟩) n (n + 1))) ⟨ints (List.replicate n 0), 3, 1, 0, true⟩, .bk 0 (.loop loop4a) 6 [] (some (A4v n0 (sl 1 m0) [(1, ro kd ed 1)] n ((minN ((((n0 : Nat) : Int))) (60))) el kc 0 (List.replicate n 0) (List.replicate n 0) (lineN 2 3 n) [] 6)) [kc, kd, fns, ints (List.replicate n 0), (lineN 2 3 n).cs, ints (List.replicate n 0)] true .normal (FA4 (sl 1 m0) [(1, ro kd ed 1)] n el kc (Pl) (K) (lineB 2 6 3 k n) [(6, own (ents (E)) 43 2)] 24), .bk 2 (.loop loop4b) 24 [3, 4, 5] (some (B4s (sl 1 m0) [(1, ro kd ed 1)] n el kc 0 (Pl) (K) (lineB 2 6 3 k n) [(6, own (ents (E)) 43 2)] 24)) [kc, kd, fns, ints (Pl), (lineB 2 6 3 k n).cs, ints (K), ents (E)] true .normal (FB4 [(1, ro kd ed 1)] n el kc (Pl2) (K2) (lineB 2 24 3 k2 n) [(24, own (ents (E2)) 43 2)] 48), .bk 4 (.loop loop4c) 48 [3, 4, 5, 6, 3, 4, 5] (some (C4 [(1, ro kd ed 1)] n el kc 0 0 0 (Pl2) (K2) (lineB 2 24 3 k2 n) [(24, own (ents (E2)) 43 2)] 48 ([3, 4, 5, 6, 24] ++ [3, 4, 5, 6, 3, 4, 5]))) [kc, kd, fns, ints (Pl2), (lineB 2 24 3 k2 n).cs, ints (K2), ents (E2)] true .normal (FC4 [(1, ro kd ed 1)] n el kc (List.replicate n 0) (K2) (lineB 2 48 3 0 n) [(48, own (ents []) 43 2)] 72 ([3, 4, 5, 6, 24] ++ [3, 4, 5, 6, 3, 4, 5])), .mc 16 [(pt 4 0)] [some ⟨[(.iface 45 (.slice (some ⟨2, 0, none⟩) 2 3)), (.slice (some ⟨48, 0, none⟩) 0 0), (.slice (some ⟨3, 0, none⟩) n (n + 1))], 52, 3, 0, true⟩, some ⟨[(.func (.func 24) ⟨[]⟩ ⟨[]⟩), (.func (.func 25) ⟨[]⟩ ⟨[]⟩)], 41, 1, 0, true⟩, some ⟨ents [], 43, 2, 0, true⟩, some ⟨ints (List.replicate n 0), 3, 1, 0, true⟩] 72 (.tuple ⟨[(i64 0), (i64 0), (.bool false)]⟩) [(4, some ⟨[(.iface 45 (.slice (some ⟨2, 0, none⟩) 2 3)), (.slice (some ⟨72, 0, none⟩) 0 0), (.slice (some ⟨3, 0, none⟩) n (n + 1))], 52, 3, 0, true⟩), (48, none), (3, some ⟨ints (List.replicate n 0), 3, 1, 0, true⟩)] [⟨ents [], 43, 2, 0, true⟩]]) := by kernel_rfl
noncomputable def run4w2 (SP : Specs) (n0 : Nat) (el : Nat) (ed : Nat) (kc : List Value) (kd : List Value) (F : List Fact) :=
  (xexec Try.prog [] (SP) 600 Body4 ⟨initT [sl 0 n0, sl 1 0] 0 .nil, Try.f4.ntmps, startMem [(0, ro kc el 1), (1, ro kd ed 1)] 2⟩ F 0).map (fun r => (r.1.1, (), aresults Try.prog Try.f4 r.1.2, r.2.2.2.map (view (Ds4w2) [4, 2, 24, 3])))
theorem m4w2 (n0 : Nat) (n : Nat) (el : Nat) (ed : Nat) (kc : List Value) (kd : List Value) (Pl : List Int) (K : List Int) (k : Nat) (E : List En) (g g4 : Code → St → Option (AExit × St)) : run4w2 (SP4Q [(0, g), (4, g4)]) n0 el ed kc kd [fls 27, fls 29, fls 32, fls 33, madeB 41 (.slice (some ⟨3, 0, none⟩) n (n + 1)) ⟨ints (List.replicate n 0), 3, 1, 0, true⟩, madeB 60 (.slice (some ⟨5, 0, none⟩) n (n + 1)) ⟨ints (List.replicate n 0), 3, 1, 0, true⟩, past 65 .normal (FA4 (sl 1 0) [(1, ro kd ed 1)] n el kc (Pl) (K) (lineB 2 6 3 k n) [(6, own (ents (E)) 43 2)] 24), past 99 .normal (FC4 [(1, ro kd ed 1)] n el kc (List.replicate n 0) (K) (lineB 2 24 3 0 n) [(24, own (ents []) 43 2)] 48 ([3, 4, 5, 6] ++ [3, 4, 5])), mcl 103 (.tuple ⟨[(i64 0), (i64 0), (.bool false)]⟩) [(4, some ⟨[(.iface 45 (.slice (some ⟨2, 0, none⟩) 2 3)), (.slice (some ⟨48, 0, none⟩) 0 0), (.slice (some ⟨3, 0, none⟩) n (n + 1))], 52, 3, 0, true⟩), (24, none), (3, some ⟨ints (List.replicate n 0), 3, 1, 0, true⟩)] [⟨ents [], 43, 2, 0, true⟩]] = some (.ret, (), some (.bool true), [.b (decide (((minN ((((n0 : Nat) : Int))) (60))) < (0 : Int))) (.val (.bool false)), .b (decide (((minN ((((n0 : Nat) : Int))) (60))) < (0 : Int))) (.val (.bool false)), .b (decide (((minN ((((n0 : Nat) : Int))) (60))) < (0 : Int))) (.val (.bool false)), .b (decide (((minN ((((n0 : Nat) : Int))) (60))) > (1000000 : Int))) (.val (.bool false)), .mk 22 (i64 ((minN ((((n0 : Nat) : Int))) (60)))) (i64 ((minN ((((n0 : Nat) : Int))) (60)))) 3 (.val (.slice (some ⟨3, 0, none⟩) n (n + 1))) ⟨ints (List.replicate n 0), 3, 1, 0, true⟩, .mk 22 (i64 ((minN ((((n0 : Nat) : Int))) (60)))) (i64 ((minN ((((n0 : Nat) : Int))) (60)))) 5 (.val (.slice (some ⟨5, 0, none⟩) n (n + 1))) ⟨ints (List.replicate n 0), 3, 1, 0, true⟩, .bk 0 (.loop loop4a) 6 [] (some (A4v n0 (sl 1 0) [(1, ro kd ed 1)] n ((minN ((((n0 : Nat) : Int))) (60))) el kc 0 (List.replicate n 0) (List.replicate n 0) (lineN 2 3 n) [] 6)) [kc, kd, fns, ints (List.replicate n 0), (lineN 2 3 n).cs, ints (List.replicate n 0)] true .normal (FA4 (sl 1 0) [(1, ro kd ed 1)] n el kc (Pl) (K) (lineB 2 6 3 k n) [(6, own (ents (E)) 43 2)] 24), .bk 4 (.loop loop4c) 24 [3, 4, 5] (some (C4 [(1, ro kd ed 1)] n el kc 0 0 0 (Pl) (K) (lineB 2 6 3 k n) [(6, own (ents (E)) 43 2)] 24 ([3, 4, 5, 6] ++ [3, 4, 5]))) [kc, kd, fns, ints (Pl), (lineB 2 6 3 k n).cs, ints (K), ents (E)] true .normal (FC4 [(1, ro kd ed 1)] n el kc (List.replicate n 0) (K) (lineB 2 24 3 0 n) [(24, own (ents []) 43 2)] 48 ([3, 4, 5, 6] ++ [3, 4, 5])), .mc 16 [(pt 4 0)] [some ⟨[(.iface 45 (.slice (some ⟨2, 0, none⟩) 2 3)), (.slice (some ⟨24, 0, none⟩) 0 0), (.slice (some ⟨3, 0, none⟩) n (n + 1))], 52, 3, 0, true⟩, some ⟨[(.func (.func 24) ⟨[]⟩ ⟨[]⟩), (.func (.func 25) ⟨[]⟩ ⟨[]⟩)], 41, 1, 0, true⟩, some ⟨ents [], 43, 2, 0, true⟩, some ⟨ints (List.replicate n 0), 3, 1, 0, true⟩] 48 (.tuple ⟨[(i64 0), (i64 0), (.bool false)]⟩) [(4, some ⟨[(.iface 45 (.slice (some ⟨2, 0, none⟩) 2 3)), (.slice (some ⟨48, 0, none⟩) 0 0), (.slice (some ⟨3, 0, none⟩) n (n + 1))], 52, 3, 0, true⟩), (24, none), (3, some ⟨ints (List.replicate n 0), 3, 1, 0, true⟩)] [⟨ents [], 43, 2, 0, true⟩]]) := by kernel_rfl
noncomputable def run4w3 (SP : Specs) (n0 : Nat) (el : Nat) (kc : List Value) (F : List Fact) :=
  (xexec Try.prog [] (SP) 600 Body4 ⟨initT [sl 0 n0, .slice none 0 0] 0 .nil, Try.f4.ntmps, startMem [(0, ro kc el 1)] 2⟩ F 0).map (fun r => (r.1.1, (), aresults Try.prog Try.f4 r.1.2, r.2.2.2.map (view (Ds4w3) [4, 2, 24, 3])))
theorem m4w3 (n0 : Nat) (n : Nat) (el : Nat) (kc : List Value) (Pl : List Int) (K : List Int) (k : Nat) (E : List En) (g g4 : Code → St → Option (AExit × St)) : run4w3 (SP4Q [(0, g), (4, g4)]) n0 el kc [fls 27, fls 29, fls 32, fls 33, madeB 41 (.slice (some ⟨3, 0, none⟩) n (n + 1)) ⟨ints (List.replicate n 0), 3, 1, 0, true⟩, madeB 60 (.slice (some ⟨5, 0, none⟩) n (n + 1)) ⟨ints (List.replicate n 0), 3, 1, 0, true⟩, past 65 .normal (FA4 (.slice none 0 0) [] n el kc (Pl) (K) (lineB 2 6 3 k n) [(6, own (ents (E)) 43 2)] 24), past 99 .normal (FC4 [] n el kc (List.replicate n 0) (K) (lineB 2 24 3 0 n) [(24, own (ents []) 43 2)] 48 ([3, 4, 5, 6] ++ [3, 4, 5])), mcl 103 (.tuple ⟨[(i64 0), (i64 0), (.bool false)]⟩) [(4, some ⟨[(.iface 45 (.slice (some ⟨2, 0, none⟩) 2 3)), (.slice (some ⟨48, 0, none⟩) 0 0), (.slice (some ⟨3, 0, none⟩) n (n + 1))], 52, 3, 0, true⟩), (24, none), (3, some ⟨ints (List.replicate n 0), 3, 1, 0, true⟩)] [⟨ents [], 43, 2, 0, true⟩]] = some (.ret, (), some (.bool true), [.b (decide (((minN ((((n0 : Nat) : Int))) (60))) < (0 : Int))) (.val (.bool false)), .b (decide (((minN ((((n0 : Nat) : Int))) (60))) < (0 : Int))) (.val (.bool false)), .b (decide (((minN ((((n0 : Nat) : Int))) (60))) < (0 : Int))) (.val (.bool false)), .b (decide (((minN ((((n0 : Nat) : Int))) (60))) > (1000000 : Int))) (.val (.bool false)), .mk 22 (i64 ((minN ((((n0 : Nat) : Int))) (60)))) (i64 ((minN ((((n0 : Nat) : Int))) (60)))) 3 (.val (.slice (some ⟨3, 0, none⟩) n (n + 1))) ⟨ints (List.replicate n 0), 3, 1, 0, true⟩, .mk 22 (i64 ((minN ((((n0 : Nat) : Int))) (60)))) (i64 ((minN ((((n0 : Nat) : Int))) (60)))) 5 (.val (.slice (some ⟨5, 0, none⟩) n (n + 1))) ⟨ints (List.replicate n 0), 3, 1, 0, true⟩, .bk 0 (.loop loop4a) 6 [] (some (A4v n0 (.slice none 0 0) [] n ((minN ((((n0 : Nat) : Int))) (60))) el kc 0 (List.replicate n 0) (List.replicate n 0) (lineN 2 3 n) [] 6)) [kc, fns, ints (List.replicate n 0), (lineN 2 3 n).cs, ints (List.replicate n 0)] true .normal (FA4 (.slice none 0 0) [] n el kc (Pl) (K) (lineB 2 6 3 k n) [(6, own (ents (E)) 43 2)] 24), .bk 4 (.loop loop4c) 24 [3, 4, 5] (some (C4 [] n el kc 0 0 0 (Pl) (K) (lineB 2 6 3 k n) [(6, own (ents (E)) 43 2)] 24 ([3, 4, 5, 6] ++ [3, 4, 5]))) [kc, fns, ints (Pl), (lineB 2 6 3 k n).cs, ints (K), ents (E)] true .normal (FC4 [] n el kc (List.replicate n 0) (K) (lineB 2 24 3 0 n) [(24, own (ents []) 43 2)] 48 ([3, 4, 5, 6] ++ [3, 4, 5])), .mc 16 [(pt 4 0)] [some ⟨[(.iface 45 (.slice (some ⟨2, 0, none⟩) 2 3)), (.slice (some ⟨24, 0, none⟩) 0 0), (.slice (some ⟨3, 0, none⟩) n (n + 1))], 52, 3, 0, true⟩, some ⟨[(.func (.func 24) ⟨[]⟩ ⟨[]⟩), (.func (.func 25) ⟨[]⟩ ⟨[]⟩)], 41, 1, 0, true⟩, some ⟨ents [], 43, 2, 0, true⟩, some ⟨ints (List.replicate n 0), 3, 1, 0, true⟩] 48 (.tuple ⟨[(i64 0), (i64 0), (.bool false)]⟩) [(4, some ⟨[(.iface 45 (.slice (some ⟨2, 0, none⟩) 2 3)), (.slice (some ⟨48, 0, none⟩) 0 0), (.slice (some ⟨3, 0, none⟩) n (n + 1))], 52, 3, 0, true⟩), (24, none), (3, some ⟨ints (List.replicate n 0), 3, 1, 0, true⟩)] [⟨ents [], 43, 2, 0, true⟩]]) := by kernel_rfl
noncomputable def rz41row0 (m0 : Nat) (el : Nat) (ed : Nat) (kd : List Value) (F : List Fact) :=
  (xexec Try.prog [] (SP4N []) 600 Body4 ⟨initT [sl 0 0, sl 1 m0] 0 .nil, Try.f4.ntmps, startMem [(0, ro [] el 1), (1, ro kd ed 1)] 2⟩ F 0).map (fun r => (r.1.1, (), aresults Try.prog Try.f4 r.1.2, r.2.2.2.map (view (noDoors) [])))
theorem z41row0 (m0 : Nat) (el : Nat) (ed : Nat) (kd : List Value) : rz41row0 m0 el ed kd [tru 84, tru 86, tru 89] = some (.ret, (), some (.bool true), [.b (decide ((0 : Int) < (((m0 : Nat) : Int)))) (.val (.bool true)), .b (decide ((0 : Int) < (((m0 : Nat) : Int)))) (.val (.bool true)), .b (decide ((0 : Int) < (((m0 : Nat) : Int)))) (.val (.bool true))]) := by kernel_rfl
noncomputable def rz41row1 (m0 : Nat) (el : Nat) (ed : Nat) (kd : List Value) (F : List Fact) :=
  (xexec Try.prog [] (SP4N []) 600 Body4 ⟨initT [sl 0 0, sl 1 m0] 0 .nil, Try.f4.ntmps, startMem [(0, ro [] el 1), (1, ro kd ed 1)] 2⟩ F 0).map (fun r => (r.1.1, (), aresults Try.prog Try.f4 r.1.2, r.2.2.2.map (view (noDoors) [])))
theorem z41row1 (m0 : Nat) (el : Nat) (ed : Nat) (kd : List Value) : rz41row1 m0 el ed kd [fls 84, fls 86, fls 89] = some (.ret, (), some (.bool true), [.b (decide ((0 : Int) < (((m0 : Nat) : Int)))) (.val (.bool false)), .b (decide ((0 : Int) < (((m0 : Nat) : Int)))) (.val (.bool false)), .b (decide ((0 : Int) < (((m0 : Nat) : Int)))) (.val (.bool false))]) := by kernel_rfl
noncomputable def rz41nil0 (el : Nat) (F : List Fact) :=
  (xexec Try.prog [] (SP4N []) 600 Body4 ⟨initT [sl 0 0, .slice none 0 0] 0 .nil, Try.f4.ntmps, startMem [(0, ro [] el 1)] 2⟩ F 0).map (fun r => (r.1.1, (), aresults Try.prog Try.f4 r.1.2, r.2.2.2.map (view (noDoors) [])))
theorem z41nil0 (el : Nat) : rz41nil0 el [] = some (.ret, (), some (.bool true), []) := by kernel_rfl
noncomputable def rz40row0 (m0 : Nat) (ed : Nat) (kd : List Value) (F : List Fact) :=
  (xexec Try.prog [] (SP4N []) 600 Body4 ⟨initT [.slice none 0 0, sl 1 m0] 0 .nil, Try.f4.ntmps, startMem [(1, ro kd ed 1)] 2⟩ F 0).map (fun r => (r.1.1, (), aresults Try.prog Try.f4 r.1.2, r.2.2.2.map (view (noDoors) [])))
theorem z40row0 (m0 : Nat) (ed : Nat) (kd : List Value) : rz40row0 m0 ed kd [tru 84, tru 86, tru 89] = some (.ret, (), some (.bool true), [.b (decide ((0 : Int) < (((m0 : Nat) : Int)))) (.val (.bool true)), .b (decide ((0 : Int) < (((m0 : Nat) : Int)))) (.val (.bool true)), .b (decide ((0 : Int) < (((m0 : Nat) : Int)))) (.val (.bool true))]) := by kernel_rfl
noncomputable def rz40row1 (m0 : Nat) (ed : Nat) (kd : List Value) (F : List Fact) :=
  (xexec Try.prog [] (SP4N []) 600 Body4 ⟨initT [.slice none 0 0, sl 1 m0] 0 .nil, Try.f4.ntmps, startMem [(1, ro kd ed 1)] 2⟩ F 0).map (fun r => (r.1.1, (), aresults Try.prog Try.f4 r.1.2, r.2.2.2.map (view (noDoors) [])))
theorem z40row1 (m0 : Nat) (ed : Nat) (kd : List Value) : rz40row1 m0 ed kd [fls 84, fls 86, fls 89] = some (.ret, (), some (.bool true), [.b (decide ((0 : Int) < (((m0 : Nat) : Int)))) (.val (.bool false)), .b (decide ((0 : Int) < (((m0 : Nat) : Int)))) (.val (.bool false)), .b (decide ((0 : Int) < (((m0 : Nat) : Int)))) (.val (.bool false))]) := by kernel_rfl
noncomputable def rz40nil0  (F : List Fact) :=
  (xexec Try.prog [] (SP4N []) 600 Body4 ⟨initT [.slice none 0 0, .slice none 0 0] 0 .nil, Try.f4.ntmps, startMem [] 2⟩ F 0).map (fun r => (r.1.1, (), aresults Try.prog Try.f4 r.1.2, r.2.2.2.map (view (noDoors) [])))
theorem z40nil0  : rz40nil0  [] = some (.ret, (), some (.bool true), []) := by kernel_rfl

theorem CI.first {n : Nat} {s : QS} {t : RS} (h : BI n s t) : CI n 0 t.K 0 0 s t := ⟨h.same, rfl, by rw [h.num]; simp, fun h0 => absurd h0 (Nat.lt_irrefl _)⟩
theorem queueSorts_main : ∀ xs, KS.fitsAll [22, 22] xs → ∃ SP n M', (∀ B, SpecsOk Try.prog [] B SP) ∧ Go.Am.arun Try.prog [] SP n 4 (argVs 0 xs) (startMem (argBs 0 xs) xs.length) = some (.bool true, M') := fun xs h => by
  have hn : Nat.ble 2 Try.f4.ntmps = true := by kernel_rfl
  obtain ⟨a, l, rfl, h1, h⟩ := KS.fits_cons h
  obtain ⟨b, l, rfl, h2, h⟩ := KS.fits_cons h
  obtain rfl := KS.fits_nil h
  rcases KS.fit_row (by decide) (by decide) h1 with rfl | ⟨zs, el, rfl, _⟩
  · rcases KS.fit_row (by decide) (by decide) h2 with rfl | ⟨ms, ed, rfl, _⟩
    · have h := z40nil0 
      unfold rz40nil0 at h
      obtain ⟨M', k1, _⟩ := xrun_of (look := fun _ => ()) Try.func4 body4 (by exact hn) h (.inr rfl) hold_nil
      exact ⟨_, 600, M', fun B => specs4N [] B (fun p hp => by cases hp), k1⟩
    · by_cases hm : 0 < ms.length
      · have h := z40row0 ms.length ed (ints ms)
        unfold rz40row0 at h
        obtain ⟨M', k1, _⟩ := xrun_of (look := fun _ => ()) Try.func4 body4 (by exact hn) h (.inr rfl) (hold_cons (qd (by omega)) (hold_cons (qd (by omega)) (hold_cons (qd (by omega)) hold_nil)))
        exact ⟨_, 600, M', fun B => specs4N [] B (fun p hp => by cases hp), k1⟩
      · have h := z40row1 ms.length ed (ints ms)
        unfold rz40row1 at h
        obtain ⟨M', k1, _⟩ := xrun_of (look := fun _ => ()) Try.func4 body4 (by exact hn) h (.inr rfl) (hold_cons (qdn (by omega)) (hold_cons (qdn (by omega)) (hold_cons (qdn (by omega)) hold_nil)))
        exact ⟨_, 600, M', fun B => specs4N [] B (fun p hp => by cases hp), k1⟩
  · by_cases hzs : zs = []
    · subst hzs
      rcases KS.fit_row (by decide) (by decide) h2 with rfl | ⟨ms, ed, rfl, _⟩
      · have h := z41nil0 el
        unfold rz41nil0 at h
        obtain ⟨M', k1, _⟩ := xrun_of (look := fun _ => ()) Try.func4 body4 (by exact hn) h (.inr rfl) hold_nil
        exact ⟨_, 600, M', fun B => specs4N [] B (fun p hp => by cases hp), k1⟩
      · by_cases hm : 0 < ms.length
        · have h := z41row0 ms.length el ed (ints ms)
          unfold rz41row0 at h
          obtain ⟨M', k1, _⟩ := xrun_of (look := fun _ => ()) Try.func4 body4 (by exact hn) h (.inr rfl) (hold_cons (qd (by omega)) (hold_cons (qd (by omega)) (hold_cons (qd (by omega)) hold_nil)))
          exact ⟨_, 600, M', fun B => specs4N [] B (fun p hp => by cases hp), k1⟩
        · have h := z41row1 ms.length el ed (ints ms)
          unfold rz41row1 at h
          obtain ⟨M', k1, _⟩ := xrun_of (look := fun _ => ()) Try.func4 body4 (by exact hn) h (.inr rfl) (hold_cons (qdn (by omega)) (hold_cons (qdn (by omega)) (hold_cons (qdn (by omega)) hold_nil)))
          exact ⟨_, 600, M', fun B => specs4N [] B (fun p hp => by cases hp), k1⟩
    · have hpos : 0 < zs.length := List.length_pos_iff.2 hzs
      obtain ⟨n, hnd⟩ : ∃ n, min zs.length 60 = n := ⟨_, rfl⟩
      have hn0 : 0 < n := by omega
      have hn60 : n ≤ 60 := by omega
      have hnv : minN ((zs.length : Nat) : Int) 60 = ((n : Nat) : Int) := by
        unfold minN
        split <;> omega
      have hai := itA_ok zs n hn60 n (Nat.le_refl _)
      obtain ⟨⟨s, t⟩, hit⟩ : ∃ x, itA zs n n = x := ⟨_, rfl⟩
      rw [hit] at hai
      have hbi : BI n s t := ⟨hai.same, fun x hx => by rw [hai.is x hx]; exact decide_eq_true hx, hai.num⟩
      obtain ⟨E, hE, _⟩ := put_in (z := 0) hbi.same hn0 (hbi.is 0 hn0)
      obtain ⟨E0, Pl⟩ := s
      simp only at hE
      subst hE
      have hwf0 : WF [] (List.replicate n 0) := (Same.new (m := n) (by omega)).ok.wf
      have hci := CI.first hbi
      rcases KS.fit_row (by decide) (by decide) h2 with rfl | ⟨ms, ed, rfl, _⟩
      · have h := m4w3 zs.length n el (ints zs) Pl t.K E.length E (loopG (.loop loop4a) DA0 (SA4 (.slice none 0 0) [] n el zs 0 ⟨none, List.replicate n 0⟩ ⟨List.replicate n 0, List.replicate n false, 0⟩) (.normal, FA4 (.slice none 0 0) [] n el (ints zs) Pl t.K (lineB 2 6 3 E.length n) [(6, own (ents E) 43 2)] 24)) (loopG (.loop loop4c) DCC0 (SCC0 n el zs t.K ⟨0, 0, 0, E, Pl, t⟩) (.normal, FC4 [] n el (ints zs) (List.replicate n 0) t.K (lineB 2 24 3 0 n) [(24, own (ents []) 43 2)] 48 ([3, 4, 5, 6] ++ [3, 4, 5])))
        unfold run4w3 at h
        rw [hnv] at h
        obtain ⟨M', k1, _⟩ := xrun_of (look := fun _ => ()) Try.func4 body4 (by exact hn) h (.inr rfl) (hold_cons (qdn (by omega)) (hold_cons (qdn (by omega)) (hold_cons (qdn (by omega)) (hold_cons (qdn (by omega)) (hold_cons (mkI (by omega)) (hold_cons (mkI (by omega)) (hold_cons (qbk rfl rfl rfl (still_cons (renL_flat _ _ (ints_flat _)) (still_cons rfl (still_cons (renL_flat _ _ (ints_flat _)) (still_cons rfl (still_cons (renL_flat _ _ (ints_flat _)) still_nil)))))) (hold_cons (qbk rfl rfl rfl (still_cons (renL_flat _ _ (ints_flat _)) (still_cons rfl (still_cons (renL_flat _ _ (ints_flat _)) (still_cons rfl (still_cons (renL_flat _ _ (ints_flat _)) (still_cons (renL_flat _ _ (ents_flat _)) still_nil))))))) (hold_cons (popQ (E := []) (Pl := List.replicate n 0) rfl (fun M h => qm4 (E := []) (Pl := List.replicate n 0) rfl (by simp) rfl h) hwf0 (pop_none rfl) rfl (by simp) (by decide) (by decide) (by decide)) hold_nil)))))))))
        refine ⟨_, 600, M', fun B => specs4Q _ B (fun p hp => ?_), k1⟩
        simp only [List.mem_cons, List.not_mem_nil, or_false] at hp
        rcases hp with rfl | rfl
        · exact loopA0_ok n el zs hn0 (by omega) (by omega) E Pl t hit B
        · exact loopCC0_ok n el zs t.K hn0 (by omega) ⟨0, 0, 0, E, Pl, t⟩ ⟨Nat.zero_le _, hci⟩ rfl B
      · by_cases hms : ms = []
        · subst hms
          have h := m4w2 zs.length n el ed (ints zs) (ints []) Pl t.K E.length E (loopG (.loop loop4a) DA1 (SA4 (sl 1 ([] : List Int).length) [(1, ro (ints ([] : List Int)) ed 1)] n el zs 0 ⟨none, List.replicate n 0⟩ ⟨List.replicate n 0, List.replicate n false, 0⟩) (.normal, FA4 (sl 1 ([] : List Int).length) [(1, ro (ints ([] : List Int)) ed 1)] n el (ints zs) Pl t.K (lineB 2 6 3 E.length n) [(6, own (ents E) 43 2)] 24)) (loopG (.loop loop4c) DCC1 (SCC1 ed [] n el zs t.K ⟨0, 0, 0, E, Pl, t⟩) (.normal, FC4 [(1, ro (ints ([] : List Int)) ed 1)] n el (ints zs) (List.replicate n 0) t.K (lineB 2 24 3 0 n) [(24, own (ents []) 43 2)] 48 ([3, 4, 5, 6] ++ [3, 4, 5])))
          unfold run4w2 at h
          rw [hnv] at h
          obtain ⟨M', k1, _⟩ := xrun_of (look := fun _ => ()) Try.func4 body4 (by exact hn) h (.inr rfl) (hold_cons (qdn (by omega)) (hold_cons (qdn (by omega)) (hold_cons (qdn (by omega)) (hold_cons (qdn (by omega)) (hold_cons (mkI (by omega)) (hold_cons (mkI (by omega)) (hold_cons (qbk rfl rfl rfl (still_cons (renL_flat _ _ (ints_flat _)) (still_cons (renL_flat _ _ (ints_flat _)) (still_cons rfl (still_cons (renL_flat _ _ (ints_flat _)) (still_cons rfl (still_cons (renL_flat _ _ (ints_flat _)) still_nil))))))) (hold_cons (qbk rfl rfl rfl (still_cons (renL_flat _ _ (ints_flat _)) (still_cons (renL_flat _ _ (ints_flat _)) (still_cons rfl (still_cons (renL_flat _ _ (ints_flat _)) (still_cons rfl (still_cons (renL_flat _ _ (ints_flat _)) (still_cons (renL_flat _ _ (ents_flat _)) still_nil)))))))) (hold_cons (popQ (E := []) (Pl := List.replicate n 0) rfl (fun M h => qm4 (E := []) (Pl := List.replicate n 0) rfl (by simp) rfl h) hwf0 (pop_none rfl) rfl (by simp) (by decide) (by decide) (by decide)) hold_nil)))))))))
          refine ⟨_, 600, M', fun B => specs4Q _ B (fun p hp => ?_), k1⟩
          simp only [List.mem_cons, List.not_mem_nil, or_false] at hp
          rcases hp with rfl | rfl
          · exact loopA1_ok ed [] n el zs hn0 (by omega) (by omega) E Pl t hit B
          · exact loopCC1_ok ed [] n el zs t.K hn0 (by omega) ⟨0, 0, 0, E, Pl, t⟩ ⟨Nat.zero_le _, hci⟩ rfl B
        · obtain ⟨⟨s2, t2⟩, hit2⟩ : ∃ x, itB ms n (⟨some E, Pl⟩, t) (min ms.length 60) = x := ⟨_, rfl⟩
          have hbi2 := itB_ok ms n hn0 (⟨some E, Pl⟩, t) hbi (min ms.length 60)
          rw [hit2] at hbi2
          obtain ⟨E2, hE2, _⟩ := put_in (z := 0) hbi2.same hn0 (hbi2.is 0 hn0)
          obtain ⟨E20, Pl2⟩ := s2
          simp only at hE2
          subst hE2
          have hci2 := CI.first hbi2
          have h := m4w1 zs.length ms.length n el ed (ints zs) (ints ms) Pl t.K E.length E Pl2 t2.K E2.length E2 (loopG (.loop loop4a) DA1 (SA4 (sl 1 ms.length) [(1, ro (ints ms) ed 1)] n el zs 0 ⟨none, List.replicate n 0⟩ ⟨List.replicate n 0, List.replicate n false, 0⟩) (.normal, FA4 (sl 1 ms.length) [(1, ro (ints ms) ed 1)] n el (ints zs) Pl t.K (lineB 2 6 3 E.length n) [(6, own (ents E) 43 2)] 24)) (loopG (.loop loop4b) DB (SB4 ed ms n el zs 0 ⟨some E, Pl⟩ t) (.normal, FB4 [(1, ro (ints ms) ed 1)] n el (ints zs) Pl2 t2.K (lineB 2 24 3 E2.length n) [(24, own (ents E2) 43 2)] 48)) (loopG (.loop loop4c) DCD1 (SCD1 ed ms n el zs t2.K ⟨0, 0, 0, E2, Pl2, t2⟩) (.normal, FC4 [(1, ro (ints ms) ed 1)] n el (ints zs) (List.replicate n 0) t2.K (lineB 2 48 3 0 n) [(48, own (ents []) 43 2)] 72 ([3, 4, 5, 6, 24] ++ [3, 4, 5, 6, 3, 4, 5])))
          unfold run4w1 at h
          rw [hnv] at h
          obtain ⟨M', k1, _⟩ := xrun_of (look := fun _ => ()) Try.func4 body4 (by exact hn) h (.inr rfl) (hold_cons (qdn (by omega)) (hold_cons (qdn (by omega)) (hold_cons (qdn (by omega)) (hold_cons (qdn (by omega)) (hold_cons (mkI (by omega)) (hold_cons (mkI (by omega)) (hold_cons (qbk rfl rfl rfl (still_cons (renL_flat _ _ (ints_flat _)) (still_cons (renL_flat _ _ (ints_flat _)) (still_cons rfl (still_cons (renL_flat _ _ (ints_flat _)) (still_cons rfl (still_cons (renL_flat _ _ (ints_flat _)) still_nil))))))) (hold_cons (qbk rfl rfl rfl (still_cons (renL_flat _ _ (ints_flat _)) (still_cons (renL_flat _ _ (ints_flat _)) (still_cons rfl (still_cons (renL_flat _ _ (ints_flat _)) (still_cons rfl (still_cons (renL_flat _ _ (ints_flat _)) (still_cons (renL_flat _ _ (ents_flat _)) still_nil)))))))) (hold_cons (qbk rfl rfl rfl (still_cons (renL_flat _ _ (ints_flat _)) (still_cons (renL_flat _ _ (ints_flat _)) (still_cons rfl (still_cons (renL_flat _ _ (ints_flat _)) (still_cons rfl (still_cons (renL_flat _ _ (ints_flat _)) (still_cons (renL_flat _ _ (ents_flat _)) still_nil)))))))) (hold_cons (popQ (E := []) (Pl := List.replicate n 0) rfl (fun M h => qm4 (E := []) (Pl := List.replicate n 0) rfl (by simp) rfl h) hwf0 (pop_none rfl) rfl (by simp) (by decide) (by decide) (by decide)) hold_nil))))))))))
          refine ⟨_, 600, M', fun B => specs4Q _ B (fun p hp => ?_), k1⟩
          simp only [List.mem_cons, List.not_mem_nil, or_false] at hp
          rcases hp with rfl | rfl | rfl
          · exact loopA1_ok ed ms n el zs hn0 (by omega) (by omega) E Pl t hit B
          · exact loopB_ok ed ms n el zs hn0 (by omega) hms (⟨some E, Pl⟩, t) hbi E2 Pl2 t2 hit2 B
          · exact loopCD1_ok ed ms n el zs t2.K hn0 (by omega) ⟨0, 0, 0, E2, Pl2, t2⟩ ⟨Nat.zero_le _, hci2⟩ rfl B
end Go.Proofs.Ythocfeccinpbmaa
