/-
  NetWalks: whether any edges are a walk, its cost and its word, are the document's: of any network of at most twelve vertices that is made of the numbers handed in, and of any rows of edges, of at most sixty where they are handed in; the answer is true for every argument.
-/
import Derived.Test.YtlmifmodnkhidaaDoorGW23
open Go Go.Am Go.Proofs
namespace Go.Proofs.YtlmifmodnkhidaaDoor
set_option maxRecDepth 10000
noncomputable def run8 (sz cut : Int) (nsv pkv : Value) (l : List (Nat × ABlk)) (SP : Specs) (ids : List Nat) (F : List Fact) :=
  (hexec Tryd.prog [] SP 90 B8 ⟨initT [i64 sz, nsv, pkv, i64 cut] 0 .nil, Tryd.f8.ntmps, startMem l 2⟩ F 0).map (fun r => (r.1.1, (), aresults Tryd.prog Tryd.f8 r.1.2, r.2.2.2.map (view (door8 []) ids)))
theorem mj_nn_A (kk : Nat) (N sz cut : Int) : run8 sz cut (.slice none 0 0) (.slice none 0 0) [] (SP8 []) [0, 99, 98, 97, 3] [got 12 (.agg ⟨[i64 N, (.slice none 0 0)]⟩), got 26 (i64 (kk : Nat)), got 67 ((.slice none 0 0)), got 69 (.tuple ⟨[i64 0, (.slice none 0 0), .bool true]⟩), got 95 ((.slice none 0 0)), got 97 (.tuple ⟨[i64 0, (.slice none 0 0), .bool true]⟩), got 119 (.tuple ⟨[i64 0, (.slice none 0 0), .bool true]⟩), got 177 (.bool true)] =
    some (.ret, (), some (.bool true), [.cr 15 [i64 sz, (.slice none 0 0), i64 2] [none, none, none, none, none] (.val (.agg ⟨[i64 N, (.slice none 0 0)]⟩)), .cr 18 [i64 cut, i64 10] [none, none, none, none, none] (.val (i64 (kk : Nat))), .sl 25 (.slice none 0 0) none (some (i64 (if (0 : Int) < (kk : Int) then 0 else (kk : Int)))) none none (.val (.slice none 0 0)), .cr 24 [.agg ⟨[i64 N, (.slice none 0 0)]⟩, i64 0, i64 0, (.slice none 0 0)] [none, none, none, none, none] (.val (.tuple ⟨[i64 0, (.slice none 0 0), .bool true]⟩)), .sl 25 (.slice none 0 0) (some (i64 (if (0 : Int) < (kk : Int) then 0 else (kk : Int)))) none none none (.val (.slice none 0 0)), .cr 24 [.agg ⟨[i64 N, (.slice none 0 0)]⟩, i64 0, i64 0, (.slice none 0 0)] [none, none, none, none, none] (.val (.tuple ⟨[i64 0, (.slice none 0 0), .bool true]⟩)), .cr 24 [.agg ⟨[i64 N, (.slice none 0 0)]⟩, i64 0, i64 0, (.slice none 0 0)] [none, none, none, none, none] (.val (.tuple ⟨[i64 0, (.slice none 0 0), .bool true]⟩)), .cr 26 [.slice (some ⟨3, 0, none⟩) 0 1, (.slice none 0 0)] [none, none, none, none, some (own [] 3 1)] (.val (.bool true))]) := by kernel_rfl
theorem mj_ns_A0 (np kk e1 : Nat) (pc : List Value) (N sz cut : Int) : run8 sz cut (.slice none 0 0) (sl 1 np) [(1, ro pc e1 1)] (SP8 []) [0, 99, 98, 97, 3] [got 12 (.agg ⟨[i64 N, (.slice none 0 0)]⟩), got 26 (i64 (kk : Nat)), fls 41, fls 43, fls 46, got 67 ((.slice none 0 0)), got 69 (.tuple ⟨[i64 0, (.slice none 0 0), .bool true]⟩), got 95 ((.slice none 0 0)), got 97 (.tuple ⟨[i64 0, (.slice none 0 0), .bool true]⟩), got 119 (.tuple ⟨[i64 0, (.slice none 0 0), .bool true]⟩), got 177 (.bool true)] =
    some (.ret, (), some (.bool true), [.cr 15 [i64 sz, (.slice none 0 0), i64 2] [none, none, none, none, none] (.val (.agg ⟨[i64 N, (.slice none 0 0)]⟩)), .cr 18 [i64 cut, i64 10] [none, none, none, none, none] (.val (i64 (kk : Nat))), .b (decide ((0 : Int) < (np : Int))) (.val (.bool false)), .b (decide ((0 : Int) < (np : Int))) (.val (.bool false)), .b (decide ((0 : Int) < (np : Int))) (.val (.bool false)), .sl 25 (.slice none 0 0) none (some (i64 (if (0 : Int) < (kk : Int) then 0 else (kk : Int)))) none none (.val (.slice none 0 0)), .cr 24 [.agg ⟨[i64 N, (.slice none 0 0)]⟩, i64 0, i64 0, (.slice none 0 0)] [none, none, none, none, none] (.val (.tuple ⟨[i64 0, (.slice none 0 0), .bool true]⟩)), .sl 25 (.slice none 0 0) (some (i64 (if (0 : Int) < (kk : Int) then 0 else (kk : Int)))) none none none (.val (.slice none 0 0)), .cr 24 [.agg ⟨[i64 N, (.slice none 0 0)]⟩, i64 0, i64 0, (.slice none 0 0)] [none, none, none, none, none] (.val (.tuple ⟨[i64 0, (.slice none 0 0), .bool true]⟩)), .cr 24 [.agg ⟨[i64 N, (.slice none 0 0)]⟩, i64 0, i64 0, (.slice none 0 0)] [none, none, none, none, none] (.val (.tuple ⟨[i64 0, (.slice none 0 0), .bool true]⟩)), .cr 26 [.slice (some ⟨3, 0, none⟩) 0 1, (.slice none 0 0)] [none, none, none, none, some (own [] 3 1)] (.val (.bool true))]) := by kernel_rfl
theorem mj_ns_A1 (np kk e1 : Nat) (pc : List Value) (N sz cut : Int) : run8 sz cut (.slice none 0 0) (sl 1 np) [(1, ro pc e1 1)] (SP8 []) [0, 99, 98, 97, 3] [got 12 (.agg ⟨[i64 N, (.slice none 0 0)]⟩), got 26 (i64 (kk : Nat)), tru 41, tru 43, tru 46, got 89 ((.slice none 0 0)), got 91 (.tuple ⟨[i64 0, (.slice none 0 0), .bool true]⟩), got 117 ((.slice none 0 0)), got 119 (.tuple ⟨[i64 0, (.slice none 0 0), .bool true]⟩), got 141 (.tuple ⟨[i64 0, (.slice none 0 0), .bool true]⟩), got 199 (.bool true)] =
    some (.ret, (), some (.bool true), [.cr 15 [i64 sz, (.slice none 0 0), i64 2] [none, none, none, none, none] (.val (.agg ⟨[i64 N, (.slice none 0 0)]⟩)), .cr 18 [i64 cut, i64 10] [none, none, none, none, none] (.val (i64 (kk : Nat))), .b (decide ((0 : Int) < (np : Int))) (.val (.bool true)), .b (decide ((0 : Int) < (np : Int))) (.val (.bool true)), .b (decide ((0 : Int) < (np : Int))) (.val (.bool true)), .sl 25 (.slice none 0 0) none (some (i64 (if (0 : Int) < (kk : Int) then 0 else (kk : Int)))) none none (.val (.slice none 0 0)), .cr 24 [.agg ⟨[i64 N, (.slice none 0 0)]⟩, i64 0, i64 0, (.slice none 0 0)] [none, none, none, none, none] (.val (.tuple ⟨[i64 0, (.slice none 0 0), .bool true]⟩)), .sl 25 (.slice none 0 0) (some (i64 (if (0 : Int) < (kk : Int) then 0 else (kk : Int)))) none none none (.val (.slice none 0 0)), .cr 24 [.agg ⟨[i64 N, (.slice none 0 0)]⟩, i64 0, i64 0, (.slice none 0 0)] [none, none, none, none, none] (.val (.tuple ⟨[i64 0, (.slice none 0 0), .bool true]⟩)), .cr 24 [.agg ⟨[i64 N, (.slice none 0 0)]⟩, i64 0, i64 0, (.slice none 0 0)] [none, none, none, none, none] (.val (.tuple ⟨[i64 0, (.slice none 0 0), .bool true]⟩)), .cr 26 [.slice (some ⟨3, 0, none⟩) 0 1, (.slice none 0 0)] [none, none, none, none, some (own [] 3 1)] (.val (.bool true))]) := by kernel_rfl
theorem mj_sn_A (kk nn : Nat) (nc : List Value) (N sz cut : Int) (n0 : Nat) : run8 sz cut (sl 0 nn) (.slice none 0 0) [(0, ro nc n0 1)] (SP8 []) [0, 99, 98, 97, 3] [got 12 (.agg ⟨[i64 N, (.slice none 0 0)]⟩), got 26 (i64 (kk : Nat)), got 67 ((.slice none 0 0)), got 69 (.tuple ⟨[i64 0, (.slice none 0 0), .bool true]⟩), got 95 ((.slice none 0 0)), got 97 (.tuple ⟨[i64 0, (.slice none 0 0), .bool true]⟩), got 119 (.tuple ⟨[i64 0, (.slice none 0 0), .bool true]⟩), got 177 (.bool true)] =
    some (.ret, (), some (.bool true), [.cr 15 [i64 sz, (sl 0 nn), i64 2] [some (ro nc n0 1), none, none, none, none] (.val (.agg ⟨[i64 N, (.slice none 0 0)]⟩)), .cr 18 [i64 cut, i64 10] [some (ro nc n0 1), none, none, none, none] (.val (i64 (kk : Nat))), .sl 25 (.slice none 0 0) none (some (i64 (if (0 : Int) < (kk : Int) then 0 else (kk : Int)))) none none (.val (.slice none 0 0)), .cr 24 [.agg ⟨[i64 N, (.slice none 0 0)]⟩, i64 0, i64 0, (.slice none 0 0)] [some (ro nc n0 1), none, none, none, none] (.val (.tuple ⟨[i64 0, (.slice none 0 0), .bool true]⟩)), .sl 25 (.slice none 0 0) (some (i64 (if (0 : Int) < (kk : Int) then 0 else (kk : Int)))) none none none (.val (.slice none 0 0)), .cr 24 [.agg ⟨[i64 N, (.slice none 0 0)]⟩, i64 0, i64 0, (.slice none 0 0)] [some (ro nc n0 1), none, none, none, none] (.val (.tuple ⟨[i64 0, (.slice none 0 0), .bool true]⟩)), .cr 24 [.agg ⟨[i64 N, (.slice none 0 0)]⟩, i64 0, i64 0, (.slice none 0 0)] [some (ro nc n0 1), none, none, none, none] (.val (.tuple ⟨[i64 0, (.slice none 0 0), .bool true]⟩)), .cr 26 [.slice (some ⟨3, 0, none⟩) 0 1, (.slice none 0 0)] [some (ro nc n0 1), none, none, none, some (own [] 3 1)] (.val (.bool true))]) := by kernel_rfl
theorem mj_ss_A0 (np kk e1 nn : Nat) (pc nc : List Value) (N sz cut : Int) (n0 : Nat) : run8 sz cut (sl 0 nn) (sl 1 np) [(0, ro nc n0 1), (1, ro pc e1 1)] (SP8 []) [0, 99, 98, 97, 3] [got 12 (.agg ⟨[i64 N, (.slice none 0 0)]⟩), got 26 (i64 (kk : Nat)), fls 41, fls 43, fls 46, got 67 ((.slice none 0 0)), got 69 (.tuple ⟨[i64 0, (.slice none 0 0), .bool true]⟩), got 95 ((.slice none 0 0)), got 97 (.tuple ⟨[i64 0, (.slice none 0 0), .bool true]⟩), got 119 (.tuple ⟨[i64 0, (.slice none 0 0), .bool true]⟩), got 177 (.bool true)] =
    some (.ret, (), some (.bool true), [.cr 15 [i64 sz, (sl 0 nn), i64 2] [some (ro nc n0 1), none, none, none, none] (.val (.agg ⟨[i64 N, (.slice none 0 0)]⟩)), .cr 18 [i64 cut, i64 10] [some (ro nc n0 1), none, none, none, none] (.val (i64 (kk : Nat))), .b (decide ((0 : Int) < (np : Int))) (.val (.bool false)), .b (decide ((0 : Int) < (np : Int))) (.val (.bool false)), .b (decide ((0 : Int) < (np : Int))) (.val (.bool false)), .sl 25 (.slice none 0 0) none (some (i64 (if (0 : Int) < (kk : Int) then 0 else (kk : Int)))) none none (.val (.slice none 0 0)), .cr 24 [.agg ⟨[i64 N, (.slice none 0 0)]⟩, i64 0, i64 0, (.slice none 0 0)] [some (ro nc n0 1), none, none, none, none] (.val (.tuple ⟨[i64 0, (.slice none 0 0), .bool true]⟩)), .sl 25 (.slice none 0 0) (some (i64 (if (0 : Int) < (kk : Int) then 0 else (kk : Int)))) none none none (.val (.slice none 0 0)), .cr 24 [.agg ⟨[i64 N, (.slice none 0 0)]⟩, i64 0, i64 0, (.slice none 0 0)] [some (ro nc n0 1), none, none, none, none] (.val (.tuple ⟨[i64 0, (.slice none 0 0), .bool true]⟩)), .cr 24 [.agg ⟨[i64 N, (.slice none 0 0)]⟩, i64 0, i64 0, (.slice none 0 0)] [some (ro nc n0 1), none, none, none, none] (.val (.tuple ⟨[i64 0, (.slice none 0 0), .bool true]⟩)), .cr 26 [.slice (some ⟨3, 0, none⟩) 0 1, (.slice none 0 0)] [some (ro nc n0 1), none, none, none, some (own [] 3 1)] (.val (.bool true))]) := by kernel_rfl
theorem mj_ss_A1 (np kk e1 nn : Nat) (pc nc : List Value) (N sz cut : Int) (n0 : Nat) : run8 sz cut (sl 0 nn) (sl 1 np) [(0, ro nc n0 1), (1, ro pc e1 1)] (SP8 []) [0, 99, 98, 97, 3] [got 12 (.agg ⟨[i64 N, (.slice none 0 0)]⟩), got 26 (i64 (kk : Nat)), tru 41, tru 43, tru 46, got 89 ((.slice none 0 0)), got 91 (.tuple ⟨[i64 0, (.slice none 0 0), .bool true]⟩), got 117 ((.slice none 0 0)), got 119 (.tuple ⟨[i64 0, (.slice none 0 0), .bool true]⟩), got 141 (.tuple ⟨[i64 0, (.slice none 0 0), .bool true]⟩), got 199 (.bool true)] =
    some (.ret, (), some (.bool true), [.cr 15 [i64 sz, (sl 0 nn), i64 2] [some (ro nc n0 1), none, none, none, none] (.val (.agg ⟨[i64 N, (.slice none 0 0)]⟩)), .cr 18 [i64 cut, i64 10] [some (ro nc n0 1), none, none, none, none] (.val (i64 (kk : Nat))), .b (decide ((0 : Int) < (np : Int))) (.val (.bool true)), .b (decide ((0 : Int) < (np : Int))) (.val (.bool true)), .b (decide ((0 : Int) < (np : Int))) (.val (.bool true)), .sl 25 (.slice none 0 0) none (some (i64 (if (0 : Int) < (kk : Int) then 0 else (kk : Int)))) none none (.val (.slice none 0 0)), .cr 24 [.agg ⟨[i64 N, (.slice none 0 0)]⟩, i64 0, i64 0, (.slice none 0 0)] [some (ro nc n0 1), none, none, none, none] (.val (.tuple ⟨[i64 0, (.slice none 0 0), .bool true]⟩)), .sl 25 (.slice none 0 0) (some (i64 (if (0 : Int) < (kk : Int) then 0 else (kk : Int)))) none none none (.val (.slice none 0 0)), .cr 24 [.agg ⟨[i64 N, (.slice none 0 0)]⟩, i64 0, i64 0, (.slice none 0 0)] [some (ro nc n0 1), none, none, none, none] (.val (.tuple ⟨[i64 0, (.slice none 0 0), .bool true]⟩)), .cr 24 [.agg ⟨[i64 N, (.slice none 0 0)]⟩, i64 0, i64 0, (.slice none 0 0)] [some (ro nc n0 1), none, none, none, none] (.val (.tuple ⟨[i64 0, (.slice none 0 0), .bool true]⟩)), .cr 26 [.slice (some ⟨3, 0, none⟩) 0 1, (.slice none 0 0)] [some (ro nc n0 1), none, none, none, some (own [] 3 1)] (.val (.bool true))]) := by kernel_rfl
theorem mj_sn_Bn (ne kk nn : Nat) (ec nc : List Value) (N sz cut : Int) (n0 : Nat) : run8 sz cut (sl 0 nn) (.slice none 0 0) [(0, ro nc n0 1)] (SP8 []) [0, 2, 98, 97, 4] [madeB 12 (.agg ⟨[i64 N, sl 2 ne]⟩) (own ec 31 4), got 26 (i64 (kk : Nat)), got 67 ((.slice none 0 0)), got 69 (.tuple ⟨[i64 0, (.slice none 0 0), .bool true]⟩), got 95 ((.slice none 0 0)), got 97 (.tuple ⟨[i64 0, (.slice none 0 0), .bool true]⟩), got 119 (.tuple ⟨[i64 0, (.slice none 0 0), .bool true]⟩), got 177 (.bool true)] =
    some (.ret, (), some (.bool true), [.ca 15 [i64 sz, (sl 0 nn), i64 2] [some (ro nc n0 1), none, none, none, none] 2 (.val (.agg ⟨[i64 N, sl 2 ne]⟩)) (own ec 31 4), .cr 18 [i64 cut, i64 10] [some (ro nc n0 1), some (own ec 31 4), none, none, none] (.val (i64 (kk : Nat))), .sl 25 (.slice none 0 0) none (some (i64 (if (0 : Int) < (kk : Int) then 0 else (kk : Int)))) none none (.val (.slice none 0 0)), .cr 24 [.agg ⟨[i64 N, sl 2 ne]⟩, i64 0, i64 0, (.slice none 0 0)] [some (ro nc n0 1), some (own ec 31 4), none, none, none] (.val (.tuple ⟨[i64 0, (.slice none 0 0), .bool true]⟩)), .sl 25 (.slice none 0 0) (some (i64 (if (0 : Int) < (kk : Int) then 0 else (kk : Int)))) none none none (.val (.slice none 0 0)), .cr 24 [.agg ⟨[i64 N, sl 2 ne]⟩, i64 0, i64 0, (.slice none 0 0)] [some (ro nc n0 1), some (own ec 31 4), none, none, none] (.val (.tuple ⟨[i64 0, (.slice none 0 0), .bool true]⟩)), .cr 24 [.agg ⟨[i64 N, sl 2 ne]⟩, i64 0, i64 0, (.slice none 0 0)] [some (ro nc n0 1), some (own ec 31 4), none, none, none] (.val (.tuple ⟨[i64 0, (.slice none 0 0), .bool true]⟩)), .cr 26 [.slice (some ⟨4, 0, none⟩) 0 1, (.slice none 0 0)] [some (ro nc n0 1), some (own ec 31 4), none, none, some (own [] 3 1)] (.val (.bool true))]) := by kernel_rfl
theorem mj_ss_Bl (np ne kk e1 nn : Nat) (pc ec nc : List Value) (N sz cut : Int) (n0 : Nat) (g : Code → St → Option (AExit × St)) : run8 sz cut (sl 0 nn) (sl 1 np) [(0, ro nc n0 1), (1, ro pc e1 1)] (SP8 [(0, g)]) [0, 2, 98, 97, 15] [madeB 12 (.agg ⟨[i64 N, sl 2 ne]⟩) (own ec 31 4), got 26 (i64 (kk : Nat)), past 31 .normal (I8 np ne kk e1 pc ec N 0 0 0 (.slice none 0 0) [] 15), got 51 ((.slice none 0 0)), got 53 (.tuple ⟨[i64 0, (.slice none 0 0), .bool true]⟩), got 79 ((.slice none 0 0)), got 81 (.tuple ⟨[i64 0, (.slice none 0 0), .bool true]⟩), got 103 (.tuple ⟨[i64 0, (.slice none 0 0), .bool true]⟩), got 161 (.bool true)] =
    some (.ret, (), some (.bool true), [.ca 15 [i64 sz, (sl 0 nn), i64 2] [some (ro nc n0 1), none, none, none, none] 2 (.val (.agg ⟨[i64 N, sl 2 ne]⟩)) (own ec 31 4), .cr 18 [i64 cut, i64 10] [some (ro nc n0 1), some (own ec 31 4), none, none, none] (.val (i64 (kk : Nat))), .bk 0 (.loop loop8) 4 [3] (some (I8 np ne kk e1 pc ec N 0 0 0 (.slice none 0 0) [] 5)) [pc, ec, [i64 N, sl 2 ne]] true .normal (I8 np ne kk e1 pc ec N 0 0 0 (.slice none 0 0) [] 15), .sl 25 (.slice none 0 0) none (some (i64 (if (0 : Int) < (kk : Int) then 0 else (kk : Int)))) none none (.val (.slice none 0 0)), .cr 24 [.agg ⟨[i64 N, sl 2 ne]⟩, i64 0, i64 0, (.slice none 0 0)] [none, some (own ec 31 4), none, none, none] (.val (.tuple ⟨[i64 0, (.slice none 0 0), .bool true]⟩)), .sl 25 (.slice none 0 0) (some (i64 (if (0 : Int) < (kk : Int) then 0 else (kk : Int)))) none none none (.val (.slice none 0 0)), .cr 24 [.agg ⟨[i64 N, sl 2 ne]⟩, i64 0, i64 0, (.slice none 0 0)] [none, some (own ec 31 4), none, none, none] (.val (.tuple ⟨[i64 0, (.slice none 0 0), .bool true]⟩)), .cr 24 [.agg ⟨[i64 N, sl 2 ne]⟩, i64 0, i64 0, (.slice none 0 0)] [none, some (own ec 31 4), none, none, none] (.val (.tuple ⟨[i64 0, (.slice none 0 0), .bool true]⟩)), .cr 26 [.slice (some ⟨15, 0, none⟩) 0 1, (.slice none 0 0)] [none, some (own ec 31 4), none, none, some (own [] 3 1)] (.val (.bool true))]) := by kernel_rfl
theorem mj_ss_u (np ne nl kk e1 nn : Nat) (pc ec lc nc : List Value) (N at' mid sz cut c1 c2 c3 : Int) (n0 nu nw : Nat) (uc wc : List Value) (k2 : Nat) (g : Code → St → Option (AExit × St)) : run8 sz cut (sl 0 nn) (sl 1 np) [(0, ro nc n0 1), (1, ro pc e1 1)] (SP8 [(0, g)]) [0, 2, 4, 16, 18] [madeB 12 (.agg ⟨[i64 N, sl 2 ne]⟩) (own ec 31 4), got 26 (i64 (kk : Nat)), past 31 .normal (I8 np ne kk e1 pc ec N at' mid (nl : Nat) (sl 4 nl) [(4, own lc 3 1)] 15), got 51 ((.slice (some ⟨4, 0, none⟩) k2 k2)), madeB 53 (.tuple ⟨[i64 c1, sl 15 nu, .bool true]⟩) (own uc 3 1), got 79 ((.slice (some ⟨4, k2, none⟩) (nl - k2) (nl - k2))), got 81 (.tuple ⟨[i64 c2, (.slice none 0 0), .bool true]⟩), madeB 103 (.tuple ⟨[i64 c3, sl 16 nw, .bool true]⟩) (own wc 3 1), tru 148, tru 150, tru 152, ⟨153, .bool true, (7, .val (.tuple ⟨[.agg ⟨[]⟩, .agg ⟨uc⟩]⟩), noMem)⟩, tru 154, tru 156, ⟨157, .bool true, (8, .val (.tuple ⟨[.agg ⟨[]⟩, .agg ⟨[]⟩]⟩), noMem)⟩, tru 158, tru 160, got 161 (.bool true), tru 163] =
    some (.ret, (), some (.bool true), [.ca 15 [i64 sz, (sl 0 nn), i64 2] [some (ro nc n0 1), none, none, none, none] 2 (.val (.agg ⟨[i64 N, sl 2 ne]⟩)) (own ec 31 4), .cr 18 [i64 cut, i64 10] [some (ro nc n0 1), some (own ec 31 4), none, none, none] (.val (i64 (kk : Nat))), .bk 0 (.loop loop8) 4 [3] (some (I8 np ne kk e1 pc ec N 0 0 0 (.slice none 0 0) [] 5)) [pc, ec, [i64 N, sl 2 ne]] true .normal (I8 np ne kk e1 pc ec N at' mid (nl : Nat) (sl 4 nl) [(4, own lc 3 1)] 15), .sl 25 (sl 4 nl) none (some (i64 (if ((nl : Nat) : Int) < (kk : Int) then ((nl : Nat) : Int) else (kk : Int)))) none (some (own lc 3 1)) (.val (.slice (some ⟨4, 0, none⟩) k2 k2)), .ca 24 [.agg ⟨[i64 N, sl 2 ne]⟩, i64 0, i64 mid, (.slice (some ⟨4, 0, none⟩) k2 k2)] [none, some (own ec 31 4), some (own lc 3 1), none, none] 15 (.val (.tuple ⟨[i64 c1, sl 15 nu, .bool true]⟩)) (own uc 3 1), .sl 25 (sl 4 nl) (some (i64 (if ((nl : Nat) : Int) < (kk : Int) then ((nl : Nat) : Int) else (kk : Int)))) none none (some (own lc 3 1)) (.val (.slice (some ⟨4, k2, none⟩) (nl - k2) (nl - k2))), .cr 24 [.agg ⟨[i64 N, sl 2 ne]⟩, i64 mid, i64 at', (.slice (some ⟨4, k2, none⟩) (nl - k2) (nl - k2))] [none, some (own ec 31 4), some (own lc 3 1), none, none] (.val (.tuple ⟨[i64 c2, (.slice none 0 0), .bool true]⟩)), .ca 24 [.agg ⟨[i64 N, sl 2 ne]⟩, i64 0, i64 at', sl 4 nl] [none, some (own ec 31 4), some (own lc 3 1), none, none] 16 (.val (.tuple ⟨[i64 c3, sl 16 nw, .bool true]⟩)) (own wc 3 1), .b ((IntKind.wrap .i64 (c1 + c2) == c3)) (.val (.bool true)), .b ((IntKind.wrap .i64 (c1 + c2) == c3)) (.val (.bool true)), .b ((IntKind.wrap .i64 (c1 + c2) == c3)) (.val (.bool true)), .ap2 7 [25, 25] (.slice (some ⟨17, 0, none⟩) 0 1) (sl 15 nu) [] uc (own [] 3 1) (some (own uc 3 1)), .b ((IntKind.wrap .i64 (c1 + c2) == c3)) (.val (.bool true)), .b ((IntKind.wrap .i64 (c1 + c2) == c3)) (.val (.bool true)), .ap2 8 [25, 25] (.slice (some ⟨18, 0, none⟩) (0 + nu) (0 + nu)) (.slice none 0 0) [] [] (own ([] ++ uc) 3 1) none, .b ((IntKind.wrap .i64 (c1 + c2) == c3)) (.val (.bool true)), .b ((IntKind.wrap .i64 (c1 + c2) == c3)) (.val (.bool true)), .cr 26 [(.slice (some ⟨18, 0, none⟩) (0 + nu) (0 + nu)), sl 16 nw] [none, some (own ec 31 4), some (own lc 3 1), some (own wc 3 1), some (own ([] ++ uc) 3 1)] (.val (.bool true)), .b ((IntKind.wrap .i64 (c1 + c2) == c3)) (.val (.bool true))]) := by kernel_rfl
theorem mj_ss_v (np ne nl kk e1 nn : Nat) (pc ec lc nc : List Value) (N at' mid sz cut c1 c2 c3 : Int) (n0 nv nw : Nat) (vc wc : List Value) (k2 : Nat) (g : Code → St → Option (AExit × St)) : run8 sz cut (sl 0 nn) (sl 1 np) [(0, ro nc n0 1), (1, ro pc e1 1)] (SP8 [(0, g)]) [0, 2, 4, 16, 18] [madeB 12 (.agg ⟨[i64 N, sl 2 ne]⟩) (own ec 31 4), got 26 (i64 (kk : Nat)), past 31 .normal (I8 np ne kk e1 pc ec N at' mid (nl : Nat) (sl 4 nl) [(4, own lc 3 1)] 15), got 51 ((.slice (some ⟨4, 0, none⟩) k2 k2)), got 53 (.tuple ⟨[i64 c1, (.slice none 0 0), .bool true]⟩), got 79 ((.slice (some ⟨4, k2, none⟩) (nl - k2) (nl - k2))), madeB 81 (.tuple ⟨[i64 c2, sl 15 nv, .bool true]⟩) (own vc 3 1), madeB 103 (.tuple ⟨[i64 c3, sl 16 nw, .bool true]⟩) (own wc 3 1), tru 148, tru 150, tru 152, tru 154, tru 156, ⟨157, .bool true, (7, .val (.tuple ⟨[.agg ⟨[]⟩, .agg ⟨vc⟩]⟩), noMem)⟩, tru 158, tru 160, got 161 (.bool true), tru 163] =
    some (.ret, (), some (.bool true), [.ca 15 [i64 sz, (sl 0 nn), i64 2] [some (ro nc n0 1), none, none, none, none] 2 (.val (.agg ⟨[i64 N, sl 2 ne]⟩)) (own ec 31 4), .cr 18 [i64 cut, i64 10] [some (ro nc n0 1), some (own ec 31 4), none, none, none] (.val (i64 (kk : Nat))), .bk 0 (.loop loop8) 4 [3] (some (I8 np ne kk e1 pc ec N 0 0 0 (.slice none 0 0) [] 5)) [pc, ec, [i64 N, sl 2 ne]] true .normal (I8 np ne kk e1 pc ec N at' mid (nl : Nat) (sl 4 nl) [(4, own lc 3 1)] 15), .sl 25 (sl 4 nl) none (some (i64 (if ((nl : Nat) : Int) < (kk : Int) then ((nl : Nat) : Int) else (kk : Int)))) none (some (own lc 3 1)) (.val (.slice (some ⟨4, 0, none⟩) k2 k2)), .cr 24 [.agg ⟨[i64 N, sl 2 ne]⟩, i64 0, i64 mid, (.slice (some ⟨4, 0, none⟩) k2 k2)] [none, some (own ec 31 4), some (own lc 3 1), none, none] (.val (.tuple ⟨[i64 c1, (.slice none 0 0), .bool true]⟩)), .sl 25 (sl 4 nl) (some (i64 (if ((nl : Nat) : Int) < (kk : Int) then ((nl : Nat) : Int) else (kk : Int)))) none none (some (own lc 3 1)) (.val (.slice (some ⟨4, k2, none⟩) (nl - k2) (nl - k2))), .ca 24 [.agg ⟨[i64 N, sl 2 ne]⟩, i64 mid, i64 at', (.slice (some ⟨4, k2, none⟩) (nl - k2) (nl - k2))] [none, some (own ec 31 4), some (own lc 3 1), none, none] 15 (.val (.tuple ⟨[i64 c2, sl 15 nv, .bool true]⟩)) (own vc 3 1), .ca 24 [.agg ⟨[i64 N, sl 2 ne]⟩, i64 0, i64 at', sl 4 nl] [none, some (own ec 31 4), some (own lc 3 1), none, none] 16 (.val (.tuple ⟨[i64 c3, sl 16 nw, .bool true]⟩)) (own wc 3 1), .b ((IntKind.wrap .i64 (c1 + c2) == c3)) (.val (.bool true)), .b ((IntKind.wrap .i64 (c1 + c2) == c3)) (.val (.bool true)), .b ((IntKind.wrap .i64 (c1 + c2) == c3)) (.val (.bool true)), .b ((IntKind.wrap .i64 (c1 + c2) == c3)) (.val (.bool true)), .b ((IntKind.wrap .i64 (c1 + c2) == c3)) (.val (.bool true)), .ap2 7 [25, 25] (.slice (some ⟨17, 0, none⟩) 0 1) (sl 15 nv) [] vc (own [] 3 1) (some (own vc 3 1)), .b ((IntKind.wrap .i64 (c1 + c2) == c3)) (.val (.bool true)), .b ((IntKind.wrap .i64 (c1 + c2) == c3)) (.val (.bool true)), .cr 26 [(.slice (some ⟨18, 0, none⟩) (0 + nv) (0 + nv)), sl 16 nw] [none, some (own ec 31 4), some (own lc 3 1), some (own wc 3 1), some (own ([] ++ vc) 3 1)] (.val (.bool true)), .b ((IntKind.wrap .i64 (c1 + c2) == c3)) (.val (.bool true))]) := by kernel_rfl
theorem mj_ss_uv (np ne nl kk e1 nn : Nat) (pc ec lc nc : List Value) (N at' mid sz cut c1 c2 c3 : Int) (n0 nu nv nw : Nat) (uc vc wc : List Value) (k2 : Nat) (g : Code → St → Option (AExit × St)) : run8 sz cut (sl 0 nn) (sl 1 np) [(0, ro nc n0 1), (1, ro pc e1 1)] (SP8 [(0, g)]) [0, 2, 4, 17, 20] [madeB 12 (.agg ⟨[i64 N, sl 2 ne]⟩) (own ec 31 4), got 26 (i64 (kk : Nat)), past 31 .normal (I8 np ne kk e1 pc ec N at' mid (nl : Nat) (sl 4 nl) [(4, own lc 3 1)] 15), got 51 ((.slice (some ⟨4, 0, none⟩) k2 k2)), madeB 53 (.tuple ⟨[i64 c1, sl 15 nu, .bool true]⟩) (own uc 3 1), got 79 ((.slice (some ⟨4, k2, none⟩) (nl - k2) (nl - k2))), madeB 81 (.tuple ⟨[i64 c2, sl 16 nv, .bool true]⟩) (own vc 3 1), madeB 103 (.tuple ⟨[i64 c3, sl 17 nw, .bool true]⟩) (own wc 3 1), tru 148, tru 150, tru 152, ⟨153, .bool true, (7, .val (.tuple ⟨[.agg ⟨[]⟩, .agg ⟨uc⟩]⟩), noMem)⟩, tru 154, tru 156, ⟨157, .bool true, (6, .val (.tuple ⟨[.agg ⟨([] ++ uc)⟩, .agg ⟨vc⟩]⟩), noMem)⟩, tru 158, tru 160, got 161 (.bool true), tru 163] =
    some (.ret, (), some (.bool true), [.ca 15 [i64 sz, (sl 0 nn), i64 2] [some (ro nc n0 1), none, none, none, none] 2 (.val (.agg ⟨[i64 N, sl 2 ne]⟩)) (own ec 31 4), .cr 18 [i64 cut, i64 10] [some (ro nc n0 1), some (own ec 31 4), none, none, none] (.val (i64 (kk : Nat))), .bk 0 (.loop loop8) 4 [3] (some (I8 np ne kk e1 pc ec N 0 0 0 (.slice none 0 0) [] 5)) [pc, ec, [i64 N, sl 2 ne]] true .normal (I8 np ne kk e1 pc ec N at' mid (nl : Nat) (sl 4 nl) [(4, own lc 3 1)] 15), .sl 25 (sl 4 nl) none (some (i64 (if ((nl : Nat) : Int) < (kk : Int) then ((nl : Nat) : Int) else (kk : Int)))) none (some (own lc 3 1)) (.val (.slice (some ⟨4, 0, none⟩) k2 k2)), .ca 24 [.agg ⟨[i64 N, sl 2 ne]⟩, i64 0, i64 mid, (.slice (some ⟨4, 0, none⟩) k2 k2)] [none, some (own ec 31 4), some (own lc 3 1), none, none] 15 (.val (.tuple ⟨[i64 c1, sl 15 nu, .bool true]⟩)) (own uc 3 1), .sl 25 (sl 4 nl) (some (i64 (if ((nl : Nat) : Int) < (kk : Int) then ((nl : Nat) : Int) else (kk : Int)))) none none (some (own lc 3 1)) (.val (.slice (some ⟨4, k2, none⟩) (nl - k2) (nl - k2))), .ca 24 [.agg ⟨[i64 N, sl 2 ne]⟩, i64 mid, i64 at', (.slice (some ⟨4, k2, none⟩) (nl - k2) (nl - k2))] [none, some (own ec 31 4), some (own lc 3 1), none, none] 16 (.val (.tuple ⟨[i64 c2, sl 16 nv, .bool true]⟩)) (own vc 3 1), .ca 24 [.agg ⟨[i64 N, sl 2 ne]⟩, i64 0, i64 at', sl 4 nl] [none, some (own ec 31 4), some (own lc 3 1), none, none] 17 (.val (.tuple ⟨[i64 c3, sl 17 nw, .bool true]⟩)) (own wc 3 1), .b ((IntKind.wrap .i64 (c1 + c2) == c3)) (.val (.bool true)), .b ((IntKind.wrap .i64 (c1 + c2) == c3)) (.val (.bool true)), .b ((IntKind.wrap .i64 (c1 + c2) == c3)) (.val (.bool true)), .ap2 7 [25, 25] (.slice (some ⟨18, 0, none⟩) 0 1) (sl 15 nu) [] uc (own [] 3 1) (some (own uc 3 1)), .b ((IntKind.wrap .i64 (c1 + c2) == c3)) (.val (.bool true)), .b ((IntKind.wrap .i64 (c1 + c2) == c3)) (.val (.bool true)), .ap2 6 [25, 25] (.slice (some ⟨19, 0, none⟩) (0 + nu) (0 + nu)) (sl 16 nv) ([] ++ uc) vc (own ([] ++ uc) 3 1) (some (own vc 3 1)), .b ((IntKind.wrap .i64 (c1 + c2) == c3)) (.val (.bool true)), .b ((IntKind.wrap .i64 (c1 + c2) == c3)) (.val (.bool true)), .cr 26 [(.slice (some ⟨20, 0, none⟩) (0 + nu + nv) (0 + nu + nv)), sl 17 nw] [none, some (own ec 31 4), some (own lc 3 1), some (own wc 3 1), some (own ([] ++ uc ++ vc) 3 1)] (.val (.bool true)), .b ((IntKind.wrap .i64 (c1 + c2) == c3)) (.val (.bool true))]) := by kernel_rfl
end Go.Proofs.YtlmifmodnkhidaaDoor

open Go Go.Am Go.Proofs
namespace Go.Proofs.YtlmifmodnkhidaaDoor
set_option maxRecDepth 10000

/- Appends of rows. -/
theorem ap2_ok {sT xT elem : TypeId} {xd : TypeDesc} {e : TypeInfo} {id len cap n k : Nat} {x : Value} {old new : List Value} {b : ABlk} {P : Program} (h1 : P.underlying sT = some (.slice elem)) (h2 : P.underlying xT = some xd) (h3 : isIntD xd = false)
    (h4 : P.info? elem = some e) (h5 : lenV x = some n) (hold : takeN (len * e.size) b.cs = some old) (hroom : roomy e (len + n) = true) (hnew : new.all isCell = true) (hlen : new.length = n * e.size)
    (hesz : b.esz = e.size) (helem : b.elem = elem) (happ : b.app = true) (hwf : b.wf = 0) (hk : (k = 6 ∧ n ≠ 0 ∧ cap = len) ∨ (k = 7 ∧ n ≠ 0 ∧ cap = len + 1) ∨ (k = 8 ∧ n = 0)) (M : Mem) (hf : firsts M e.size n x = some new) (r : Nat × AR × Mem)
    (h : app2In P k [sT, xT] (.slice (some ⟨id, 0, none⟩) len cap) x M old new = some (b, r)) : aappend P [sT, xT] (.slice (some ⟨id, 0, none⟩) len cap) x M = some r := by
  unfold app2In at h
  simp only [h1, h4, h5] at h
  split at h
  · rename_i e' n' b' he hn' hb'
    cases he; cases hn'
    have b3 : Nat.ble b'.wf (0 + len * e.size) = true ∨ True := .inr trivial
    rcases hk with ⟨rfl, hn, rfl⟩ | ⟨rfl, hn, rfl⟩ | ⟨rfl, hn⟩ <;> simp only [Option.some.injEq, Prod.mk.injEq] at h <;> obtain ⟨rfl, rfl⟩ := h
    · have b1 : Nat.beq n 0 = false := by
        cases hb : Nat.beq n 0
        · rfl
        · exact absurd (Nat.eq_of_beq_eq_true hb) hn
      have b2 : Nat.beq cap (cap + 1) = false := by
        cases hb : Nat.beq cap (cap + 1)
        · rfl
        · exact absurd (Nat.eq_of_beq_eq_true hb) (by omega)
      have b3 : Nat.ble b'.wf (0 + cap * e.size) = true := by rw [hwf]; exact Nat.ble_eq_true_of_le (Nat.zero_le _)
      have b4 : Nat.beq new.length (n * e.size) = true := by rw [hlen]; exact Nat.beq_refl _
      have b5 : Nat.beq b'.esz e.size = true := by rw [hesz]; exact Nat.beq_refl _
      have b6 : Nat.beq b'.elem elem = true := by rw [helem]; exact Nat.beq_refl _
      unfold aappend
      simp only [h1, h2, h4, h5, h3, hf, hb', range, List.drop_zero, hold, hroom, hnew, b4, b5, b6, b1, b2, b3, happ, Bool.not_true, Bool.or_false, Bool.and_true, cond_false, cond_true]
    · have b1 : Nat.beq n 0 = false := by
        cases hb : Nat.beq n 0
        · rfl
        · exact absurd (Nat.eq_of_beq_eq_true hb) hn
      have b4 : Nat.beq new.length (n * e.size) = true := by rw [hlen]; exact Nat.beq_refl _
      have b5 : Nat.beq b'.esz e.size = true := by rw [hesz]; exact Nat.beq_refl _
      have b6 : Nat.beq b'.elem elem = true := by rw [helem]; exact Nat.beq_refl _
      unfold aappend
      simp only [h1, h2, h4, h5, h3, hf, hb', range, List.drop_zero, hold, hroom, hnew, b4, b5, b6, b1, Nat.beq_refl, Bool.not_true, Bool.or_false, cond_false, cond_true]
      rfl
    · subst hn
      have b4 : Nat.beq new.length (0 * e.size) = true := by rw [hlen]; exact Nat.beq_refl _
      have b5 : Nat.beq b'.esz e.size = true := by rw [hesz]; exact Nat.beq_refl _
      have b6 : Nat.beq b'.elem elem = true := by rw [helem]; exact Nat.beq_refl _
      unfold aappend
      simp only [h1, h2, h4, h5, h3, hf, hb', range, List.drop_zero, hold, hroom, hnew, b4, b5, b6, Nat.beq_refl, Bool.not_true, Bool.or_false, cond_false, cond_true]
  · cases h

theorem ints_cells (l : List Int) : (ints l).all isCell = true := by
  rw [List.all_eq_true]
  intro x hx
  simp only [ints, List.mem_map] at hx
  obtain ⟨z, _, rfl⟩ := hx
  rfl

theorem aap {SP : Specs} {D : Nat → Door} {ids : List Nat} {k id len cap xid n : Nat} {os xs : List Int} (hk : (k = 6 ∧ n ≠ 0 ∧ cap = len) ∨ (k = 7 ∧ n ≠ 0 ∧ cap = len + 1)) (ho : os.length = len) (hx : xs.length = n) (hb : len + n ≤ 2 ^ 30) {oc xc : List Value} (hoc : oc = ints os) (hxc : xc = ints xs) :
    (QV.ap2 k [25, 25] (.slice (some ⟨id, 0, none⟩) len cap) (sl xid n) oc xc (own oc 3 1) (some (own xc 3 1))).holds Tryd.prog SP D ids := fun M r hM hr => by
  subst hoc; subst hxc
  obtain ⟨e, h1, h2, h3, h4⟩ := info3
  refine ap2_ok (P := Tryd.prog) (elem := 3) (xd := .slice 3) (n := n) Tryd.underlying25 Tryd.underlying25 rfl h1 rfl (by rw [h2]; exact takeN_all (by rw [ints_len, ho]; omega)) (roomy_ok (by omega) h3 h4 hb) (ints_cells xs) (by rw [h2, ints_len, hx]; omega) h2.symm rfl rfl rfl
    (by rcases hk with h | h; exact .inl h; exact .inr (.inl h)) M ?_ r hr
  have hM' : M.get xid = some (own (ints xs) 3 1) := hM
  unfold firsts sl
  simp only [hM', range, List.drop_zero]
  rw [h2]
  exact takeN_all (by rw [ints_len, hx]; omega)
theorem aap0 {SP : Specs} {D : Nat → Door} {ids : List Nat} {id len cap : Nat} {os : List Int} (ho : os.length = len) (hb : len ≤ 2 ^ 30) {oc : List Value} (hoc : oc = ints os) :
    (QV.ap2 8 [25, 25] (.slice (some ⟨id, 0, none⟩) len cap) (.slice none 0 0) [] [] (own oc 3 1) none).holds Tryd.prog SP D ids := fun M r hM hr => by
  subst hoc
  obtain ⟨e, h1, h2, h3, h4⟩ := info3
  have hr' : app2In Tryd.prog 8 [25, 25] (.slice (some ⟨id, 0, none⟩) len cap) (.slice none 0 0) M (ints os) [] = some (own (ints os) 3 1, r) := by
    unfold app2In at hr ⊢
    simp only [Tryd.underlying25, h1, lenV] at hr ⊢
    exact hr
  exact ap2_ok (P := Tryd.prog) (elem := 3) (xd := .slice 3) (n := 0) Tryd.underlying25 Tryd.underlying25 rfl h1 rfl (by rw [h2]; exact takeN_all (by rw [ints_len, ho]; omega)) (roomy_ok (by omega) h3 h4 (by omega)) rfl (by simp) h2.symm rfl rfl rfl
    (.inr (.inr ⟨rfl, rfl⟩)) M (by unfold firsts; rfl) r hr'

/- Parts of a row. -/
theorem asl {SP : Specs} {D : Nat → Door} {ids : List Nat} {id n k : Nat} {oc : List Value} {elem : Nat} (hk : k ≤ n) (z : Int) (hz : z = (k : Int)) :
    (QV.sl 25 (sl id n) none (some (i64 z)) none (some (own oc elem 1)) (.val (.slice (some ⟨id, 0, none⟩) k k))).holds Tryd.prog SP D ids := fun M hM => by
  subst hz
  obtain ⟨e, h1, h2, h3, h4⟩ := info3
  refine ⟨_, rfl, ?_⟩
  have hM' : M.get id = some (own oc elem 1) := hM
  have b1 : Nat.beq n (n + 1) = false := by
    cases hb : Nat.beq n (n + 1)
    · rfl
    · exact absurd (Nat.eq_of_beq_eq_true hb) (by omega)
  have hb : (decide ((0 : Int) ≤ (k : Int)) && decide ((k : Int) ≤ (n : Int))) = true := by simp; omega
  unfold aslice sl
  simp only [Tryd.underlying25, h1, hM', abound, hb, h2, Option.isSome_none, Option.isNone_some, Bool.false_and, cond_false, cond_true, Int.toNat_natCast, Nat.beq_refl, b1, Bool.or_false, Bool.and_false, Nat.zero_mul, Nat.sub_zero]
  rfl
theorem asr {SP : Specs} {D : Nat → Door} {ids : List Nat} {id n k : Nat} {oc : List Value} {elem : Nat} (hk : k ≤ n) (z : Int) (hz : z = (k : Int)) :
    (QV.sl 25 (sl id n) (some (i64 z)) none none (some (own oc elem 1)) (.val (.slice (some ⟨id, k, none⟩) (n - k) (n - k)))).holds Tryd.prog SP D ids := fun M hM => by
  subst hz
  obtain ⟨e, h1, h2, h3, h4⟩ := info3
  refine ⟨_, rfl, ?_⟩
  have hM' : M.get id = some (own oc elem 1) := hM
  have b1 : Nat.beq n (n + 1) = false := by
    cases hb : Nat.beq n (n + 1)
    · rfl
    · exact absurd (Nat.eq_of_beq_eq_true hb) (by omega)
  have hb : (decide ((0 : Int) ≤ (k : Int)) && decide ((k : Int) ≤ (n : Int))) = true := by simp; omega
  unfold aslice sl
  simp only [Tryd.underlying25, h1, hM', abound, hb, h2, Option.isSome_none, Option.isNone_none, Bool.and_true, cond_false, cond_true, Int.toNat_natCast, Nat.beq_refl, b1, Bool.or_false, Bool.and_false, Nat.mul_one]
  rw [add_norm, Nat.zero_add]
theorem asn {SP : Specs} {D : Nat → Door} {ids : List Nat} (z : Int) (hz : z = 0) :
    (QV.sl 25 (.slice none 0 0) none (some (i64 z)) none none (.val (.slice none 0 0))).holds Tryd.prog SP D ids ∧ (QV.sl 25 (.slice none 0 0) (some (i64 z)) none none none (.val (.slice none 0 0))).holds Tryd.prog SP D ids := by
  subst hz
  obtain ⟨e, h1, h2, h3, h4⟩ := info3
  constructor <;> (intro M _; refine ⟨_, rfl, ?_⟩; unfold aslice; simp [Tryd.underlying25, h1, abound])

/- Walks, joined. -/
theorem go_append (es : List E) : ∀ (l1 l2 : List Int) (a c : Int) (ws : List Int), go es (l1 ++ l2) a c ws = match go es l1 a c ws with | some (a', c', ws') => go es l2 a' c' ws' | none => none
  | [], l2, a, c, ws => rfl
  | x :: l1, l2, a, c, ws => by
    simp only [List.cons_append, go]
    split
    · split
      · rename_i e he
        split
        · exact go_append es l1 l2 _ _ _
        · rfl
      · rfl
    · rfl
theorem go_ok {es : List E} {x a c : Int} {l ws : List Int} {e : E} (h1 : 0 ≤ x ∧ x < es.length) (h2 : es[x.toNat]? = some e) (h3 : e.f = a) : go es (x :: l) a c ws = go es l e.t (IntKind.wrap .i64 (c + e.c)) (ws ++ [e.m]) := by
  unfold go
  rw [if_pos h1, h2]
  simp only
  rw [if_pos h3]
  cases l <;> rfl
theorem go_bad {es : List E} {x a c : Int} {l ws : List Int} (h : ¬ ∃ e, (0 ≤ x ∧ x < es.length) ∧ es[x.toNat]? = some e ∧ e.f = a) : go es (x :: l) a c ws = none := by
  unfold go
  split
  · rename_i h1
    split
    · rename_i e he
      split
      · rename_i hf; exact absurd ⟨e, h1, he, hf⟩ h
      · rfl
    · rfl
  · rfl
def shift (c : Int) (ws : List Int) (r : Int × Int × List Int) : Int × Int × List Int := (r.1, c + r.2.1, ws ++ r.2.2)
theorem go_shift (es : List E) (hc : ∀ e ∈ es, 0 ≤ e.c ∧ e.c ≤ 2147483647) : ∀ (l : List Int) (a c : Int) (ws : List Int), 0 ≤ c → c + l.length * 2 ^ 31 ≤ 2 ^ 60 →
    go es l a c ws = (go es l a 0 []).map (shift c ws) ∧ ∀ r, go es l a 0 [] = some r → 0 ≤ r.2.1 ∧ r.2.1 ≤ l.length * 2 ^ 31 ∧ r.2.2.length = l.length
  | [], a, c, ws, _, _ => by simp [go, shift]
  | x :: l, a, c, ws, h0, h1 => by
    simp only [List.length_cons] at h1
    by_cases hx : ∃ e, (0 ≤ x ∧ x < es.length) ∧ es[x.toNat]? = some e ∧ e.f = a
    · obtain ⟨e, hx1, he, hf⟩ := hx
      have hec := hc e (List.mem_of_getElem? he)
      have ih1 := go_shift es hc l e.t (c + e.c) (ws ++ [e.m]) (by omega) (by omega)
      have ih2 := go_shift es hc l e.t (0 + e.c) ([] ++ [e.m]) (by omega) (by omega)
      rw [go_ok hx1 he hf, go_ok hx1 he hf, wr (z := c + e.c) (by omega), wr (z := 0 + e.c) (by omega), ih1.1, ih2.1]
      cases hg : go es l e.t 0 [] with
      | none => simp
      | some r =>
        obtain ⟨k1, k2, k3⟩ := ih1.2 r hg
        refine ⟨?_, fun r' hr' => ?_⟩
        · simp only [Option.map_some, shift, List.append_assoc, List.nil_append, Option.some.injEq, Prod.mk.injEq, and_true, true_and]
          omega
        · simp only [Option.map_some, Option.some.injEq] at hr'
          subst hr'
          simp only [shift, List.length_append, List.length_cons, List.length_nil, List.nil_append]
          omega
    · rw [go_bad hx, go_bad hx]; simp

structure Walked (N : Int) (es : List E) (kk : Nat) (d : D8) : Prop where
  at' : 0 ≤ d.2.1 ∧ d.2.1 < N
  mid : 0 ≤ d.2.2 ∧ d.2.2 < N
  all : ∃ c ws, go es d.1 0 0 [] = some (d.2.1, c, ws)
  part : ∃ c ws, go es (d.1.take kk) 0 0 [] = some (d.2.2, c, ws)

theorem walked_nxt {N : Int} {es : List E} {ps : List Int} {kk : Nat} (hf : ∀ e ∈ es, fitsP N e) {d d' : D8} (h : Walked N es kk d) (hn : nxt es ps kk d = some d') : Walked N es kk d' ∧ d'.1.length = d.1.length + 1 := by
  obtain ⟨ls, a, m⟩ := d
  unfold nxt at hn
  split at hn
  · split at hn
    · rename_i x l z ho hz
      split at hn
      · rename_i ej hej
        split at hn
        · rename_i e he
          cases hn
          obtain ⟨en, e2, rfl, hen, hef⟩ := outs_mem (es := es) (a := a) (j := es.length) (x := ej) (by simp only at ho; rw [ho]; exact List.mem_of_getElem? hej)
          simp only [Int.toNat_natCast] at he
          rw [hen] at he; cases he
          have hel : en < es.length := by
            by_cases hh : en < es.length
            · exact hh
            · rw [List.getElem?_eq_none (by omega)] at hen; cases hen
          have hfe := hf e (List.mem_of_getElem? hen)
          obtain ⟨c, ws, hall⟩ := h.all
          simp only at hall
          have hall' : go es (ls ++ [(en : Int)]) 0 0 [] = some (e.t, IntKind.wrap .i64 (c + e.c), ws ++ [e.m]) := by
            rw [go_append, hall]
            simp only [go]
            rw [if_pos ⟨by omega, by omega⟩]
            simp only [Int.toNat_natCast, hen, hef, if_true]
          refine ⟨⟨⟨hfe.2.2.1, hfe.2.2.2.1⟩, ?_, ⟨_, _, hall'⟩, ?_⟩, by simp⟩
          · simp only
            split
            · exact ⟨hfe.2.2.1, hfe.2.2.2.1⟩
            · exact h.mid
          · simp only
            split
            · rename_i hk
              rw [List.take_of_length_le (by simp; omega)]
              exact ⟨_, _, hall'⟩
            · rename_i hk
              have hk' : kk ≤ ls.length := by omega
              rw [List.take_append_of_le_length hk']
              exact h.part
        · cases hn
      · cases hn
    · cases hn
  · cases hn
theorem walked_run {N : Int} {es : List E} {ps : List Int} {kk : Nat} (hf : ∀ e ∈ es, fitsP N e) : ∀ (n : Nat) (d : D8), Walked N es kk d → Walked N es kk (runD es ps kk n d) ∧ (runD es ps kk n d).1.length ≤ d.1.length + n ∧ (runD es ps kk n d = d ∨ 0 < (runD es ps kk n d).1.length)
  | 0, d, h => ⟨h, Nat.le_refl _, .inl rfl⟩
  | n + 1, d, h => by
    cases hn : nxt es ps kk d with
    | none => rw [runD_none hn]; exact ⟨h, by omega, .inl rfl⟩
    | some d' =>
      obtain ⟨h1, h2⟩ := walked_nxt hf h hn
      rw [runD_some hn]
      obtain ⟨k1, k2, k3⟩ := walked_run hf n d' h1
      refine ⟨k1, by omega, .inr ?_⟩
      rcases k3 with k3 | k3
      · rw [k3]; omega
      · exact k3
end Go.Proofs.YtlmifmodnkhidaaDoor

open Go Go.Am Go.Proofs
namespace Go.Proofs.YtlmifmodnkhidaaDoor
set_option maxRecDepth 10000

theorem blk8 (N : Int) (e1 kk : Nat) (es : List E) (hes : es.length ≤ 100) (ps : List Int) (B : Nat) :
    BlkOk Tryd.prog [] B 0 (loopG (.loop loop8) (door8 [] 0) (SI N e1 kk es ps ([], 0, 0) 5) (.normal, SI N e1 kk es ps (runD es ps kk 20 ([], 0, 0)) 15)) := by
  refine loopG_ok (e := .exit 0) noNumP mixedP (fun d : D8 => SI N e1 kk es ps d 5) (fun d => d.1.length ≤ 20 ∧ runD es ps kk (20 - d.1.length) d = runD es ps kk 20 ([], 0, 0)) (fun d => 20 - d.1.length) (K := 15) (by intro h; cases h) ⟨Nat.zero_le _, rfl⟩ (show (4 : Nat) ≤ 15 by decide) rfl rfl rfl ?_ (step8 N e1 kk es hes ps _ B)
  intro id hid hn
  have h5 : id < 4 := hid
  simp only [door8, List.mem_cons, List.not_mem_nil, or_false] at hn
  have h3 : id = 1 ∨ id = 2 := by omega
  show (blkTree (blks8 es.length e1 (ints ps) (ecOf es) N (iB 4 (runD es ps kk 20 ([], 0, 0)).1))).get id = (blkTree (blks8 es.length e1 (ints ps) (ecOf es) N [])).get id
  cases (runD es ps kk 20 ([], 0, 0)).1 with
  | nil => rcases h3 with rfl | rfl <;> rfl
  | cons x l => rcases h3 with rfl | rfl <;> rfl

section
variable {bs : List (Nat × (Code → St → Option (AExit × St)))} {ids : List Nat} {looks : List (Option ABlk)}
theorem b18 (x n : Int) (hn : 0 < n) (hn2 : n < 2 ^ 62) (v : Int) (hv : modI x n = v) : (QV.cr 18 [i64 x, i64 n] looks (.val (i64 v))).holds Tryd.prog (SP8 bs) (door8 []) ids := fun M _ => call18 rfl x n hn hn2 v hv M
/- A walk's call. -/
theorem gW_ss {M : Mem} {N fr tt : Int} {a b ob ne nl ca cb : Nat} {A Bk : ABlk} {es : List E} {ls : List Int} (hA : A.cs = ecOf es) (hB : ints? ((Bk.cs.drop ob).take nl) = some ls) (h0 : ob + nl ≤ Bk.cs.length) (h1 : es.length = ne) (h2 : ls.length = nl) (h3 : nl ≤ 2 ^ 30 - 1)
    (h4 : A.esz = 4) (h5 : Bk.esz = 1) (hM : M.get a = some A) (hM2 : M.get b = some Bk) : gW [.agg ⟨[i64 N, .slice (some ⟨a, 0, none⟩) ne ca]⟩, i64 fr, i64 tt, .slice (some ⟨b, ob, none⟩) nl cb] M = some (out24 M (walkR N es fr tt ls)) := by
  subst h1; subst h2
  have e1 : edges? ((A.cs.drop 0).take (es.length * 4)) = some es := by
    rw [List.drop_zero, hA, ← ecOf_len, List.take_length]; exact edges?_ecOf es
  have e3 : ok24b A Bk 0 ob es.length ls.length es ls = true := by
    unfold ok24b
    rw [hA, h4, h5, ecOf_len, Nat.ble_eq_true_of_le h3, Nat.ble_eq_true_of_le (show 0 + es.length * 4 ≤ es.length * 4 by omega), Nat.ble_eq_true_of_le h0, Nat.beq_refl, Nat.beq_refl]
    rfl
  unfold gW g24
  simp only [hM, hM2, e1, hB, e3, cond_true]
theorem acW {M : Mem} {args : List Value} {v : Value} (h : gW args { M with log := [] } = some (v, { M with log := [] })) : acall (onlySpecs (SP8 bs)) 24 args M = some (1, .val v, M) := acall_same h
theorem acWa {M : Mem} {args : List Value} {v : Value} {b : ABlk} (h : gW args { M with log := [] } = some (v, ({ M with log := [] } : Mem).alloc b)) : acall (onlySpecs (SP8 bs)) 24 args M = some (1, .val v, M.alloc b) := acall_alloc h
/- No walk's call. -/
theorem walk0 {N : Int} (hN : 0 < N) : walkR N [] 0 0 [] = some (0, []) := by
  unfold walkR
  rw [if_pos ⟨⟨by omega, hN⟩, by omega, hN⟩]
  simp [go]
theorem w0n (N : Int) (hN : 0 < N) : (QV.cr 24 [.agg ⟨[i64 N, .slice none 0 0]⟩, i64 0, i64 0, .slice none 0 0] looks (.val (.tuple ⟨[i64 0, .slice none 0 0, .bool true]⟩))).holds Tryd.prog (SP8 bs) (door8 []) ids := fun M _ => acW (by
  show some (out24 _ (walkR N [] 0 0 [])) = _
  rw [walk0 hN]; rfl)
theorem w0s (N : Int) (hN : 0 < N) (ne : Nat) : (QV.cr 24 [.agg ⟨[i64 N, sl 2 ne]⟩, i64 0, i64 0, .slice none 0 0] looks (.val (.tuple ⟨[i64 0, .slice none 0 0, .bool true]⟩))).holds Tryd.prog (SP8 bs) (door8 []) ids := fun M _ => acW (by
  show some (out24 _ (walkR N [] 0 0 [])) = _
  rw [walk0 hN]; rfl)
end
theorem parts_get {M : Mem} {v : Value} {xs : List Int} {id o n c : Nat} {A : ABlk} (hv : v = .slice (some ⟨id, o, none⟩) n c) (hM : M.get id = some A) (hA : ints? ((A.cs.drop o).take n) = some xs) (h1 : xs.length = n) (h2 : o + n ≤ A.cs.length) (h3 : A.esz = 1) (h4 : n ≤ 2 ^ 60) : intsAt M v = some xs := by
  subst hv
  unfold intsAt
  simp only [hM, hA]
  rw [h1, h3, Nat.beq_refl, Nat.ble_eq_true_of_le h2, Nat.ble_eq_true_of_le h4]
  rfl
theorem ints?_take (l : List Int) (o n : Nat) : ints? (((ints l).drop o).take n) = some ((l.drop o).take n) := by
  rw [show ((ints l).drop o).take n = ints ((l.drop o).take n) by simp [ints, List.map_drop, List.map_take]]
  exact ints?_ints _

section
variable {bs : List (Nat × (Code → St → Option (AExit × St)))} {ids : List Nat} {looks : List (Option ABlk)}
theorem c24r {N a b c : Int} {es : List E} {ls xs : List Int} {o n : Nat} (hw : walkR N es a b xs = some (c, [])) (hM : ∀ M : Mem, ids.map M.get = looks → M.get 2 = some (own (ecOf es) 31 4) ∧ M.get 4 = some (own (ints ls) 3 1)) (hx : xs = (ls.drop o).take n) (hl : xs.length = n) (hb : o + n ≤ ls.length) (h20 : ls.length ≤ 20) :
    (QV.cr 24 [.agg ⟨[i64 N, sl 2 es.length]⟩, i64 a, i64 b, .slice (some ⟨4, o, none⟩) n n] looks (.val (.tuple ⟨[i64 c, .slice none 0 0, .bool true]⟩))).holds Tryd.prog (SP8 bs) (door8 []) ids := fun M hm => acW (by
  obtain ⟨h1, h2⟩ := hM M hm
  refine (gW_ss (M := { M with log := [] }) (A := own (ecOf es) 31 4) (Bk := own (ints ls) 3 1) (es := es) (ls := xs) rfl (by rw [hx]; exact ints?_take ls o n) (by simp only [ints_len]; exact hb) rfl hl (by omega) rfl rfl h1 h2).trans ?_
  rw [hw]; rfl)
theorem c24a {N a b c : Int} {es : List E} {ls xs w : List Int} {o n nx : Nat} (hw : walkR N es a b xs = some (c, w)) (hn : w ≠ []) (hM : ∀ M : Mem, ids.map M.get = looks → M.get 2 = some (own (ecOf es) 31 4) ∧ M.get 4 = some (own (ints ls) 3 1)) (hx : xs = (ls.drop o).take n) (hl : xs.length = n) (hb : o + n ≤ ls.length) (h20 : ls.length ≤ 20) :
    (QV.ca 24 [.agg ⟨[i64 N, sl 2 es.length]⟩, i64 a, i64 b, .slice (some ⟨4, o, none⟩) n n] looks nx (.val (.tuple ⟨[i64 c, sl nx w.length, .bool true]⟩)) (own (ints w) 3 1)).holds Tryd.prog (SP8 bs) (door8 []) ids := fun M hm hnx => acWa (by
  obtain ⟨h1, h2⟩ := hM M hm
  refine (gW_ss (M := { M with log := [] }) (A := own (ecOf es) 31 4) (Bk := own (ints ls) 3 1) (es := es) (ls := xs) rfl (by rw [hx]; exact ints?_take ls o n) (by simp only [ints_len]; exact hb) rfl hl (by omega) rfl rfl h1 h2).trans ?_
  rw [hw]
  cases w with
  | nil => exact absurd rfl hn
  | cons y ys =>
    show some (Value.tuple ⟨[i64 c, sl M.next (ys.length + 1), .bool true]⟩, _) = _
    rw [hnx]; rfl)
theorem c26 {sv wv : Value} {xs : List Int} (h1 : ∀ M : Mem, ids.map M.get = looks → intsAt M sv = some xs ∧ intsAt M wv = some xs) : (QV.cr 26 [sv, wv] looks (.val (.bool true))).holds Tryd.prog (SP8 bs) (door8 []) ids := fun M hm => acall_same (by
  obtain ⟨k1, k2⟩ := h1 M hm
  have k1' : intsAt ({ M with log := [] } : Mem) sv = some xs := k1
  have k2' : intsAt ({ M with log := [] } : Mem) wv = some xs := k2
  unfold onlySpecs viaSpecs
  rw [show (SP8 bs).calls 26 = some gI from rfl]
  simp only
  unfold gI
  simp only [k1', k2', eqB, decide_true])
end
theorem at_own {M : Mem} {id n c : Nat} {xs : List Int} {oc : List Value} (hM : M.get id = some (own oc 3 1)) (hoc : oc = ints xs) (h : xs.length = n) (hb : n ≤ 2 ^ 60) : intsAt M (.slice (some ⟨id, 0, none⟩) n c) = some xs := by
  subst hoc
  refine parts_get rfl hM ?_ h (by simp only [ints_len]; omega) rfl hb
  show ints? (((ints xs).drop 0).take n) = _
  rw [ints?_take, List.drop_zero, List.take_of_length_le (by omega)]

/- What the walk that was gathered comes to, in its parts. -/
structure Parts (N : Int) (es : List E) (ls : List Int) (k2 : Nat) (a m : Int) where
  c1 : Int
  c2 : Int
  w1 : List Int
  w2 : List Int
  h1 : walkR N es 0 m (ls.take k2) = some (c1, w1)
  h2 : walkR N es m a (ls.drop k2) = some (c2, w2)
  h3 : walkR N es 0 a ls = some (c1 + c2, w1 ++ w2)
  l1 : w1.length = k2
  l2 : w2.length = ls.length - k2
  b1 : 0 ≤ c1 ∧ c1 ≤ 2 ^ 40
  b2 : 0 ≤ c2 ∧ c2 ≤ 2 ^ 40
theorem parts_of {N : Int} {es : List E} {kk : Nat} {d : D8} (hf : ∀ e ∈ es, fitsP N e) (hN : 0 < N) (h : Walked N es kk d) (h20 : d.1.length ≤ 20) {k2 : Nat} (hk : k2 = min kk d.1.length) : Nonempty (Parts N es d.1 k2 d.2.1 d.2.2) := by
  obtain ⟨ls, a, m⟩ := d
  obtain ⟨c3, w3, hall⟩ := h.all
  obtain ⟨c1, w1, hpart⟩ := h.part
  simp only at hall hpart h20 hk
  have ha := h.at'
  have hm := h.mid
  simp only at ha hm
  have htk : ls.take kk = ls.take k2 := by
    subst hk
    by_cases hh : kk ≤ ls.length
    · rw [Nat.min_eq_left hh]
    · rw [Nat.min_eq_right (by omega), List.take_of_length_le (by omega), List.take_of_length_le (Nat.le_refl _)]
  rw [htk] at hpart
  have hcost : ∀ e ∈ es, 0 ≤ e.c ∧ e.c ≤ 2147483647 := fun e he => (hf e he).2.2.2.2.2.2
  have hs1 := (go_shift es hcost (ls.take k2) 0 0 [] (by omega) (by simp only [List.length_take]; omega)).2 _ hpart
  simp only [List.length_take] at hs1
  have hsp := hall
  rw [← List.take_append_drop k2 ls, go_append, hpart] at hsp
  simp only at hsp
  have hs2 := go_shift es hcost (ls.drop k2) m c1 w1 hs1.1 (by simp only [List.length_drop]; omega)
  rw [hs2.1] at hsp
  cases hg : go es (ls.drop k2) m 0 [] with
  | none => rw [hg] at hsp; cases hsp
  | some r =>
    obtain ⟨a', c2, w2⟩ := r
    rw [hg] at hsp
    simp only [Option.map_some, shift, Option.some.injEq, Prod.mk.injEq] at hsp
    obtain ⟨rfl, rfl, rfl⟩ := hsp
    have hb2 := hs2.2 _ hg
    simp only [List.length_drop] at hb2
    have hw : ∀ (fr tt c : Int) (xs w : List Int), (0 ≤ fr ∧ fr < N) → (0 ≤ tt ∧ tt < N) → go es xs fr 0 [] = some (tt, c, w) → walkR N es fr tt xs = some (c, w) := fun fr tt c xs w hf1 hf2 hg1 => by
      unfold walkR
      rw [if_pos ⟨hf1, hf2⟩, hg1]
      simp
    show Nonempty (Parts N es ls k2 a' m)
    exact ⟨⟨c1, c2, w1, w2, hw _ _ _ _ _ ⟨by omega, hN⟩ hm hpart, hw _ _ _ _ _ hm ha hg, hw _ _ _ _ _ ⟨by omega, hN⟩ ha hall, by omega, by omega, by omega, by omega⟩⟩

theorem main8nn (sz cut : Int) (n0 e1 : Nat) (ns ps : List Int) : ∃ SP M', (∀ B, SpecsOk Tryd.prog [] B SP) ∧ Go.Am.arun Tryd.prog [] SP 90 8 [i64 sz, .slice none 0 0, .slice none 0 0, i64 cut] (startMem [] 2) = some (.bool true, M') := by
  have fin : ∀ {bs : List (Nat × (Code → St → Option (AExit × St)))} {F : List Fact} {ids : List Nat} {q : List QV}, (∀ B, ∀ p ∈ bs, BlkOk Tryd.prog [] B p.1 p.2) → run8 sz cut (.slice none 0 0) (.slice none 0 0) [] (SP8 bs) ids F = some (.ret, (), some (.bool true), q) →
      (∀ p ∈ q, p.holds Tryd.prog (SP8 bs) (door8 []) ids) → ∃ SP M', (∀ B, SpecsOk Tryd.prog [] B SP) ∧ Go.Am.arun Tryd.prog [] SP 90 8 [i64 sz, .slice none 0 0, .slice none 0 0, i64 cut] (startMem [] 2) = some (.bool true, M') := fun hbs hx hq => by
    unfold run8 at hx
    obtain ⟨M0, k1, _⟩ := run_of (look := fun _ => ()) Tryd.func8 body8 (by kernel_rfl) hx (.inr rfl) hq
    exact ⟨_, M0, specs8 hbs, k1⟩
  have hsz := sizeN_range sz
  have hkr := modI_range (x := cut) (n := 10) (by decide)
  obtain ⟨kk, hkk⟩ : ∃ kk : Nat, modI cut 10 = (kk : Int) := ⟨(modI cut 10).toNat, by omega⟩
  rw [hkk] at hkr
  have q18 : ∀ (bs : List (Nat × (Code → St → Option (AExit × St)))) (ids : List Nat) (looks : List (Option ABlk)), (QV.cr 18 [i64 cut, i64 10] looks (.val (i64 (kk : Nat)))).holds Tryd.prog (SP8 bs) (door8 []) ids := fun _ _ _ => b18 cut 10 (by decide) (by decide) _ hkk
  have hmn0 : (if (0 : Int) < (kk : Int) then 0 else (kk : Int)) = 0 := by split <;> omega
  have hI : ∀ (bs : List (Nat × (Code → St → Option (AExit × St)))) (a b c d : Nat) (x y z w : Option ABlk) (id : Nat), (QV.cr 26 [.slice (some ⟨id, 0, none⟩) 0 1, .slice none 0 0] [x, y, z, w, some (own [] 3 1)] (.val (.bool true))).holds Tryd.prog (SP8 bs) (door8 []) [a, b, c, d, id] := fun bs a b c d x y z w id => c26 (xs := []) fun M hM => by
    simp only [List.map_cons, List.map_nil, List.cons.injEq, and_true] at hM
    exact ⟨at_own hM.2.2.2.2 rfl rfl (by decide), rfl⟩
  have h15 : ∀ (ids : List Nat) (looks : List (Option ABlk)), (QV.cr 15 [i64 sz, .slice none 0 0, i64 2] looks (.val (.agg ⟨[i64 (sizeN sz), .slice none 0 0]⟩))).holds Tryd.prog (SP8 []) (door8 []) ids := fun _ looks M _ => acall_same rfl
  exact fin (bs := []) (fun _ p hp => by cases hp) (mj_nn_A kk (sizeN sz) sz cut) (by simp only [List.forall_mem_cons]; (repeat' apply And.intro) <;> first | exact w0n _ (by omega) | exact q18 _ _ _ | exact (asn _ hmn0).1 | exact (asn _ hmn0).2 | exact h15 _ _ | exact hI _ _ _ _ _ _ _ _ _ _ | (intro x hx; cases hx))

theorem main8ns (sz cut : Int) (n0 e1 : Nat) (ns ps : List Int) : ∃ SP M', (∀ B, SpecsOk Tryd.prog [] B SP) ∧ Go.Am.arun Tryd.prog [] SP 90 8 [i64 sz, .slice none 0 0, sl 1 ps.length, i64 cut] (startMem [(1, ro (ints ps) e1 1)] 2) = some (.bool true, M') := by
  have fin : ∀ {bs : List (Nat × (Code → St → Option (AExit × St)))} {F : List Fact} {ids : List Nat} {q : List QV}, (∀ B, ∀ p ∈ bs, BlkOk Tryd.prog [] B p.1 p.2) → run8 sz cut (.slice none 0 0) (sl 1 ps.length) [(1, ro (ints ps) e1 1)] (SP8 bs) ids F = some (.ret, (), some (.bool true), q) →
      (∀ p ∈ q, p.holds Tryd.prog (SP8 bs) (door8 []) ids) → ∃ SP M', (∀ B, SpecsOk Tryd.prog [] B SP) ∧ Go.Am.arun Tryd.prog [] SP 90 8 [i64 sz, .slice none 0 0, sl 1 ps.length, i64 cut] (startMem [(1, ro (ints ps) e1 1)] 2) = some (.bool true, M') := fun hbs hx hq => by
    unfold run8 at hx
    obtain ⟨M0, k1, _⟩ := run_of (look := fun _ => ()) Tryd.func8 body8 (by kernel_rfl) hx (.inr rfl) hq
    exact ⟨_, M0, specs8 hbs, k1⟩
  have hsz := sizeN_range sz
  have hkr := modI_range (x := cut) (n := 10) (by decide)
  obtain ⟨kk, hkk⟩ : ∃ kk : Nat, modI cut 10 = (kk : Int) := ⟨(modI cut 10).toNat, by omega⟩
  rw [hkk] at hkr
  have q18 : ∀ (bs : List (Nat × (Code → St → Option (AExit × St)))) (ids : List Nat) (looks : List (Option ABlk)), (QV.cr 18 [i64 cut, i64 10] looks (.val (i64 (kk : Nat)))).holds Tryd.prog (SP8 bs) (door8 []) ids := fun _ _ _ => b18 cut 10 (by decide) (by decide) _ hkk
  have hmn0 : (if (0 : Int) < (kk : Int) then 0 else (kk : Int)) = 0 := by split <;> omega
  have hI : ∀ (bs : List (Nat × (Code → St → Option (AExit × St)))) (a b c d : Nat) (x y z w : Option ABlk) (id : Nat), (QV.cr 26 [.slice (some ⟨id, 0, none⟩) 0 1, .slice none 0 0] [x, y, z, w, some (own [] 3 1)] (.val (.bool true))).holds Tryd.prog (SP8 bs) (door8 []) [a, b, c, d, id] := fun bs a b c d x y z w id => c26 (xs := []) fun M hM => by
    simp only [List.map_cons, List.map_nil, List.cons.injEq, and_true] at hM
    exact ⟨at_own hM.2.2.2.2 rfl rfl (by decide), rfl⟩
  have h15 : ∀ (ids : List Nat) (looks : List (Option ABlk)), (QV.cr 15 [i64 sz, .slice none 0 0, i64 2] looks (.val (.agg ⟨[i64 (sizeN sz), .slice none 0 0]⟩))).holds Tryd.prog (SP8 []) (door8 []) ids := fun _ looks M _ => acall_same rfl
  by_cases hp0 : 0 < ps.length
  · exact fin (bs := []) (fun _ p hp => by cases hp) (mj_ns_A1 ps.length kk e1 (ints ps) (sizeN sz) sz cut) (by simp only [List.forall_mem_cons]; (repeat' apply And.intro) <;> first | exact w0n _ (by omega) | exact q18 _ _ _ | exact (asn _ hmn0).1 | exact (asn _ hmn0).2 | exact h15 _ _ | exact hI _ _ _ _ _ _ _ _ _ _ | (simp only [QV.holds]; rw [decide_eq_true (show (0 : Int) < (ps.length : Int) by omega)]) | (intro x hx; cases hx))
  · exact fin (bs := []) (fun _ p hp => by cases hp) (mj_ns_A0 ps.length kk e1 (ints ps) (sizeN sz) sz cut) (by simp only [List.forall_mem_cons]; (repeat' apply And.intro) <;> first | exact w0n _ (by omega) | exact q18 _ _ _ | exact (asn _ hmn0).1 | exact (asn _ hmn0).2 | exact h15 _ _ | exact hI _ _ _ _ _ _ _ _ _ _ | (simp only [QV.holds]; rw [decide_eq_false (show ¬ (0 : Int) < (ps.length : Int) by omega)]) | (intro x hx; cases hx))

theorem main8sn (sz cut : Int) (n0 e1 : Nat) (ns ps : List Int) : ∃ SP M', (∀ B, SpecsOk Tryd.prog [] B SP) ∧ Go.Am.arun Tryd.prog [] SP 90 8 [i64 sz, sl 0 ns.length, .slice none 0 0, i64 cut] (startMem [(0, ro (ints ns) n0 1)] 2) = some (.bool true, M') := by
  have fin : ∀ {bs : List (Nat × (Code → St → Option (AExit × St)))} {F : List Fact} {ids : List Nat} {q : List QV}, (∀ B, ∀ p ∈ bs, BlkOk Tryd.prog [] B p.1 p.2) → run8 sz cut (sl 0 ns.length) (.slice none 0 0) [(0, ro (ints ns) n0 1)] (SP8 bs) ids F = some (.ret, (), some (.bool true), q) →
      (∀ p ∈ q, p.holds Tryd.prog (SP8 bs) (door8 []) ids) → ∃ SP M', (∀ B, SpecsOk Tryd.prog [] B SP) ∧ Go.Am.arun Tryd.prog [] SP 90 8 [i64 sz, sl 0 ns.length, .slice none 0 0, i64 cut] (startMem [(0, ro (ints ns) n0 1)] 2) = some (.bool true, M') := fun hbs hx hq => by
    unfold run8 at hx
    obtain ⟨M0, k1, _⟩ := run_of (look := fun _ => ()) Tryd.func8 body8 (by kernel_rfl) hx (.inr rfl) hq
    exact ⟨_, M0, specs8 hbs, k1⟩
  have hsz := sizeN_range sz
  have hkr := modI_range (x := cut) (n := 10) (by decide)
  obtain ⟨kk, hkk⟩ : ∃ kk : Nat, modI cut 10 = (kk : Int) := ⟨(modI cut 10).toNat, by omega⟩
  rw [hkk] at hkr
  have q18 : ∀ (bs : List (Nat × (Code → St → Option (AExit × St)))) (ids : List Nat) (looks : List (Option ABlk)), (QV.cr 18 [i64 cut, i64 10] looks (.val (i64 (kk : Nat)))).holds Tryd.prog (SP8 bs) (door8 []) ids := fun _ _ _ => b18 cut 10 (by decide) (by decide) _ hkk
  have hmn0 : (if (0 : Int) < (kk : Int) then 0 else (kk : Int)) = 0 := by split <;> omega
  have hI : ∀ (bs : List (Nat × (Code → St → Option (AExit × St)))) (a b c d : Nat) (x y z w : Option ABlk) (id : Nat), (QV.cr 26 [.slice (some ⟨id, 0, none⟩) 0 1, .slice none 0 0] [x, y, z, w, some (own [] 3 1)] (.val (.bool true))).holds Tryd.prog (SP8 bs) (door8 []) [a, b, c, d, id] := fun bs a b c d x y z w id => c26 (xs := []) fun M hM => by
    simp only [List.map_cons, List.map_nil, List.cons.injEq, and_true] at hM
    exact ⟨at_own hM.2.2.2.2 rfl rfl (by decide), rfl⟩
  have h15call : ∀ (bs : List (Nat × (Code → St → Option (AExit × St)))) (M : Mem), M.get 0 = some (ro (ints ns) n0 1) → onlySpecs (SP8 bs) 15 [i64 sz, sl 0 ns.length, i64 2] M = some (out15 M (sizeN sz) (makeE (sizeN sz) 2 ns)) := fun bs M hM => by
    have e1 : ints? (((ints ns).drop 0).take ns.length) = some ns := by
      rw [List.drop_zero, ← ints_len, List.take_length]; exact ints?_ints ns
    have e3 : (Nat.beq ns.length ns.length && Nat.ble (0 + ns.length) (ints ns).length && Nat.beq 1 1) = true := by
      rw [ints_len, Nat.beq_refl, Nat.ble_eq_true_of_le (show 0 + ns.length ≤ ns.length by omega)]; rfl
    unfold onlySpecs viaSpecs
    rw [show (SP8 bs).calls 15 = some g15 from rfl]
    simp only
    unfold g15 sl
    simp only [hM, e1, e3, cond_true]
  have hmk := make_ok sz 2 ns
  have hml := make_len (sizeN sz) 2 ns
  cases hE : makeE (sizeN sz) 2 ns with
  | nil =>
    have h15 : ∀ (t : List Nat) (x : List (Option ABlk)), (QV.cr 15 [i64 sz, sl 0 ns.length, i64 2] (some (ro (ints ns) n0 1) :: x) (.val (.agg ⟨[i64 (sizeN sz), .slice none 0 0]⟩))).holds Tryd.prog (SP8 []) (door8 []) (0 :: t) := fun t x M hM => by
      simp only [List.map_cons, List.cons.injEq] at hM
      refine acall_same ?_
      rw [h15call [] _ (show ({ M with log := [] } : Mem).get 0 = _ from hM.1), hE]
      rfl
    exact fin (bs := []) (fun _ p hp => by cases hp) (mj_sn_A kk ns.length (ints ns) (sizeN sz) sz cut n0) (by simp only [List.forall_mem_cons]; (repeat' apply And.intro) <;> first | exact w0n _ (by omega) | exact q18 _ _ _ | exact (asn _ hmn0).1 | exact (asn _ hmn0).2 | exact h15 _ _ | exact hI _ _ _ _ _ _ _ _ _ _ | (intro x hx; cases hx))
  | cons x0 l0 =>
    generalize hes : makeE (sizeN sz) 2 ns = es at hE hmk hml
    have hpos : 0 < es.length := by rw [hE]; simp
    have hfit : ∀ e ∈ es, fitsP (sizeN sz) e := (of_decide_eq_true hmk).2.2.2
    have h15 : ∀ (bs : List (Nat × (Code → St → Option (AExit × St)))) (t : List Nat) (x : List (Option ABlk)), (QV.ca 15 [i64 sz, sl 0 ns.length, i64 2] (some (ro (ints ns) n0 1) :: x) 2 (.val (.agg ⟨[i64 (sizeN sz), sl 2 es.length]⟩)) (own (ecOf es) 31 4)).holds Tryd.prog (SP8 bs) (door8 []) (0 :: t) := fun bs t x M hM hnx => by
      simp only [List.map_cons, List.cons.injEq] at hM
      refine acall_alloc ?_
      rw [h15call bs _ (show ({ M with log := [] } : Mem).get 0 = _ from hM.1), hes, hE]
      show some (netV (sizeN sz) M.next (x0 :: l0), _) = _
      rw [hnx]
      rfl
    exact fin (bs := []) (fun _ p hp => by cases hp) (mj_sn_Bn es.length kk ns.length (ecOf es) (ints ns) (sizeN sz) sz cut n0) (by simp only [List.forall_mem_cons]; (repeat' apply And.intro) <;> first | exact w0s _ (by omega) _ | exact q18 _ _ _ | exact (asn _ hmn0).1 | exact (asn _ hmn0).2 | exact h15 _ _ _ | exact hI _ _ _ _ _ _ _ _ _ _ | (intro x hx; cases hx))

theorem main8ss (sz cut : Int) (n0 e1 : Nat) (ns ps : List Int) : ∃ SP M', (∀ B, SpecsOk Tryd.prog [] B SP) ∧ Go.Am.arun Tryd.prog [] SP 90 8 [i64 sz, sl 0 ns.length, sl 1 ps.length, i64 cut] (startMem [(0, ro (ints ns) n0 1), (1, ro (ints ps) e1 1)] 2) = some (.bool true, M') := by
  have fin : ∀ {bs : List (Nat × (Code → St → Option (AExit × St)))} {F : List Fact} {ids : List Nat} {q : List QV}, (∀ B, ∀ p ∈ bs, BlkOk Tryd.prog [] B p.1 p.2) → run8 sz cut (sl 0 ns.length) (sl 1 ps.length) [(0, ro (ints ns) n0 1), (1, ro (ints ps) e1 1)] (SP8 bs) ids F = some (.ret, (), some (.bool true), q) →
      (∀ p ∈ q, p.holds Tryd.prog (SP8 bs) (door8 []) ids) → ∃ SP M', (∀ B, SpecsOk Tryd.prog [] B SP) ∧ Go.Am.arun Tryd.prog [] SP 90 8 [i64 sz, sl 0 ns.length, sl 1 ps.length, i64 cut] (startMem [(0, ro (ints ns) n0 1), (1, ro (ints ps) e1 1)] 2) = some (.bool true, M') := fun hbs hx hq => by
    unfold run8 at hx
    obtain ⟨M0, k1, _⟩ := run_of (look := fun _ => ()) Tryd.func8 body8 (by kernel_rfl) hx (.inr rfl) hq
    exact ⟨_, M0, specs8 hbs, k1⟩
  have hsz := sizeN_range sz
  have hkr := modI_range (x := cut) (n := 10) (by decide)
  obtain ⟨kk, hkk⟩ : ∃ kk : Nat, modI cut 10 = (kk : Int) := ⟨(modI cut 10).toNat, by omega⟩
  rw [hkk] at hkr
  have q18 : ∀ (bs : List (Nat × (Code → St → Option (AExit × St)))) (ids : List Nat) (looks : List (Option ABlk)), (QV.cr 18 [i64 cut, i64 10] looks (.val (i64 (kk : Nat)))).holds Tryd.prog (SP8 bs) (door8 []) ids := fun _ _ _ => b18 cut 10 (by decide) (by decide) _ hkk
  have hmn0 : (if (0 : Int) < (kk : Int) then 0 else (kk : Int)) = 0 := by split <;> omega
  have hI : ∀ (bs : List (Nat × (Code → St → Option (AExit × St)))) (a b c d : Nat) (x y z w : Option ABlk) (id : Nat), (QV.cr 26 [.slice (some ⟨id, 0, none⟩) 0 1, .slice none 0 0] [x, y, z, w, some (own [] 3 1)] (.val (.bool true))).holds Tryd.prog (SP8 bs) (door8 []) [a, b, c, d, id] := fun bs a b c d x y z w id => c26 (xs := []) fun M hM => by
    simp only [List.map_cons, List.map_nil, List.cons.injEq, and_true] at hM
    exact ⟨at_own hM.2.2.2.2 rfl rfl (by decide), rfl⟩
  have h15call : ∀ (bs : List (Nat × (Code → St → Option (AExit × St)))) (M : Mem), M.get 0 = some (ro (ints ns) n0 1) → onlySpecs (SP8 bs) 15 [i64 sz, sl 0 ns.length, i64 2] M = some (out15 M (sizeN sz) (makeE (sizeN sz) 2 ns)) := fun bs M hM => by
    have e1 : ints? (((ints ns).drop 0).take ns.length) = some ns := by
      rw [List.drop_zero, ← ints_len, List.take_length]; exact ints?_ints ns
    have e3 : (Nat.beq ns.length ns.length && Nat.ble (0 + ns.length) (ints ns).length && Nat.beq 1 1) = true := by
      rw [ints_len, Nat.beq_refl, Nat.ble_eq_true_of_le (show 0 + ns.length ≤ ns.length by omega)]; rfl
    unfold onlySpecs viaSpecs
    rw [show (SP8 bs).calls 15 = some g15 from rfl]
    simp only
    unfold g15 sl
    simp only [hM, e1, e3, cond_true]
  have hmk := make_ok sz 2 ns
  have hml := make_len (sizeN sz) 2 ns
  cases hE : makeE (sizeN sz) 2 ns with
  | nil =>
    have h15 : ∀ (t : List Nat) (x : List (Option ABlk)), (QV.cr 15 [i64 sz, sl 0 ns.length, i64 2] (some (ro (ints ns) n0 1) :: x) (.val (.agg ⟨[i64 (sizeN sz), .slice none 0 0]⟩))).holds Tryd.prog (SP8 []) (door8 []) (0 :: t) := fun t x M hM => by
      simp only [List.map_cons, List.cons.injEq] at hM
      refine acall_same ?_
      rw [h15call [] _ (show ({ M with log := [] } : Mem).get 0 = _ from hM.1), hE]
      rfl
    by_cases hp0 : 0 < ps.length
    · exact fin (bs := []) (fun _ p hp => by cases hp) (mj_ss_A1 ps.length kk e1 ns.length (ints ps) (ints ns) (sizeN sz) sz cut n0) (by simp only [List.forall_mem_cons]; (repeat' apply And.intro) <;> first | exact w0n _ (by omega) | exact q18 _ _ _ | exact (asn _ hmn0).1 | exact (asn _ hmn0).2 | exact h15 _ _ | exact hI _ _ _ _ _ _ _ _ _ _ | (simp only [QV.holds]; rw [decide_eq_true (show (0 : Int) < (ps.length : Int) by omega)]) | (intro x hx; cases hx))
    · exact fin (bs := []) (fun _ p hp => by cases hp) (mj_ss_A0 ps.length kk e1 ns.length (ints ps) (ints ns) (sizeN sz) sz cut n0) (by simp only [List.forall_mem_cons]; (repeat' apply And.intro) <;> first | exact w0n _ (by omega) | exact q18 _ _ _ | exact (asn _ hmn0).1 | exact (asn _ hmn0).2 | exact h15 _ _ | exact hI _ _ _ _ _ _ _ _ _ _ | (simp only [QV.holds]; rw [decide_eq_false (show ¬ (0 : Int) < (ps.length : Int) by omega)]) | (intro x hx; cases hx))
  | cons x0 l0 =>
    generalize hes : makeE (sizeN sz) 2 ns = es at hE hmk hml
    have hpos : 0 < es.length := by rw [hE]; simp
    have hfit : ∀ e ∈ es, fitsP (sizeN sz) e := (of_decide_eq_true hmk).2.2.2
    have h15 : ∀ (bs : List (Nat × (Code → St → Option (AExit × St)))) (t : List Nat) (x : List (Option ABlk)), (QV.ca 15 [i64 sz, sl 0 ns.length, i64 2] (some (ro (ints ns) n0 1) :: x) 2 (.val (.agg ⟨[i64 (sizeN sz), sl 2 es.length]⟩)) (own (ecOf es) 31 4)).holds Tryd.prog (SP8 bs) (door8 []) (0 :: t) := fun bs t x M hM hnx => by
      simp only [List.map_cons, List.cons.injEq] at hM
      refine acall_alloc ?_
      rw [h15call bs _ (show ({ M with log := [] } : Mem).get 0 = _ from hM.1), hes, hE]
      show some (netV (sizeN sz) M.next (x0 :: l0), _) = _
      rw [hnx]
      rfl
    have hw0 : Walked (sizeN sz) es kk ([], 0, 0) := ⟨⟨by simp, by simp only; omega⟩, ⟨by simp, by simp only; omega⟩, ⟨0, [], rfl⟩, ⟨0, [], by simp [go]⟩⟩
    obtain ⟨hW, hlen, hne⟩ := walked_run (ps := ps) hfit 20 ([], 0, 0) hw0
    have hblk : ∀ B, ∀ p ∈ [(0, loopG (.loop loop8) (door8 [] 0) (SI (sizeN sz) e1 kk es ps ([], 0, 0) 5) (.normal, SI (sizeN sz) e1 kk es ps (runD es ps kk 20 ([], 0, 0)) 15))], BlkOk Tryd.prog [] B p.1 p.2 := fun B p hp => by
      rw [List.mem_singleton.1 hp]; exact blk8 (sizeN sz) e1 kk es (by omega) ps B
    have hbk : ∀ (st : St), st = SI (sizeN sz) e1 kk es ps (runD es ps kk 20 ([], 0, 0)) 15 → ∀ ids : List Nat, (QV.bk 0 (.loop loop8) 4 [3] (some (I8 ps.length es.length kk e1 (ints ps) (ecOf es) (sizeN sz) 0 0 0 (.slice none 0 0) [] 5)) [ints ps, ecOf es, [i64 (sizeN sz), sl 2 es.length]] true .normal st).holds Tryd.prog (SP8 [(0, loopG (.loop loop8) (door8 [] 0) (SI (sizeN sz) e1 kk es ps ([], 0, 0) 5) (.normal, SI (sizeN sz) e1 kk es ps (runD es ps kk 20 ([], 0, 0)) 15))]) (door8 []) ids := fun st hst ids => by
      subst hst
      exact ⟨_, rfl, rfl, rfl, rfl, still8 (r := []) rfl rfl, rfl⟩
    generalize hDF : runD es ps kk 20 ([], 0, 0) = DF at hW hlen hne hblk hbk
    obtain ⟨ls, a, m⟩ := DF
    simp only [List.length_nil, Nat.zero_add] at hlen
    cases ls with
    | nil =>
      have h0 : ([], a, m) = (([], 0, 0) : D8) := by
        rcases hne with h | h
        · exact h
        · simp at h
      rw [h0] at hbk hblk
      exact fin hblk (mj_ss_Bl ps.length es.length kk e1 ns.length (ints ps) (ecOf es) (ints ns) (sizeN sz) sz cut n0 _) (by simp only [List.forall_mem_cons]; (repeat' apply And.intro) <;> first | exact w0s _ (by omega) _ | exact q18 _ _ _ | exact (asn _ hmn0).1 | exact (asn _ hmn0).2 | exact h15 _ _ _ | exact hI _ _ _ _ _ _ _ _ _ _ | exact hbk _ rfl _ | (intro x hx; cases hx))
    | cons y ys =>
      obtain ⟨Q⟩ := parts_of hfit (by omega) hW hlen (k2 := min kk (ys.length + 1)) rfl
      simp only [List.length_cons] at hlen
      obtain ⟨c1, c2, w1, w2, p1, p2, p3, l1, l2, r1, r2⟩ := Q
      simp only [List.length_cons] at l2
      generalize hk2 : min kk (ys.length + 1) = k2 at p1 p2 p3 l1 l2
      have hk2le : k2 ≤ ys.length + 1 := by omega
      have hmn : (if (((ys.length + 1 : Nat)) : Int) < (kk : Int) then (((ys.length + 1 : Nat)) : Int) else (kk : Int)) = (k2 : Int) := by split <;> omega
      have hst : ∀ st, st = I8 ps.length es.length kk e1 (ints ps) (ecOf es) (sizeN sz) a m (ys.length + 1 : Nat) (sl 4 (ys.length + 1)) [(4, own (ints (y :: ys)) 3 1)] 15 → st = SI (sizeN sz) e1 kk es ps (y :: ys, a, m) 15 := fun st h => by subst h; rfl
      have hsum : (IntKind.wrap .i64 (c1 + c2) == c1 + c2) = true := by rw [wr (by omega)]; simp
      have hqb : ∀ (bs : List (Nat × (Code → St → Option (AExit × St)))) (ids : List Nat), (QV.b (IntKind.wrap .i64 (c1 + c2) == c1 + c2) (.val (.bool true))).holds Tryd.prog (SP8 bs) (door8 []) ids := fun _ _ => by simp only [QV.holds]; rw [hsum]
      have hg : ∀ (x4 x5 : Option ABlk) (i4 i5 : Nat) (M : Mem), [0, 2, 4, i4, i5].map M.get = [none, some (own (ecOf es) 31 4), some (own (ints (y :: ys)) 3 1), x4, x5] → M.get 2 = some (own (ecOf es) 31 4) ∧ M.get 4 = some (own (ints (y :: ys)) 3 1) := fun x4 x5 i4 i5 M hM => by
        simp only [List.map_cons, List.map_nil, List.cons.injEq, and_true] at hM
        exact ⟨hM.2.1, hM.2.2.1⟩
      have t1 : (y :: ys).take k2 = ((y :: ys).drop 0).take k2 := by simp
      have t2 : (y :: ys).drop k2 = ((y :: ys).drop k2).take (ys.length + 1 - k2) := by rw [List.take_of_length_le (by simp)]
      have t3 : (y :: ys) = ((y :: ys).drop 0).take (ys.length + 1) := by simp
      have e1' : ((y :: ys).take k2).length = k2 := by simp; omega
      have e2' : ((y :: ys).drop k2).length = ys.length + 1 - k2 := by simp
      have hn3 : w1 ++ w2 ≠ [] := by intro h; have := congrArg List.length h; rw [List.length_append, l1, l2] at this; simp only [List.length_nil] at this; omega
      have l3 : (w1 ++ w2).length = ys.length + 1 := by simp; omega
      have q24c : ∀ (bs : List (Nat × (Code → St → Option (AExit × St)))) (i4 i5 nx : Nat), (QV.ca 24 [.agg ⟨[i64 (sizeN sz), sl 2 es.length]⟩, i64 0, i64 a, sl 4 (ys.length + 1)] [none, some (own (ecOf es) 31 4), some (own (ints (y :: ys)) 3 1), none, none] nx (.val (.tuple ⟨[i64 (c1 + c2), sl nx (w1 ++ w2).length, .bool true]⟩)) (own (ints (w1 ++ w2)) 3 1)).holds Tryd.prog (SP8 bs) (door8 []) [0, 2, 4, i4, i5] := fun bs i4 i5 nx =>
        c24a (o := 0) p3 hn3 (hg none none i4 i5) t3 (by simp) (by simp) (by simp; omega)
      by_cases hz1 : k2 = 0
      · have hw1 : w1 = [] := List.length_eq_zero_iff.1 (by omega)
        subst hw1
        have hn2 : w2 ≠ [] := by intro h; rw [h] at l2; simp at l2; omega
        exact fin hblk (mj_ss_v ps.length es.length (ys.length + 1) kk e1 ns.length (ints ps) (ecOf es) (ints (y :: ys)) (ints ns) (sizeN sz) a m sz cut c1 c2 (c1 + c2) n0 w2.length ([] ++ w2).length (ints w2) (ints ([] ++ w2)) k2 _) (by
          simp only [List.forall_mem_cons]
          (repeat' apply And.intro) <;> first | exact h15 _ _ _ | exact q18 _ _ _ | exact hbk _ (hst _ rfl) _ | exact asl hk2le _ hmn | exact asr hk2le _ hmn | exact q24c _ _ _ _ | exact hqb _ _ | exact c24r (o := 0) p1 (hg none none _ _) t1 e1' (by simp; omega) (by simp; omega) | exact c24a p2 hn2 (hg none none _ _) t2 e2' (by simp; omega) (by simp; omega) | exact aap (len := 0) (os := []) (xs := w2) (.inr ⟨rfl, by omega, rfl⟩) rfl rfl (by omega) rfl rfl | exact c26 (xs := [] ++ w2) (fun M hM => by simp only [List.map_cons, List.map_nil, List.cons.injEq, and_true] at hM; exact ⟨at_own hM.2.2.2.2 (by simp) (by simp) (by omega), at_own hM.2.2.2.1 rfl rfl (by simp; omega)⟩)  | (intro x hx; cases hx))
      · by_cases hz2 : k2 = ys.length + 1
        · have hw2 : w2 = [] := List.length_eq_zero_iff.1 (by omega)
          subst hw2
          have hn1 : w1 ≠ [] := by intro h; rw [h] at l1; simp at l1; omega
          exact fin hblk (mj_ss_u ps.length es.length (ys.length + 1) kk e1 ns.length (ints ps) (ecOf es) (ints (y :: ys)) (ints ns) (sizeN sz) a m sz cut c1 c2 (c1 + c2) n0 w1.length (w1 ++ []).length (ints w1) (ints (w1 ++ [])) k2 _) (by
            simp only [List.forall_mem_cons]
            (repeat' apply And.intro) <;> first | exact h15 _ _ _ | exact q18 _ _ _ | exact hbk _ (hst _ rfl) _ | exact asl hk2le _ hmn | exact asr hk2le _ hmn | exact q24c _ _ _ _ | exact hqb _ _ | exact c24a (o := 0) p1 hn1 (hg none none _ _) t1 e1' (by simp; omega) (by simp; omega) | exact c24r p2 (hg none none _ _) t2 e2' (by simp; omega) (by simp; omega) | exact aap (len := 0) (os := []) (xs := w1) (.inr ⟨rfl, by omega, rfl⟩) rfl rfl (by omega) rfl rfl | exact aap0 (os := w1) (by omega) (by omega) (by simp) | exact c26 (xs := w1 ++ []) (fun M hM => by simp only [List.map_cons, List.map_nil, List.cons.injEq, and_true] at hM; exact ⟨at_own hM.2.2.2.2 (by simp) (by simp) (by omega), at_own hM.2.2.2.1 rfl rfl (by simp; omega)⟩)  | (intro x hx; cases hx))
        · have hn1 : w1 ≠ [] := by intro h; rw [h] at l1; simp at l1; omega
          have hn2 : w2 ≠ [] := by intro h; rw [h] at l2; simp at l2; omega
          exact fin hblk (mj_ss_uv ps.length es.length (ys.length + 1) kk e1 ns.length (ints ps) (ecOf es) (ints (y :: ys)) (ints ns) (sizeN sz) a m sz cut c1 c2 (c1 + c2) n0 w1.length w2.length (w1 ++ w2).length (ints w1) (ints w2) (ints (w1 ++ w2)) k2 _) (by
            simp only [List.forall_mem_cons]
            (repeat' apply And.intro) <;> first | exact h15 _ _ _ | exact q18 _ _ _ | exact hbk _ (hst _ rfl) _ | exact asl hk2le _ hmn | exact asr hk2le _ hmn | exact q24c _ _ _ _ | exact hqb _ _ | exact c24a (o := 0) p1 hn1 (hg none none _ _) t1 e1' (by simp; omega) (by simp; omega) | exact c24a p2 hn2 (hg none none _ _) t2 e2' (by simp; omega) (by simp; omega) | exact aap (len := 0) (os := []) (xs := w1) (.inr ⟨rfl, by omega, rfl⟩) rfl rfl (by omega) rfl rfl | exact aap (os := w1) (xs := w2) (.inl ⟨rfl, by omega, rfl⟩) (by omega) rfl (by omega) (by simp) rfl | exact c26 (xs := w1 ++ w2) (fun M hM => by simp only [List.map_cons, List.map_nil, List.cons.injEq, and_true] at hM; exact ⟨at_own hM.2.2.2.2 (by simp [ints]) (by simp) (by omega), at_own hM.2.2.2.1 rfl rfl (by simp; omega)⟩)  | (intro x hx; cases hx))
end Go.Proofs.YtlmifmodnkhidaaDoor
