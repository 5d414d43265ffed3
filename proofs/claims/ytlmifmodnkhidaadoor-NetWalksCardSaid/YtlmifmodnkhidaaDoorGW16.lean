/-
  NetWalks: whether any edges are a walk, its cost and its word, are the document's: of any network of at most twelve vertices that is made of the numbers handed in, and of any rows of edges, of at most sixty where they are handed in; the answer is true for every argument.
-/
import Derived.Test.YtlmifmodnkhidaaDoorGW12
import Derived.Test.YtlmifmodnkhidaaDoorGW7
open Go Go.Am Go.Proofs
namespace Go.Proofs.YtlmifmodnkhidaaDoor
set_option maxRecDepth 10000

/- Few -/
def g14 (args : List Value) (M : Mem) : Option (Value × Mem) :=
  match args with
  | [.agg ⟨[.int .i64 _, .slice none 0 0]⟩] => some (.bool true, M)
  | [.agg ⟨[.int .i64 _, .slice (some ⟨_, _, none⟩) ne _]⟩] => some (.bool (decide (ne ≤ 500)), M)
  | _ => none
/- NetChecks -/
noncomputable def B3 : Code := Tryd.f3.body.get!
theorem body3 : Tryd.f3.body = some B3 := by kernel_rfl
noncomputable def loop3 : Code := unloop ((inner 1 100 B3).get!)
noncomputable def SP3 (bs : List (Nat × (Code → St → Option (AExit × St)))) : Specs := specsB [(13, ansNone (.bool true)), (14, g14), (15, g15), (16, gCheck), (17, gCheck), (18, g18)] bs
def L3 : List Nat := [0, 1, 2, 3, 4]
def I3 (N v : Int) (kk nl : Nat) (ec : List Value) (nx : Nat) : St :=
  ⟨tabT [(5, i64 v), (13, .pointer (some ⟨4, 0, none⟩)), (14, i64 kk)], 130, ⟨blkTree [(4, own [i64 N, sl 5 nl] 24 2), (5, own ec 31 4)], nx, [], L3 ++ [4]⟩⟩
def door3 : Nat → Door := fun _ => ⟨5, 6, [(4, 4, false), (5, 3, true)], [5, 13, 14], L3, [4]⟩
noncomputable def run3 (raw nsv : Value) (sz wh at' v : Int) (l : List (Nat × ABlk)) (SP : Specs) (ids : List Nat) (F : List Fact) :=
  (hexec Tryd.prog [] SP 90 B3 ⟨initT [raw, i64 sz, nsv, i64 wh, i64 at', i64 v] 0 .nil, Tryd.f3.ntmps, startMem l 2⟩ F 0).map (fun r => (r.1.1, (), aresults Tryd.prog Tryd.f3 r.1.2, r.2.2.2.map (view door3 ids)))
noncomputable def rnd3 (s : St) (F : List Fact) (nx : Nat) (l : Moves) :=
  (hexec Tryd.prog [] (specs [(18, g18)]) 60 loop3 s F 0).map (fun r => (r.1.1, rebase 5 nx l [5, 13, 14] L3 [4] r.1.2, stills r.1.2.M l, Nat.ble r.1.2.M.next 10, r.2.2.2.map (view noDoors [])))
theorem ck_nn_e (rN sz wh at' v N : Int) (b b2 : Bool) : run3 (.agg ⟨[i64 rN, (.slice none 0 0)]⟩) (.slice none 0 0) sz wh at' v [] (SP3 []) [0, 1, 9] [got 12 (.bool true), got 21 (.agg ⟨[i64 N, .slice none 0 0]⟩), got 29 (.bool b), got 33 (.bool b), fls 38, fls 40, got 41 (.bool true), fls 42, fls 45, got 59 (.bool b2), got 63 (.bool b2)] =
    some (.ret, (), some (.bool (b2 == b2)), [.cr 14 [.agg ⟨[i64 rN, (.slice none 0 0)]⟩] [none, none, none] (.val (.bool true)), .cr 15 [i64 sz, (.slice none 0 0), i64 1] [none, none, none] (.val (.agg ⟨[i64 N, .slice none 0 0]⟩)), .cr 16 [.agg ⟨[i64 rN, (.slice none 0 0)]⟩] [none, none, none] (.val (.bool b)), .cr 17 [.agg ⟨[i64 rN, (.slice none 0 0)]⟩] [none, none, none] (.val (.bool b)), .b ((b != b)) (.val (.bool false)), .b ((b != b)) (.val (.bool false)), .cr 16 [.agg ⟨[i64 N, .slice none 0 0]⟩] [none, none, none] (.val (.bool true)), .b ((b != b)) (.val (.bool false)), .b ((b != b)) (.val (.bool false)), .cr 16 [.agg ⟨[i64 N, .slice none 0 0]⟩] [none, none, none] (.val (.bool b2)), .cr 17 [.agg ⟨[i64 N, .slice none 0 0]⟩] [none, none, none] (.val (.bool b2))]) := by kernel_rfl
theorem ck_nn_q0 (rN sz wh at' v N : Int) (ne kk : Nat) (ec ec2 : List Value) (b b2 : Bool) : run3 (.agg ⟨[i64 rN, (.slice none 0 0)]⟩) (.slice none 0 0) sz wh at' v [] (SP3 []) [0, 1, 3] [got 12 (.bool true), madeB 21 (.agg ⟨[i64 N, sl 3 ne]⟩) (own ec 31 4), got 29 (.bool b), got 33 (.bool b), fls 38, fls 40, got 41 (.bool true), fls 42, fls 45, tru 55, got 65 (i64 (kk : Nat)), got 71 (i64 0), tru 86, onto 90 (ec2), got 94 (.bool b2), got 98 (.bool b2)] =
    some (.ret, (), some (.bool (b2 == b2)), [.cr 14 [.agg ⟨[i64 rN, (.slice none 0 0)]⟩] [none, none, none] (.val (.bool true)), .ca 15 [i64 sz, (.slice none 0 0), i64 1] [none, none, none] 3 (.val (.agg ⟨[i64 N, sl 3 ne]⟩)) (own ec 31 4), .cr 16 [.agg ⟨[i64 rN, (.slice none 0 0)]⟩] [none, none, some (own ec 31 4)] (.val (.bool b)), .cr 17 [.agg ⟨[i64 rN, (.slice none 0 0)]⟩] [none, none, some (own ec 31 4)] (.val (.bool b)), .b ((b != b)) (.val (.bool false)), .b ((b != b)) (.val (.bool false)), .cr 16 [.agg ⟨[i64 N, sl 3 ne]⟩] [none, none, some (own ec 31 4)] (.val (.bool true)), .b ((b != b)) (.val (.bool false)), .b ((b != b)) (.val (.bool false)), .b (decide ((ne : Int) > 0)) (.val (.bool true)), .cr 18 [i64 at', i64 ne] [none, none, some (own ec 31 4)] (.val (i64 (kk : Nat))), .cr 18 [i64 wh, i64 7] [none, none, some (own ec 31 4)] (.val (i64 0)), .ib (kk : Nat) ne, .st 3 (0 + ((kk : Nat) : Int).toNat * 4) (i64 v) ec2 (own ec 31 4), .cr 16 [.agg ⟨[i64 (N), sl 3 ne]⟩] [none, none, some (own ec2 31 4)] (.val (.bool b2)), .cr 17 [.agg ⟨[i64 (N), sl 3 ne]⟩] [none, none, some (own ec2 31 4)] (.val (.bool b2))]) := by kernel_rfl
theorem ck_nn_q1 (rN sz wh at' v N : Int) (ne kk : Nat) (ec ec2 : List Value) (b b2 : Bool) : run3 (.agg ⟨[i64 rN, (.slice none 0 0)]⟩) (.slice none 0 0) sz wh at' v [] (SP3 []) [0, 1, 3] [got 12 (.bool true), madeB 21 (.agg ⟨[i64 N, sl 3 ne]⟩) (own ec 31 4), got 29 (.bool b), got 33 (.bool b), fls 38, fls 40, got 41 (.bool true), fls 42, fls 45, tru 55, got 65 (i64 (kk : Nat)), got 71 (i64 1), tru 101, onto 105 (ec2), got 109 (.bool b2), got 113 (.bool b2)] =
    some (.ret, (), some (.bool (b2 == b2)), [.cr 14 [.agg ⟨[i64 rN, (.slice none 0 0)]⟩] [none, none, none] (.val (.bool true)), .ca 15 [i64 sz, (.slice none 0 0), i64 1] [none, none, none] 3 (.val (.agg ⟨[i64 N, sl 3 ne]⟩)) (own ec 31 4), .cr 16 [.agg ⟨[i64 rN, (.slice none 0 0)]⟩] [none, none, some (own ec 31 4)] (.val (.bool b)), .cr 17 [.agg ⟨[i64 rN, (.slice none 0 0)]⟩] [none, none, some (own ec 31 4)] (.val (.bool b)), .b ((b != b)) (.val (.bool false)), .b ((b != b)) (.val (.bool false)), .cr 16 [.agg ⟨[i64 N, sl 3 ne]⟩] [none, none, some (own ec 31 4)] (.val (.bool true)), .b ((b != b)) (.val (.bool false)), .b ((b != b)) (.val (.bool false)), .b (decide ((ne : Int) > 0)) (.val (.bool true)), .cr 18 [i64 at', i64 ne] [none, none, some (own ec 31 4)] (.val (i64 (kk : Nat))), .cr 18 [i64 wh, i64 7] [none, none, some (own ec 31 4)] (.val (i64 1)), .ib (kk : Nat) ne, .st 3 (0 + ((kk : Nat) : Int).toNat * 4 + 1) (i64 (IntKind.wrap .i64 (IntKind.wrap .i64 (N - 1) + modI v 2))) ec2 (own ec 31 4), .cr 16 [.agg ⟨[i64 (N), sl 3 ne]⟩] [none, none, some (own ec2 31 4)] (.val (.bool b2)), .cr 17 [.agg ⟨[i64 (N), sl 3 ne]⟩] [none, none, some (own ec2 31 4)] (.val (.bool b2))]) := by kernel_rfl
theorem ck_nn_q2 (rN sz wh at' v N x : Int) (ne kk jj : Nat) (ec ec2 : List Value) (b b2 : Bool) : run3 (.agg ⟨[i64 rN, (.slice none 0 0)]⟩) (.slice none 0 0) sz wh at' v [] (SP3 []) [0, 1, 3] [got 12 (.bool true), madeB 21 (.agg ⟨[i64 N, sl 3 ne]⟩) (own ec 31 4), got 29 (.bool b), got 33 (.bool b), fls 38, fls 40, got 41 (.bool true), fls 42, fls 45, tru 55, got 65 (i64 (kk : Nat)), got 71 (i64 2), got 100 (i64 (jj : Nat)), tru 102, got 104 (i64 x), tru 106, onto 110 (ec2), got 114 (.bool b2), got 118 (.bool b2)] =
    some (.ret, (), some (.bool (b2 == b2)), [.cr 14 [.agg ⟨[i64 rN, (.slice none 0 0)]⟩] [none, none, none] (.val (.bool true)), .ca 15 [i64 sz, (.slice none 0 0), i64 1] [none, none, none] 3 (.val (.agg ⟨[i64 N, sl 3 ne]⟩)) (own ec 31 4), .cr 16 [.agg ⟨[i64 rN, (.slice none 0 0)]⟩] [none, none, some (own ec 31 4)] (.val (.bool b)), .cr 17 [.agg ⟨[i64 rN, (.slice none 0 0)]⟩] [none, none, some (own ec 31 4)] (.val (.bool b)), .b ((b != b)) (.val (.bool false)), .b ((b != b)) (.val (.bool false)), .cr 16 [.agg ⟨[i64 N, sl 3 ne]⟩] [none, none, some (own ec 31 4)] (.val (.bool true)), .b ((b != b)) (.val (.bool false)), .b ((b != b)) (.val (.bool false)), .b (decide ((ne : Int) > 0)) (.val (.bool true)), .cr 18 [i64 at', i64 ne] [none, none, some (own ec 31 4)] (.val (i64 (kk : Nat))), .cr 18 [i64 wh, i64 7] [none, none, some (own ec 31 4)] (.val (i64 2)), .cr 18 [i64 v, i64 5] [none, none, some (own ec 31 4)] (.val (i64 (jj : Nat))), .ib (jj : Nat) 5, .ld 3 (0 + ((jj : Nat) : Int).toNat * 1) (some (own [i64 (-1), i64 0, i64 4, i64 5, i64 v] 3 1)) (.val (i64 x)), .ib (kk : Nat) ne, .st 3 (0 + ((kk : Nat) : Int).toNat * 4 + 2) (i64 x) ec2 (own ec 31 4), .cr 16 [.agg ⟨[i64 (N), sl 3 ne]⟩] [none, none, some (own ec2 31 4)] (.val (.bool b2)), .cr 17 [.agg ⟨[i64 (N), sl 3 ne]⟩] [none, none, some (own ec2 31 4)] (.val (.bool b2))]) := by kernel_rfl
theorem ck_nn_q3 (rN sz wh at' v N x : Int) (ne kk jj : Nat) (ec ec2 : List Value) (b b2 : Bool) : run3 (.agg ⟨[i64 rN, (.slice none 0 0)]⟩) (.slice none 0 0) sz wh at' v [] (SP3 []) [0, 1, 3] [got 12 (.bool true), madeB 21 (.agg ⟨[i64 N, sl 3 ne]⟩) (own ec 31 4), got 29 (.bool b), got 33 (.bool b), fls 38, fls 40, got 41 (.bool true), fls 42, fls 45, tru 55, got 65 (i64 (kk : Nat)), got 71 (i64 3), got 105 (i64 (jj : Nat)), tru 107, got 109 (i64 x), tru 111, onto 115 (ec2), got 119 (.bool b2), got 123 (.bool b2)] =
    some (.ret, (), some (.bool (b2 == b2)), [.cr 14 [.agg ⟨[i64 rN, (.slice none 0 0)]⟩] [none, none, none] (.val (.bool true)), .ca 15 [i64 sz, (.slice none 0 0), i64 1] [none, none, none] 3 (.val (.agg ⟨[i64 N, sl 3 ne]⟩)) (own ec 31 4), .cr 16 [.agg ⟨[i64 rN, (.slice none 0 0)]⟩] [none, none, some (own ec 31 4)] (.val (.bool b)), .cr 17 [.agg ⟨[i64 rN, (.slice none 0 0)]⟩] [none, none, some (own ec 31 4)] (.val (.bool b)), .b ((b != b)) (.val (.bool false)), .b ((b != b)) (.val (.bool false)), .cr 16 [.agg ⟨[i64 N, sl 3 ne]⟩] [none, none, some (own ec 31 4)] (.val (.bool true)), .b ((b != b)) (.val (.bool false)), .b ((b != b)) (.val (.bool false)), .b (decide ((ne : Int) > 0)) (.val (.bool true)), .cr 18 [i64 at', i64 ne] [none, none, some (own ec 31 4)] (.val (i64 (kk : Nat))), .cr 18 [i64 wh, i64 7] [none, none, some (own ec 31 4)] (.val (i64 3)), .cr 18 [i64 v, i64 5] [none, none, some (own ec 31 4)] (.val (i64 (jj : Nat))), .ib (jj : Nat) 5, .ld 3 (0 + ((jj : Nat) : Int).toNat * 1) (some (own [i64 (-1), i64 0, i64 2147483647, i64 2147483648, i64 v] 3 1)) (.val (i64 x)), .ib (kk : Nat) ne, .st 3 (0 + ((kk : Nat) : Int).toNat * 4 + 3) (i64 x) ec2 (own ec 31 4), .cr 16 [.agg ⟨[i64 (N), sl 3 ne]⟩] [none, none, some (own ec2 31 4)] (.val (.bool b2)), .cr 17 [.agg ⟨[i64 (N), sl 3 ne]⟩] [none, none, some (own ec2 31 4)] (.val (.bool b2))]) := by kernel_rfl
theorem ck_nn_q4 (rN sz wh at' v N x : Int) (ne kk jj : Nat) (ec : List Value) (b b2 : Bool) : run3 (.agg ⟨[i64 rN, (.slice none 0 0)]⟩) (.slice none 0 0) sz wh at' v [] (SP3 []) [0, 1, 3] [got 12 (.bool true), madeB 21 (.agg ⟨[i64 N, sl 3 ne]⟩) (own ec 31 4), got 29 (.bool b), got 33 (.bool b), fls 38, fls 40, got 41 (.bool true), fls 42, fls 45, tru 55, got 65 (i64 (kk : Nat)), got 71 (i64 4), got 104 (i64 (jj : Nat)), tru 106, got 108 (i64 x), got 116 (.bool b2), got 120 (.bool b2)] =
    some (.ret, (), some (.bool (b2 == b2)), [.cr 14 [.agg ⟨[i64 rN, (.slice none 0 0)]⟩] [none, none, none] (.val (.bool true)), .ca 15 [i64 sz, (.slice none 0 0), i64 1] [none, none, none] 3 (.val (.agg ⟨[i64 N, sl 3 ne]⟩)) (own ec 31 4), .cr 16 [.agg ⟨[i64 rN, (.slice none 0 0)]⟩] [none, none, some (own ec 31 4)] (.val (.bool b)), .cr 17 [.agg ⟨[i64 rN, (.slice none 0 0)]⟩] [none, none, some (own ec 31 4)] (.val (.bool b)), .b ((b != b)) (.val (.bool false)), .b ((b != b)) (.val (.bool false)), .cr 16 [.agg ⟨[i64 N, sl 3 ne]⟩] [none, none, some (own ec 31 4)] (.val (.bool true)), .b ((b != b)) (.val (.bool false)), .b ((b != b)) (.val (.bool false)), .b (decide ((ne : Int) > 0)) (.val (.bool true)), .cr 18 [i64 at', i64 ne] [none, none, some (own ec 31 4)] (.val (i64 (kk : Nat))), .cr 18 [i64 wh, i64 7] [none, none, some (own ec 31 4)] (.val (i64 4)), .cr 18 [i64 v, i64 5] [none, none, some (own ec 31 4)] (.val (i64 (jj : Nat))), .ib (jj : Nat) 5, .ld 3 (0 + ((jj : Nat) : Int).toNat * 1) (some (own [i64 0, i64 1, i64 60, i64 61, i64 v] 3 1)) (.val (i64 x)), .cr 16 [.agg ⟨[i64 (x), sl 3 ne]⟩] [none, none, some (own ec 31 4)] (.val (.bool b2)), .cr 17 [.agg ⟨[i64 (x), sl 3 ne]⟩] [none, none, some (own ec 31 4)] (.val (.bool b2))]) := by kernel_rfl
theorem ck_nn_q5 (rN sz wh at' v N : Int) (ne nn2 kk : Nat) (ec ec2 : List Value) (b b2 : Bool) (g : Code → St → Option (AExit × St)) : run3 (.agg ⟨[i64 rN, (.slice none 0 0)]⟩) (.slice none 0 0) sz wh at' v [] (SP3 [(1, g)]) [0, 1, 3, 5] [got 12 (.bool true), madeB 21 (.agg ⟨[i64 N, sl 3 ne]⟩) (own ec 31 4), got 29 (.bool b), got 33 (.bool b), fls 38, fls 40, got 41 (.bool true), fls 42, fls 45, tru 55, got 65 (i64 (kk : Nat)), got 71 (i64 5), past 102 .normal (I3 N v kk nn2 ec2 10), got 106 (.bool b2), got 110 (.bool b2)] =
    some (.ret, (), some (.bool (b2 == b2)), [.cr 14 [.agg ⟨[i64 rN, (.slice none 0 0)]⟩] [none, none, none, none] (.val (.bool true)), .ca 15 [i64 sz, (.slice none 0 0), i64 1] [none, none, none, none] 3 (.val (.agg ⟨[i64 N, sl 3 ne]⟩)) (own ec 31 4), .cr 16 [.agg ⟨[i64 rN, (.slice none 0 0)]⟩] [none, none, some (own ec 31 4), none] (.val (.bool b)), .cr 17 [.agg ⟨[i64 rN, (.slice none 0 0)]⟩] [none, none, some (own ec 31 4), none] (.val (.bool b)), .b ((b != b)) (.val (.bool false)), .b ((b != b)) (.val (.bool false)), .cr 16 [.agg ⟨[i64 N, sl 3 ne]⟩] [none, none, some (own ec 31 4), none] (.val (.bool true)), .b ((b != b)) (.val (.bool false)), .b ((b != b)) (.val (.bool false)), .b (decide ((ne : Int) > 0)) (.val (.bool true)), .cr 18 [i64 at', i64 ne] [none, none, some (own ec 31 4), none] (.val (i64 (kk : Nat))), .cr 18 [i64 wh, i64 7] [none, none, some (own ec 31 4), none] (.val (i64 5)), .bk 1 (.loop loop3) 5 [4] (some (I3 N v kk ne ec 6)) [ec] true .normal (I3 N v kk nn2 ec2 10), .cr 16 [.agg ⟨[i64 (N), sl 5 nn2]⟩] [none, none, none, some (own ec2 31 4)] (.val (.bool b2)), .cr 17 [.agg ⟨[i64 (N), sl 5 nn2]⟩] [none, none, none, some (own ec2 31 4)] (.val (.bool b2))]) := by kernel_rfl
theorem ck_nn_q6 (rN sz wh at' v N : Int) (ne kk : Nat) (ec : List Value) (b b2 : Bool) : run3 (.agg ⟨[i64 rN, (.slice none 0 0)]⟩) (.slice none 0 0) sz wh at' v [] (SP3 []) [0, 1, 3] [got 12 (.bool true), madeB 21 (.agg ⟨[i64 N, sl 3 ne]⟩) (own ec 31 4), got 29 (.bool b), got 33 (.bool b), fls 38, fls 40, got 41 (.bool true), fls 42, fls 45, tru 55, got 65 (i64 (kk : Nat)), got 71 (i64 6), got 120 (.bool b2), got 124 (.bool b2)] =
    some (.ret, (), some (.bool (b2 == b2)), [.cr 14 [.agg ⟨[i64 rN, (.slice none 0 0)]⟩] [none, none, none] (.val (.bool true)), .ca 15 [i64 sz, (.slice none 0 0), i64 1] [none, none, none] 3 (.val (.agg ⟨[i64 N, sl 3 ne]⟩)) (own ec 31 4), .cr 16 [.agg ⟨[i64 rN, (.slice none 0 0)]⟩] [none, none, some (own ec 31 4)] (.val (.bool b)), .cr 17 [.agg ⟨[i64 rN, (.slice none 0 0)]⟩] [none, none, some (own ec 31 4)] (.val (.bool b)), .b ((b != b)) (.val (.bool false)), .b ((b != b)) (.val (.bool false)), .cr 16 [.agg ⟨[i64 N, sl 3 ne]⟩] [none, none, some (own ec 31 4)] (.val (.bool true)), .b ((b != b)) (.val (.bool false)), .b ((b != b)) (.val (.bool false)), .b (decide ((ne : Int) > 0)) (.val (.bool true)), .cr 18 [i64 at', i64 ne] [none, none, some (own ec 31 4)] (.val (i64 (kk : Nat))), .cr 18 [i64 wh, i64 7] [none, none, some (own ec 31 4)] (.val (i64 6)), .cr 16 [.agg ⟨[i64 (IntKind.wrap .i64 (0 - N)), sl 3 ne]⟩] [none, none, some (own ec 31 4)] (.val (.bool b2)), .cr 17 [.agg ⟨[i64 (IntKind.wrap .i64 (0 - N)), sl 3 ne]⟩] [none, none, some (own ec 31 4)] (.val (.bool b2))]) := by kernel_rfl
theorem ck_ns_e (rN sz wh at' v N : Int) (nn n0 : Nat) (nc : List Value) (b b2 : Bool) : run3 (.agg ⟨[i64 rN, (.slice none 0 0)]⟩) (sl 1 nn) sz wh at' v [(1, ro nc n0 1)] (SP3 []) [0, 1, 9] [got 12 (.bool true), got 21 (.agg ⟨[i64 N, .slice none 0 0]⟩), got 29 (.bool b), got 33 (.bool b), fls 38, fls 40, got 41 (.bool true), fls 42, fls 45, got 59 (.bool b2), got 63 (.bool b2)] =
    some (.ret, (), some (.bool (b2 == b2)), [.cr 14 [.agg ⟨[i64 rN, (.slice none 0 0)]⟩] [none, some (ro nc n0 1), none] (.val (.bool true)), .cr 15 [i64 sz, (sl 1 nn), i64 1] [none, some (ro nc n0 1), none] (.val (.agg ⟨[i64 N, .slice none 0 0]⟩)), .cr 16 [.agg ⟨[i64 rN, (.slice none 0 0)]⟩] [none, some (ro nc n0 1), none] (.val (.bool b)), .cr 17 [.agg ⟨[i64 rN, (.slice none 0 0)]⟩] [none, some (ro nc n0 1), none] (.val (.bool b)), .b ((b != b)) (.val (.bool false)), .b ((b != b)) (.val (.bool false)), .cr 16 [.agg ⟨[i64 N, .slice none 0 0]⟩] [none, some (ro nc n0 1), none] (.val (.bool true)), .b ((b != b)) (.val (.bool false)), .b ((b != b)) (.val (.bool false)), .cr 16 [.agg ⟨[i64 N, .slice none 0 0]⟩] [none, some (ro nc n0 1), none] (.val (.bool b2)), .cr 17 [.agg ⟨[i64 N, .slice none 0 0]⟩] [none, some (ro nc n0 1), none] (.val (.bool b2))]) := by kernel_rfl
theorem ck_ns_q0 (rN sz wh at' v N : Int) (nn ne kk n0 : Nat) (nc ec ec2 : List Value) (b b2 : Bool) : run3 (.agg ⟨[i64 rN, (.slice none 0 0)]⟩) (sl 1 nn) sz wh at' v [(1, ro nc n0 1)] (SP3 []) [0, 1, 3] [got 12 (.bool true), madeB 21 (.agg ⟨[i64 N, sl 3 ne]⟩) (own ec 31 4), got 29 (.bool b), got 33 (.bool b), fls 38, fls 40, got 41 (.bool true), fls 42, fls 45, tru 55, got 65 (i64 (kk : Nat)), got 71 (i64 0), tru 86, onto 90 (ec2), got 94 (.bool b2), got 98 (.bool b2)] =
    some (.ret, (), some (.bool (b2 == b2)), [.cr 14 [.agg ⟨[i64 rN, (.slice none 0 0)]⟩] [none, some (ro nc n0 1), none] (.val (.bool true)), .ca 15 [i64 sz, (sl 1 nn), i64 1] [none, some (ro nc n0 1), none] 3 (.val (.agg ⟨[i64 N, sl 3 ne]⟩)) (own ec 31 4), .cr 16 [.agg ⟨[i64 rN, (.slice none 0 0)]⟩] [none, some (ro nc n0 1), some (own ec 31 4)] (.val (.bool b)), .cr 17 [.agg ⟨[i64 rN, (.slice none 0 0)]⟩] [none, some (ro nc n0 1), some (own ec 31 4)] (.val (.bool b)), .b ((b != b)) (.val (.bool false)), .b ((b != b)) (.val (.bool false)), .cr 16 [.agg ⟨[i64 N, sl 3 ne]⟩] [none, some (ro nc n0 1), some (own ec 31 4)] (.val (.bool true)), .b ((b != b)) (.val (.bool false)), .b ((b != b)) (.val (.bool false)), .b (decide ((ne : Int) > 0)) (.val (.bool true)), .cr 18 [i64 at', i64 ne] [none, some (ro nc n0 1), some (own ec 31 4)] (.val (i64 (kk : Nat))), .cr 18 [i64 wh, i64 7] [none, some (ro nc n0 1), some (own ec 31 4)] (.val (i64 0)), .ib (kk : Nat) ne, .st 3 (0 + ((kk : Nat) : Int).toNat * 4) (i64 v) ec2 (own ec 31 4), .cr 16 [.agg ⟨[i64 (N), sl 3 ne]⟩] [none, some (ro nc n0 1), some (own ec2 31 4)] (.val (.bool b2)), .cr 17 [.agg ⟨[i64 (N), sl 3 ne]⟩] [none, some (ro nc n0 1), some (own ec2 31 4)] (.val (.bool b2))]) := by kernel_rfl
theorem ck_ns_q1 (rN sz wh at' v N : Int) (nn ne kk n0 : Nat) (nc ec ec2 : List Value) (b b2 : Bool) : run3 (.agg ⟨[i64 rN, (.slice none 0 0)]⟩) (sl 1 nn) sz wh at' v [(1, ro nc n0 1)] (SP3 []) [0, 1, 3] [got 12 (.bool true), madeB 21 (.agg ⟨[i64 N, sl 3 ne]⟩) (own ec 31 4), got 29 (.bool b), got 33 (.bool b), fls 38, fls 40, got 41 (.bool true), fls 42, fls 45, tru 55, got 65 (i64 (kk : Nat)), got 71 (i64 1), tru 101, onto 105 (ec2), got 109 (.bool b2), got 113 (.bool b2)] =
    some (.ret, (), some (.bool (b2 == b2)), [.cr 14 [.agg ⟨[i64 rN, (.slice none 0 0)]⟩] [none, some (ro nc n0 1), none] (.val (.bool true)), .ca 15 [i64 sz, (sl 1 nn), i64 1] [none, some (ro nc n0 1), none] 3 (.val (.agg ⟨[i64 N, sl 3 ne]⟩)) (own ec 31 4), .cr 16 [.agg ⟨[i64 rN, (.slice none 0 0)]⟩] [none, some (ro nc n0 1), some (own ec 31 4)] (.val (.bool b)), .cr 17 [.agg ⟨[i64 rN, (.slice none 0 0)]⟩] [none, some (ro nc n0 1), some (own ec 31 4)] (.val (.bool b)), .b ((b != b)) (.val (.bool false)), .b ((b != b)) (.val (.bool false)), .cr 16 [.agg ⟨[i64 N, sl 3 ne]⟩] [none, some (ro nc n0 1), some (own ec 31 4)] (.val (.bool true)), .b ((b != b)) (.val (.bool false)), .b ((b != b)) (.val (.bool false)), .b (decide ((ne : Int) > 0)) (.val (.bool true)), .cr 18 [i64 at', i64 ne] [none, some (ro nc n0 1), some (own ec 31 4)] (.val (i64 (kk : Nat))), .cr 18 [i64 wh, i64 7] [none, some (ro nc n0 1), some (own ec 31 4)] (.val (i64 1)), .ib (kk : Nat) ne, .st 3 (0 + ((kk : Nat) : Int).toNat * 4 + 1) (i64 (IntKind.wrap .i64 (IntKind.wrap .i64 (N - 1) + modI v 2))) ec2 (own ec 31 4), .cr 16 [.agg ⟨[i64 (N), sl 3 ne]⟩] [none, some (ro nc n0 1), some (own ec2 31 4)] (.val (.bool b2)), .cr 17 [.agg ⟨[i64 (N), sl 3 ne]⟩] [none, some (ro nc n0 1), some (own ec2 31 4)] (.val (.bool b2))]) := by kernel_rfl
theorem ck_ns_q2 (rN sz wh at' v N x : Int) (nn ne kk jj n0 : Nat) (nc ec ec2 : List Value) (b b2 : Bool) : run3 (.agg ⟨[i64 rN, (.slice none 0 0)]⟩) (sl 1 nn) sz wh at' v [(1, ro nc n0 1)] (SP3 []) [0, 1, 3] [got 12 (.bool true), madeB 21 (.agg ⟨[i64 N, sl 3 ne]⟩) (own ec 31 4), got 29 (.bool b), got 33 (.bool b), fls 38, fls 40, got 41 (.bool true), fls 42, fls 45, tru 55, got 65 (i64 (kk : Nat)), got 71 (i64 2), got 100 (i64 (jj : Nat)), tru 102, got 104 (i64 x), tru 106, onto 110 (ec2), got 114 (.bool b2), got 118 (.bool b2)] =
    some (.ret, (), some (.bool (b2 == b2)), [.cr 14 [.agg ⟨[i64 rN, (.slice none 0 0)]⟩] [none, some (ro nc n0 1), none] (.val (.bool true)), .ca 15 [i64 sz, (sl 1 nn), i64 1] [none, some (ro nc n0 1), none] 3 (.val (.agg ⟨[i64 N, sl 3 ne]⟩)) (own ec 31 4), .cr 16 [.agg ⟨[i64 rN, (.slice none 0 0)]⟩] [none, some (ro nc n0 1), some (own ec 31 4)] (.val (.bool b)), .cr 17 [.agg ⟨[i64 rN, (.slice none 0 0)]⟩] [none, some (ro nc n0 1), some (own ec 31 4)] (.val (.bool b)), .b ((b != b)) (.val (.bool false)), .b ((b != b)) (.val (.bool false)), .cr 16 [.agg ⟨[i64 N, sl 3 ne]⟩] [none, some (ro nc n0 1), some (own ec 31 4)] (.val (.bool true)), .b ((b != b)) (.val (.bool false)), .b ((b != b)) (.val (.bool false)), .b (decide ((ne : Int) > 0)) (.val (.bool true)), .cr 18 [i64 at', i64 ne] [none, some (ro nc n0 1), some (own ec 31 4)] (.val (i64 (kk : Nat))), .cr 18 [i64 wh, i64 7] [none, some (ro nc n0 1), some (own ec 31 4)] (.val (i64 2)), .cr 18 [i64 v, i64 5] [none, some (ro nc n0 1), some (own ec 31 4)] (.val (i64 (jj : Nat))), .ib (jj : Nat) 5, .ld 3 (0 + ((jj : Nat) : Int).toNat * 1) (some (own [i64 (-1), i64 0, i64 4, i64 5, i64 v] 3 1)) (.val (i64 x)), .ib (kk : Nat) ne, .st 3 (0 + ((kk : Nat) : Int).toNat * 4 + 2) (i64 x) ec2 (own ec 31 4), .cr 16 [.agg ⟨[i64 (N), sl 3 ne]⟩] [none, some (ro nc n0 1), some (own ec2 31 4)] (.val (.bool b2)), .cr 17 [.agg ⟨[i64 (N), sl 3 ne]⟩] [none, some (ro nc n0 1), some (own ec2 31 4)] (.val (.bool b2))]) := by kernel_rfl
theorem ck_ns_q3 (rN sz wh at' v N x : Int) (nn ne kk jj n0 : Nat) (nc ec ec2 : List Value) (b b2 : Bool) : run3 (.agg ⟨[i64 rN, (.slice none 0 0)]⟩) (sl 1 nn) sz wh at' v [(1, ro nc n0 1)] (SP3 []) [0, 1, 3] [got 12 (.bool true), madeB 21 (.agg ⟨[i64 N, sl 3 ne]⟩) (own ec 31 4), got 29 (.bool b), got 33 (.bool b), fls 38, fls 40, got 41 (.bool true), fls 42, fls 45, tru 55, got 65 (i64 (kk : Nat)), got 71 (i64 3), got 105 (i64 (jj : Nat)), tru 107, got 109 (i64 x), tru 111, onto 115 (ec2), got 119 (.bool b2), got 123 (.bool b2)] =
    some (.ret, (), some (.bool (b2 == b2)), [.cr 14 [.agg ⟨[i64 rN, (.slice none 0 0)]⟩] [none, some (ro nc n0 1), none] (.val (.bool true)), .ca 15 [i64 sz, (sl 1 nn), i64 1] [none, some (ro nc n0 1), none] 3 (.val (.agg ⟨[i64 N, sl 3 ne]⟩)) (own ec 31 4), .cr 16 [.agg ⟨[i64 rN, (.slice none 0 0)]⟩] [none, some (ro nc n0 1), some (own ec 31 4)] (.val (.bool b)), .cr 17 [.agg ⟨[i64 rN, (.slice none 0 0)]⟩] [none, some (ro nc n0 1), some (own ec 31 4)] (.val (.bool b)), .b ((b != b)) (.val (.bool false)), .b ((b != b)) (.val (.bool false)), .cr 16 [.agg ⟨[i64 N, sl 3 ne]⟩] [none, some (ro nc n0 1), some (own ec 31 4)] (.val (.bool true)), .b ((b != b)) (.val (.bool false)), .b ((b != b)) (.val (.bool false)), .b (decide ((ne : Int) > 0)) (.val (.bool true)), .cr 18 [i64 at', i64 ne] [none, some (ro nc n0 1), some (own ec 31 4)] (.val (i64 (kk : Nat))), .cr 18 [i64 wh, i64 7] [none, some (ro nc n0 1), some (own ec 31 4)] (.val (i64 3)), .cr 18 [i64 v, i64 5] [none, some (ro nc n0 1), some (own ec 31 4)] (.val (i64 (jj : Nat))), .ib (jj : Nat) 5, .ld 3 (0 + ((jj : Nat) : Int).toNat * 1) (some (own [i64 (-1), i64 0, i64 2147483647, i64 2147483648, i64 v] 3 1)) (.val (i64 x)), .ib (kk : Nat) ne, .st 3 (0 + ((kk : Nat) : Int).toNat * 4 + 3) (i64 x) ec2 (own ec 31 4), .cr 16 [.agg ⟨[i64 (N), sl 3 ne]⟩] [none, some (ro nc n0 1), some (own ec2 31 4)] (.val (.bool b2)), .cr 17 [.agg ⟨[i64 (N), sl 3 ne]⟩] [none, some (ro nc n0 1), some (own ec2 31 4)] (.val (.bool b2))]) := by kernel_rfl
theorem ck_ns_q4 (rN sz wh at' v N x : Int) (nn ne kk jj n0 : Nat) (nc ec : List Value) (b b2 : Bool) : run3 (.agg ⟨[i64 rN, (.slice none 0 0)]⟩) (sl 1 nn) sz wh at' v [(1, ro nc n0 1)] (SP3 []) [0, 1, 3] [got 12 (.bool true), madeB 21 (.agg ⟨[i64 N, sl 3 ne]⟩) (own ec 31 4), got 29 (.bool b), got 33 (.bool b), fls 38, fls 40, got 41 (.bool true), fls 42, fls 45, tru 55, got 65 (i64 (kk : Nat)), got 71 (i64 4), got 104 (i64 (jj : Nat)), tru 106, got 108 (i64 x), got 116 (.bool b2), got 120 (.bool b2)] =
    some (.ret, (), some (.bool (b2 == b2)), [.cr 14 [.agg ⟨[i64 rN, (.slice none 0 0)]⟩] [none, some (ro nc n0 1), none] (.val (.bool true)), .ca 15 [i64 sz, (sl 1 nn), i64 1] [none, some (ro nc n0 1), none] 3 (.val (.agg ⟨[i64 N, sl 3 ne]⟩)) (own ec 31 4), .cr 16 [.agg ⟨[i64 rN, (.slice none 0 0)]⟩] [none, some (ro nc n0 1), some (own ec 31 4)] (.val (.bool b)), .cr 17 [.agg ⟨[i64 rN, (.slice none 0 0)]⟩] [none, some (ro nc n0 1), some (own ec 31 4)] (.val (.bool b)), .b ((b != b)) (.val (.bool false)), .b ((b != b)) (.val (.bool false)), .cr 16 [.agg ⟨[i64 N, sl 3 ne]⟩] [none, some (ro nc n0 1), some (own ec 31 4)] (.val (.bool true)), .b ((b != b)) (.val (.bool false)), .b ((b != b)) (.val (.bool false)), .b (decide ((ne : Int) > 0)) (.val (.bool true)), .cr 18 [i64 at', i64 ne] [none, some (ro nc n0 1), some (own ec 31 4)] (.val (i64 (kk : Nat))), .cr 18 [i64 wh, i64 7] [none, some (ro nc n0 1), some (own ec 31 4)] (.val (i64 4)), .cr 18 [i64 v, i64 5] [none, some (ro nc n0 1), some (own ec 31 4)] (.val (i64 (jj : Nat))), .ib (jj : Nat) 5, .ld 3 (0 + ((jj : Nat) : Int).toNat * 1) (some (own [i64 0, i64 1, i64 60, i64 61, i64 v] 3 1)) (.val (i64 x)), .cr 16 [.agg ⟨[i64 (x), sl 3 ne]⟩] [none, some (ro nc n0 1), some (own ec 31 4)] (.val (.bool b2)), .cr 17 [.agg ⟨[i64 (x), sl 3 ne]⟩] [none, some (ro nc n0 1), some (own ec 31 4)] (.val (.bool b2))]) := by kernel_rfl
theorem ck_ns_q5 (rN sz wh at' v N : Int) (nn ne nn2 kk n0 : Nat) (nc ec ec2 : List Value) (b b2 : Bool) (g : Code → St → Option (AExit × St)) : run3 (.agg ⟨[i64 rN, (.slice none 0 0)]⟩) (sl 1 nn) sz wh at' v [(1, ro nc n0 1)] (SP3 [(1, g)]) [0, 1, 3, 5] [got 12 (.bool true), madeB 21 (.agg ⟨[i64 N, sl 3 ne]⟩) (own ec 31 4), got 29 (.bool b), got 33 (.bool b), fls 38, fls 40, got 41 (.bool true), fls 42, fls 45, tru 55, got 65 (i64 (kk : Nat)), got 71 (i64 5), past 102 .normal (I3 N v kk nn2 ec2 10), got 106 (.bool b2), got 110 (.bool b2)] =
    some (.ret, (), some (.bool (b2 == b2)), [.cr 14 [.agg ⟨[i64 rN, (.slice none 0 0)]⟩] [none, some (ro nc n0 1), none, none] (.val (.bool true)), .ca 15 [i64 sz, (sl 1 nn), i64 1] [none, some (ro nc n0 1), none, none] 3 (.val (.agg ⟨[i64 N, sl 3 ne]⟩)) (own ec 31 4), .cr 16 [.agg ⟨[i64 rN, (.slice none 0 0)]⟩] [none, some (ro nc n0 1), some (own ec 31 4), none] (.val (.bool b)), .cr 17 [.agg ⟨[i64 rN, (.slice none 0 0)]⟩] [none, some (ro nc n0 1), some (own ec 31 4), none] (.val (.bool b)), .b ((b != b)) (.val (.bool false)), .b ((b != b)) (.val (.bool false)), .cr 16 [.agg ⟨[i64 N, sl 3 ne]⟩] [none, some (ro nc n0 1), some (own ec 31 4), none] (.val (.bool true)), .b ((b != b)) (.val (.bool false)), .b ((b != b)) (.val (.bool false)), .b (decide ((ne : Int) > 0)) (.val (.bool true)), .cr 18 [i64 at', i64 ne] [none, some (ro nc n0 1), some (own ec 31 4), none] (.val (i64 (kk : Nat))), .cr 18 [i64 wh, i64 7] [none, some (ro nc n0 1), some (own ec 31 4), none] (.val (i64 5)), .bk 1 (.loop loop3) 5 [4] (some (I3 N v kk ne ec 6)) [ec] true .normal (I3 N v kk nn2 ec2 10), .cr 16 [.agg ⟨[i64 (N), sl 5 nn2]⟩] [none, none, none, some (own ec2 31 4)] (.val (.bool b2)), .cr 17 [.agg ⟨[i64 (N), sl 5 nn2]⟩] [none, none, none, some (own ec2 31 4)] (.val (.bool b2))]) := by kernel_rfl
theorem ck_ns_q6 (rN sz wh at' v N : Int) (nn ne kk n0 : Nat) (nc ec : List Value) (b b2 : Bool) : run3 (.agg ⟨[i64 rN, (.slice none 0 0)]⟩) (sl 1 nn) sz wh at' v [(1, ro nc n0 1)] (SP3 []) [0, 1, 3] [got 12 (.bool true), madeB 21 (.agg ⟨[i64 N, sl 3 ne]⟩) (own ec 31 4), got 29 (.bool b), got 33 (.bool b), fls 38, fls 40, got 41 (.bool true), fls 42, fls 45, tru 55, got 65 (i64 (kk : Nat)), got 71 (i64 6), got 120 (.bool b2), got 124 (.bool b2)] =
    some (.ret, (), some (.bool (b2 == b2)), [.cr 14 [.agg ⟨[i64 rN, (.slice none 0 0)]⟩] [none, some (ro nc n0 1), none] (.val (.bool true)), .ca 15 [i64 sz, (sl 1 nn), i64 1] [none, some (ro nc n0 1), none] 3 (.val (.agg ⟨[i64 N, sl 3 ne]⟩)) (own ec 31 4), .cr 16 [.agg ⟨[i64 rN, (.slice none 0 0)]⟩] [none, some (ro nc n0 1), some (own ec 31 4)] (.val (.bool b)), .cr 17 [.agg ⟨[i64 rN, (.slice none 0 0)]⟩] [none, some (ro nc n0 1), some (own ec 31 4)] (.val (.bool b)), .b ((b != b)) (.val (.bool false)), .b ((b != b)) (.val (.bool false)), .cr 16 [.agg ⟨[i64 N, sl 3 ne]⟩] [none, some (ro nc n0 1), some (own ec 31 4)] (.val (.bool true)), .b ((b != b)) (.val (.bool false)), .b ((b != b)) (.val (.bool false)), .b (decide ((ne : Int) > 0)) (.val (.bool true)), .cr 18 [i64 at', i64 ne] [none, some (ro nc n0 1), some (own ec 31 4)] (.val (i64 (kk : Nat))), .cr 18 [i64 wh, i64 7] [none, some (ro nc n0 1), some (own ec 31 4)] (.val (i64 6)), .cr 16 [.agg ⟨[i64 (IntKind.wrap .i64 (0 - N)), sl 3 ne]⟩] [none, some (ro nc n0 1), some (own ec 31 4)] (.val (.bool b2)), .cr 17 [.agg ⟨[i64 (IntKind.wrap .i64 (0 - N)), sl 3 ne]⟩] [none, some (ro nc n0 1), some (own ec 31 4)] (.val (.bool b2))]) := by kernel_rfl
theorem ck_sn_few (rN sz wh at' v : Int) (nr r0 : Nat) (rc : List Value) : run3 (.agg ⟨[i64 rN, (sl 0 nr)]⟩) (.slice none 0 0) sz wh at' v [(0, ro rc r0 4)] (SP3 []) [0, 1, 9] [got 12 (.bool false)] =
    some (.ret, (), some (.bool true), [.cr 14 [.agg ⟨[i64 rN, (sl 0 nr)]⟩] [some (ro rc r0 4), none, none] (.val (.bool false))]) := by kernel_rfl
theorem ck_sn_e (rN sz wh at' v N : Int) (nr r0 : Nat) (rc : List Value) (b b2 : Bool) : run3 (.agg ⟨[i64 rN, (sl 0 nr)]⟩) (.slice none 0 0) sz wh at' v [(0, ro rc r0 4)] (SP3 []) [0, 1, 9] [got 12 (.bool true), got 21 (.agg ⟨[i64 N, .slice none 0 0]⟩), got 29 (.bool b), got 33 (.bool b), fls 38, fls 40, got 41 (.bool true), fls 42, fls 45, got 59 (.bool b2), got 63 (.bool b2)] =
    some (.ret, (), some (.bool (b2 == b2)), [.cr 14 [.agg ⟨[i64 rN, (sl 0 nr)]⟩] [some (ro rc r0 4), none, none] (.val (.bool true)), .cr 15 [i64 sz, (.slice none 0 0), i64 1] [some (ro rc r0 4), none, none] (.val (.agg ⟨[i64 N, .slice none 0 0]⟩)), .cr 16 [.agg ⟨[i64 rN, (sl 0 nr)]⟩] [some (ro rc r0 4), none, none] (.val (.bool b)), .cr 17 [.agg ⟨[i64 rN, (sl 0 nr)]⟩] [some (ro rc r0 4), none, none] (.val (.bool b)), .b ((b != b)) (.val (.bool false)), .b ((b != b)) (.val (.bool false)), .cr 16 [.agg ⟨[i64 N, .slice none 0 0]⟩] [some (ro rc r0 4), none, none] (.val (.bool true)), .b ((b != b)) (.val (.bool false)), .b ((b != b)) (.val (.bool false)), .cr 16 [.agg ⟨[i64 N, .slice none 0 0]⟩] [some (ro rc r0 4), none, none] (.val (.bool b2)), .cr 17 [.agg ⟨[i64 N, .slice none 0 0]⟩] [some (ro rc r0 4), none, none] (.val (.bool b2))]) := by kernel_rfl
theorem ck_sn_q0 (rN sz wh at' v N : Int) (nr ne kk r0 : Nat) (rc ec ec2 : List Value) (b b2 : Bool) : run3 (.agg ⟨[i64 rN, (sl 0 nr)]⟩) (.slice none 0 0) sz wh at' v [(0, ro rc r0 4)] (SP3 []) [0, 1, 3] [got 12 (.bool true), madeB 21 (.agg ⟨[i64 N, sl 3 ne]⟩) (own ec 31 4), got 29 (.bool b), got 33 (.bool b), fls 38, fls 40, got 41 (.bool true), fls 42, fls 45, tru 55, got 65 (i64 (kk : Nat)), got 71 (i64 0), tru 86, onto 90 (ec2), got 94 (.bool b2), got 98 (.bool b2)] =
    some (.ret, (), some (.bool (b2 == b2)), [.cr 14 [.agg ⟨[i64 rN, (sl 0 nr)]⟩] [some (ro rc r0 4), none, none] (.val (.bool true)), .ca 15 [i64 sz, (.slice none 0 0), i64 1] [some (ro rc r0 4), none, none] 3 (.val (.agg ⟨[i64 N, sl 3 ne]⟩)) (own ec 31 4), .cr 16 [.agg ⟨[i64 rN, (sl 0 nr)]⟩] [some (ro rc r0 4), none, some (own ec 31 4)] (.val (.bool b)), .cr 17 [.agg ⟨[i64 rN, (sl 0 nr)]⟩] [some (ro rc r0 4), none, some (own ec 31 4)] (.val (.bool b)), .b ((b != b)) (.val (.bool false)), .b ((b != b)) (.val (.bool false)), .cr 16 [.agg ⟨[i64 N, sl 3 ne]⟩] [some (ro rc r0 4), none, some (own ec 31 4)] (.val (.bool true)), .b ((b != b)) (.val (.bool false)), .b ((b != b)) (.val (.bool false)), .b (decide ((ne : Int) > 0)) (.val (.bool true)), .cr 18 [i64 at', i64 ne] [some (ro rc r0 4), none, some (own ec 31 4)] (.val (i64 (kk : Nat))), .cr 18 [i64 wh, i64 7] [some (ro rc r0 4), none, some (own ec 31 4)] (.val (i64 0)), .ib (kk : Nat) ne, .st 3 (0 + ((kk : Nat) : Int).toNat * 4) (i64 v) ec2 (own ec 31 4), .cr 16 [.agg ⟨[i64 (N), sl 3 ne]⟩] [some (ro rc r0 4), none, some (own ec2 31 4)] (.val (.bool b2)), .cr 17 [.agg ⟨[i64 (N), sl 3 ne]⟩] [some (ro rc r0 4), none, some (own ec2 31 4)] (.val (.bool b2))]) := by kernel_rfl
theorem ck_sn_q1 (rN sz wh at' v N : Int) (nr ne kk r0 : Nat) (rc ec ec2 : List Value) (b b2 : Bool) : run3 (.agg ⟨[i64 rN, (sl 0 nr)]⟩) (.slice none 0 0) sz wh at' v [(0, ro rc r0 4)] (SP3 []) [0, 1, 3] [got 12 (.bool true), madeB 21 (.agg ⟨[i64 N, sl 3 ne]⟩) (own ec 31 4), got 29 (.bool b), got 33 (.bool b), fls 38, fls 40, got 41 (.bool true), fls 42, fls 45, tru 55, got 65 (i64 (kk : Nat)), got 71 (i64 1), tru 101, onto 105 (ec2), got 109 (.bool b2), got 113 (.bool b2)] =
    some (.ret, (), some (.bool (b2 == b2)), [.cr 14 [.agg ⟨[i64 rN, (sl 0 nr)]⟩] [some (ro rc r0 4), none, none] (.val (.bool true)), .ca 15 [i64 sz, (.slice none 0 0), i64 1] [some (ro rc r0 4), none, none] 3 (.val (.agg ⟨[i64 N, sl 3 ne]⟩)) (own ec 31 4), .cr 16 [.agg ⟨[i64 rN, (sl 0 nr)]⟩] [some (ro rc r0 4), none, some (own ec 31 4)] (.val (.bool b)), .cr 17 [.agg ⟨[i64 rN, (sl 0 nr)]⟩] [some (ro rc r0 4), none, some (own ec 31 4)] (.val (.bool b)), .b ((b != b)) (.val (.bool false)), .b ((b != b)) (.val (.bool false)), .cr 16 [.agg ⟨[i64 N, sl 3 ne]⟩] [some (ro rc r0 4), none, some (own ec 31 4)] (.val (.bool true)), .b ((b != b)) (.val (.bool false)), .b ((b != b)) (.val (.bool false)), .b (decide ((ne : Int) > 0)) (.val (.bool true)), .cr 18 [i64 at', i64 ne] [some (ro rc r0 4), none, some (own ec 31 4)] (.val (i64 (kk : Nat))), .cr 18 [i64 wh, i64 7] [some (ro rc r0 4), none, some (own ec 31 4)] (.val (i64 1)), .ib (kk : Nat) ne, .st 3 (0 + ((kk : Nat) : Int).toNat * 4 + 1) (i64 (IntKind.wrap .i64 (IntKind.wrap .i64 (N - 1) + modI v 2))) ec2 (own ec 31 4), .cr 16 [.agg ⟨[i64 (N), sl 3 ne]⟩] [some (ro rc r0 4), none, some (own ec2 31 4)] (.val (.bool b2)), .cr 17 [.agg ⟨[i64 (N), sl 3 ne]⟩] [some (ro rc r0 4), none, some (own ec2 31 4)] (.val (.bool b2))]) := by kernel_rfl
theorem ck_sn_q2 (rN sz wh at' v N x : Int) (nr ne kk jj r0 : Nat) (rc ec ec2 : List Value) (b b2 : Bool) : run3 (.agg ⟨[i64 rN, (sl 0 nr)]⟩) (.slice none 0 0) sz wh at' v [(0, ro rc r0 4)] (SP3 []) [0, 1, 3] [got 12 (.bool true), madeB 21 (.agg ⟨[i64 N, sl 3 ne]⟩) (own ec 31 4), got 29 (.bool b), got 33 (.bool b), fls 38, fls 40, got 41 (.bool true), fls 42, fls 45, tru 55, got 65 (i64 (kk : Nat)), got 71 (i64 2), got 100 (i64 (jj : Nat)), tru 102, got 104 (i64 x), tru 106, onto 110 (ec2), got 114 (.bool b2), got 118 (.bool b2)] =
    some (.ret, (), some (.bool (b2 == b2)), [.cr 14 [.agg ⟨[i64 rN, (sl 0 nr)]⟩] [some (ro rc r0 4), none, none] (.val (.bool true)), .ca 15 [i64 sz, (.slice none 0 0), i64 1] [some (ro rc r0 4), none, none] 3 (.val (.agg ⟨[i64 N, sl 3 ne]⟩)) (own ec 31 4), .cr 16 [.agg ⟨[i64 rN, (sl 0 nr)]⟩] [some (ro rc r0 4), none, some (own ec 31 4)] (.val (.bool b)), .cr 17 [.agg ⟨[i64 rN, (sl 0 nr)]⟩] [some (ro rc r0 4), none, some (own ec 31 4)] (.val (.bool b)), .b ((b != b)) (.val (.bool false)), .b ((b != b)) (.val (.bool false)), .cr 16 [.agg ⟨[i64 N, sl 3 ne]⟩] [some (ro rc r0 4), none, some (own ec 31 4)] (.val (.bool true)), .b ((b != b)) (.val (.bool false)), .b ((b != b)) (.val (.bool false)), .b (decide ((ne : Int) > 0)) (.val (.bool true)), .cr 18 [i64 at', i64 ne] [some (ro rc r0 4), none, some (own ec 31 4)] (.val (i64 (kk : Nat))), .cr 18 [i64 wh, i64 7] [some (ro rc r0 4), none, some (own ec 31 4)] (.val (i64 2)), .cr 18 [i64 v, i64 5] [some (ro rc r0 4), none, some (own ec 31 4)] (.val (i64 (jj : Nat))), .ib (jj : Nat) 5, .ld 3 (0 + ((jj : Nat) : Int).toNat * 1) (some (own [i64 (-1), i64 0, i64 4, i64 5, i64 v] 3 1)) (.val (i64 x)), .ib (kk : Nat) ne, .st 3 (0 + ((kk : Nat) : Int).toNat * 4 + 2) (i64 x) ec2 (own ec 31 4), .cr 16 [.agg ⟨[i64 (N), sl 3 ne]⟩] [some (ro rc r0 4), none, some (own ec2 31 4)] (.val (.bool b2)), .cr 17 [.agg ⟨[i64 (N), sl 3 ne]⟩] [some (ro rc r0 4), none, some (own ec2 31 4)] (.val (.bool b2))]) := by kernel_rfl
theorem ck_sn_q3 (rN sz wh at' v N x : Int) (nr ne kk jj r0 : Nat) (rc ec ec2 : List Value) (b b2 : Bool) : run3 (.agg ⟨[i64 rN, (sl 0 nr)]⟩) (.slice none 0 0) sz wh at' v [(0, ro rc r0 4)] (SP3 []) [0, 1, 3] [got 12 (.bool true), madeB 21 (.agg ⟨[i64 N, sl 3 ne]⟩) (own ec 31 4), got 29 (.bool b), got 33 (.bool b), fls 38, fls 40, got 41 (.bool true), fls 42, fls 45, tru 55, got 65 (i64 (kk : Nat)), got 71 (i64 3), got 105 (i64 (jj : Nat)), tru 107, got 109 (i64 x), tru 111, onto 115 (ec2), got 119 (.bool b2), got 123 (.bool b2)] =
    some (.ret, (), some (.bool (b2 == b2)), [.cr 14 [.agg ⟨[i64 rN, (sl 0 nr)]⟩] [some (ro rc r0 4), none, none] (.val (.bool true)), .ca 15 [i64 sz, (.slice none 0 0), i64 1] [some (ro rc r0 4), none, none] 3 (.val (.agg ⟨[i64 N, sl 3 ne]⟩)) (own ec 31 4), .cr 16 [.agg ⟨[i64 rN, (sl 0 nr)]⟩] [some (ro rc r0 4), none, some (own ec 31 4)] (.val (.bool b)), .cr 17 [.agg ⟨[i64 rN, (sl 0 nr)]⟩] [some (ro rc r0 4), none, some (own ec 31 4)] (.val (.bool b)), .b ((b != b)) (.val (.bool false)), .b ((b != b)) (.val (.bool false)), .cr 16 [.agg ⟨[i64 N, sl 3 ne]⟩] [some (ro rc r0 4), none, some (own ec 31 4)] (.val (.bool true)), .b ((b != b)) (.val (.bool false)), .b ((b != b)) (.val (.bool false)), .b (decide ((ne : Int) > 0)) (.val (.bool true)), .cr 18 [i64 at', i64 ne] [some (ro rc r0 4), none, some (own ec 31 4)] (.val (i64 (kk : Nat))), .cr 18 [i64 wh, i64 7] [some (ro rc r0 4), none, some (own ec 31 4)] (.val (i64 3)), .cr 18 [i64 v, i64 5] [some (ro rc r0 4), none, some (own ec 31 4)] (.val (i64 (jj : Nat))), .ib (jj : Nat) 5, .ld 3 (0 + ((jj : Nat) : Int).toNat * 1) (some (own [i64 (-1), i64 0, i64 2147483647, i64 2147483648, i64 v] 3 1)) (.val (i64 x)), .ib (kk : Nat) ne, .st 3 (0 + ((kk : Nat) : Int).toNat * 4 + 3) (i64 x) ec2 (own ec 31 4), .cr 16 [.agg ⟨[i64 (N), sl 3 ne]⟩] [some (ro rc r0 4), none, some (own ec2 31 4)] (.val (.bool b2)), .cr 17 [.agg ⟨[i64 (N), sl 3 ne]⟩] [some (ro rc r0 4), none, some (own ec2 31 4)] (.val (.bool b2))]) := by kernel_rfl
theorem ck_sn_q4 (rN sz wh at' v N x : Int) (nr ne kk jj r0 : Nat) (rc ec : List Value) (b b2 : Bool) : run3 (.agg ⟨[i64 rN, (sl 0 nr)]⟩) (.slice none 0 0) sz wh at' v [(0, ro rc r0 4)] (SP3 []) [0, 1, 3] [got 12 (.bool true), madeB 21 (.agg ⟨[i64 N, sl 3 ne]⟩) (own ec 31 4), got 29 (.bool b), got 33 (.bool b), fls 38, fls 40, got 41 (.bool true), fls 42, fls 45, tru 55, got 65 (i64 (kk : Nat)), got 71 (i64 4), got 104 (i64 (jj : Nat)), tru 106, got 108 (i64 x), got 116 (.bool b2), got 120 (.bool b2)] =
    some (.ret, (), some (.bool (b2 == b2)), [.cr 14 [.agg ⟨[i64 rN, (sl 0 nr)]⟩] [some (ro rc r0 4), none, none] (.val (.bool true)), .ca 15 [i64 sz, (.slice none 0 0), i64 1] [some (ro rc r0 4), none, none] 3 (.val (.agg ⟨[i64 N, sl 3 ne]⟩)) (own ec 31 4), .cr 16 [.agg ⟨[i64 rN, (sl 0 nr)]⟩] [some (ro rc r0 4), none, some (own ec 31 4)] (.val (.bool b)), .cr 17 [.agg ⟨[i64 rN, (sl 0 nr)]⟩] [some (ro rc r0 4), none, some (own ec 31 4)] (.val (.bool b)), .b ((b != b)) (.val (.bool false)), .b ((b != b)) (.val (.bool false)), .cr 16 [.agg ⟨[i64 N, sl 3 ne]⟩] [some (ro rc r0 4), none, some (own ec 31 4)] (.val (.bool true)), .b ((b != b)) (.val (.bool false)), .b ((b != b)) (.val (.bool false)), .b (decide ((ne : Int) > 0)) (.val (.bool true)), .cr 18 [i64 at', i64 ne] [some (ro rc r0 4), none, some (own ec 31 4)] (.val (i64 (kk : Nat))), .cr 18 [i64 wh, i64 7] [some (ro rc r0 4), none, some (own ec 31 4)] (.val (i64 4)), .cr 18 [i64 v, i64 5] [some (ro rc r0 4), none, some (own ec 31 4)] (.val (i64 (jj : Nat))), .ib (jj : Nat) 5, .ld 3 (0 + ((jj : Nat) : Int).toNat * 1) (some (own [i64 0, i64 1, i64 60, i64 61, i64 v] 3 1)) (.val (i64 x)), .cr 16 [.agg ⟨[i64 (x), sl 3 ne]⟩] [some (ro rc r0 4), none, some (own ec 31 4)] (.val (.bool b2)), .cr 17 [.agg ⟨[i64 (x), sl 3 ne]⟩] [some (ro rc r0 4), none, some (own ec 31 4)] (.val (.bool b2))]) := by kernel_rfl
theorem ck_sn_q5 (rN sz wh at' v N : Int) (nr ne nn2 kk r0 : Nat) (rc ec ec2 : List Value) (b b2 : Bool) (g : Code → St → Option (AExit × St)) : run3 (.agg ⟨[i64 rN, (sl 0 nr)]⟩) (.slice none 0 0) sz wh at' v [(0, ro rc r0 4)] (SP3 [(1, g)]) [0, 1, 3, 5] [got 12 (.bool true), madeB 21 (.agg ⟨[i64 N, sl 3 ne]⟩) (own ec 31 4), got 29 (.bool b), got 33 (.bool b), fls 38, fls 40, got 41 (.bool true), fls 42, fls 45, tru 55, got 65 (i64 (kk : Nat)), got 71 (i64 5), past 102 .normal (I3 N v kk nn2 ec2 10), got 106 (.bool b2), got 110 (.bool b2)] =
    some (.ret, (), some (.bool (b2 == b2)), [.cr 14 [.agg ⟨[i64 rN, (sl 0 nr)]⟩] [some (ro rc r0 4), none, none, none] (.val (.bool true)), .ca 15 [i64 sz, (.slice none 0 0), i64 1] [some (ro rc r0 4), none, none, none] 3 (.val (.agg ⟨[i64 N, sl 3 ne]⟩)) (own ec 31 4), .cr 16 [.agg ⟨[i64 rN, (sl 0 nr)]⟩] [some (ro rc r0 4), none, some (own ec 31 4), none] (.val (.bool b)), .cr 17 [.agg ⟨[i64 rN, (sl 0 nr)]⟩] [some (ro rc r0 4), none, some (own ec 31 4), none] (.val (.bool b)), .b ((b != b)) (.val (.bool false)), .b ((b != b)) (.val (.bool false)), .cr 16 [.agg ⟨[i64 N, sl 3 ne]⟩] [some (ro rc r0 4), none, some (own ec 31 4), none] (.val (.bool true)), .b ((b != b)) (.val (.bool false)), .b ((b != b)) (.val (.bool false)), .b (decide ((ne : Int) > 0)) (.val (.bool true)), .cr 18 [i64 at', i64 ne] [some (ro rc r0 4), none, some (own ec 31 4), none] (.val (i64 (kk : Nat))), .cr 18 [i64 wh, i64 7] [some (ro rc r0 4), none, some (own ec 31 4), none] (.val (i64 5)), .bk 1 (.loop loop3) 5 [4] (some (I3 N v kk ne ec 6)) [ec] true .normal (I3 N v kk nn2 ec2 10), .cr 16 [.agg ⟨[i64 (N), sl 5 nn2]⟩] [none, none, none, some (own ec2 31 4)] (.val (.bool b2)), .cr 17 [.agg ⟨[i64 (N), sl 5 nn2]⟩] [none, none, none, some (own ec2 31 4)] (.val (.bool b2))]) := by kernel_rfl
theorem ck_sn_q6 (rN sz wh at' v N : Int) (nr ne kk r0 : Nat) (rc ec : List Value) (b b2 : Bool) : run3 (.agg ⟨[i64 rN, (sl 0 nr)]⟩) (.slice none 0 0) sz wh at' v [(0, ro rc r0 4)] (SP3 []) [0, 1, 3] [got 12 (.bool true), madeB 21 (.agg ⟨[i64 N, sl 3 ne]⟩) (own ec 31 4), got 29 (.bool b), got 33 (.bool b), fls 38, fls 40, got 41 (.bool true), fls 42, fls 45, tru 55, got 65 (i64 (kk : Nat)), got 71 (i64 6), got 120 (.bool b2), got 124 (.bool b2)] =
    some (.ret, (), some (.bool (b2 == b2)), [.cr 14 [.agg ⟨[i64 rN, (sl 0 nr)]⟩] [some (ro rc r0 4), none, none] (.val (.bool true)), .ca 15 [i64 sz, (.slice none 0 0), i64 1] [some (ro rc r0 4), none, none] 3 (.val (.agg ⟨[i64 N, sl 3 ne]⟩)) (own ec 31 4), .cr 16 [.agg ⟨[i64 rN, (sl 0 nr)]⟩] [some (ro rc r0 4), none, some (own ec 31 4)] (.val (.bool b)), .cr 17 [.agg ⟨[i64 rN, (sl 0 nr)]⟩] [some (ro rc r0 4), none, some (own ec 31 4)] (.val (.bool b)), .b ((b != b)) (.val (.bool false)), .b ((b != b)) (.val (.bool false)), .cr 16 [.agg ⟨[i64 N, sl 3 ne]⟩] [some (ro rc r0 4), none, some (own ec 31 4)] (.val (.bool true)), .b ((b != b)) (.val (.bool false)), .b ((b != b)) (.val (.bool false)), .b (decide ((ne : Int) > 0)) (.val (.bool true)), .cr 18 [i64 at', i64 ne] [some (ro rc r0 4), none, some (own ec 31 4)] (.val (i64 (kk : Nat))), .cr 18 [i64 wh, i64 7] [some (ro rc r0 4), none, some (own ec 31 4)] (.val (i64 6)), .cr 16 [.agg ⟨[i64 (IntKind.wrap .i64 (0 - N)), sl 3 ne]⟩] [some (ro rc r0 4), none, some (own ec 31 4)] (.val (.bool b2)), .cr 17 [.agg ⟨[i64 (IntKind.wrap .i64 (0 - N)), sl 3 ne]⟩] [some (ro rc r0 4), none, some (own ec 31 4)] (.val (.bool b2))]) := by kernel_rfl
theorem ck_ss_few (rN sz wh at' v : Int) (nr nn r0 n0 : Nat) (rc nc : List Value) : run3 (.agg ⟨[i64 rN, (sl 0 nr)]⟩) (sl 1 nn) sz wh at' v [(0, ro rc r0 4), (1, ro nc n0 1)] (SP3 []) [0, 1, 9] [got 12 (.bool false)] =
    some (.ret, (), some (.bool true), [.cr 14 [.agg ⟨[i64 rN, (sl 0 nr)]⟩] [some (ro rc r0 4), some (ro nc n0 1), none] (.val (.bool false))]) := by kernel_rfl
theorem ck_ss_e (rN sz wh at' v N : Int) (nr nn r0 n0 : Nat) (rc nc : List Value) (b b2 : Bool) : run3 (.agg ⟨[i64 rN, (sl 0 nr)]⟩) (sl 1 nn) sz wh at' v [(0, ro rc r0 4), (1, ro nc n0 1)] (SP3 []) [0, 1, 9] [got 12 (.bool true), got 21 (.agg ⟨[i64 N, .slice none 0 0]⟩), got 29 (.bool b), got 33 (.bool b), fls 38, fls 40, got 41 (.bool true), fls 42, fls 45, got 59 (.bool b2), got 63 (.bool b2)] =
    some (.ret, (), some (.bool (b2 == b2)), [.cr 14 [.agg ⟨[i64 rN, (sl 0 nr)]⟩] [some (ro rc r0 4), some (ro nc n0 1), none] (.val (.bool true)), .cr 15 [i64 sz, (sl 1 nn), i64 1] [some (ro rc r0 4), some (ro nc n0 1), none] (.val (.agg ⟨[i64 N, .slice none 0 0]⟩)), .cr 16 [.agg ⟨[i64 rN, (sl 0 nr)]⟩] [some (ro rc r0 4), some (ro nc n0 1), none] (.val (.bool b)), .cr 17 [.agg ⟨[i64 rN, (sl 0 nr)]⟩] [some (ro rc r0 4), some (ro nc n0 1), none] (.val (.bool b)), .b ((b != b)) (.val (.bool false)), .b ((b != b)) (.val (.bool false)), .cr 16 [.agg ⟨[i64 N, .slice none 0 0]⟩] [some (ro rc r0 4), some (ro nc n0 1), none] (.val (.bool true)), .b ((b != b)) (.val (.bool false)), .b ((b != b)) (.val (.bool false)), .cr 16 [.agg ⟨[i64 N, .slice none 0 0]⟩] [some (ro rc r0 4), some (ro nc n0 1), none] (.val (.bool b2)), .cr 17 [.agg ⟨[i64 N, .slice none 0 0]⟩] [some (ro rc r0 4), some (ro nc n0 1), none] (.val (.bool b2))]) := by kernel_rfl
theorem ck_ss_q0 (rN sz wh at' v N : Int) (nr nn ne kk r0 n0 : Nat) (rc nc ec ec2 : List Value) (b b2 : Bool) : run3 (.agg ⟨[i64 rN, (sl 0 nr)]⟩) (sl 1 nn) sz wh at' v [(0, ro rc r0 4), (1, ro nc n0 1)] (SP3 []) [0, 1, 3] [got 12 (.bool true), madeB 21 (.agg ⟨[i64 N, sl 3 ne]⟩) (own ec 31 4), got 29 (.bool b), got 33 (.bool b), fls 38, fls 40, got 41 (.bool true), fls 42, fls 45, tru 55, got 65 (i64 (kk : Nat)), got 71 (i64 0), tru 86, onto 90 (ec2), got 94 (.bool b2), got 98 (.bool b2)] =
    some (.ret, (), some (.bool (b2 == b2)), [.cr 14 [.agg ⟨[i64 rN, (sl 0 nr)]⟩] [some (ro rc r0 4), some (ro nc n0 1), none] (.val (.bool true)), .ca 15 [i64 sz, (sl 1 nn), i64 1] [some (ro rc r0 4), some (ro nc n0 1), none] 3 (.val (.agg ⟨[i64 N, sl 3 ne]⟩)) (own ec 31 4), .cr 16 [.agg ⟨[i64 rN, (sl 0 nr)]⟩] [some (ro rc r0 4), some (ro nc n0 1), some (own ec 31 4)] (.val (.bool b)), .cr 17 [.agg ⟨[i64 rN, (sl 0 nr)]⟩] [some (ro rc r0 4), some (ro nc n0 1), some (own ec 31 4)] (.val (.bool b)), .b ((b != b)) (.val (.bool false)), .b ((b != b)) (.val (.bool false)), .cr 16 [.agg ⟨[i64 N, sl 3 ne]⟩] [some (ro rc r0 4), some (ro nc n0 1), some (own ec 31 4)] (.val (.bool true)), .b ((b != b)) (.val (.bool false)), .b ((b != b)) (.val (.bool false)), .b (decide ((ne : Int) > 0)) (.val (.bool true)), .cr 18 [i64 at', i64 ne] [some (ro rc r0 4), some (ro nc n0 1), some (own ec 31 4)] (.val (i64 (kk : Nat))), .cr 18 [i64 wh, i64 7] [some (ro rc r0 4), some (ro nc n0 1), some (own ec 31 4)] (.val (i64 0)), .ib (kk : Nat) ne, .st 3 (0 + ((kk : Nat) : Int).toNat * 4) (i64 v) ec2 (own ec 31 4), .cr 16 [.agg ⟨[i64 (N), sl 3 ne]⟩] [some (ro rc r0 4), some (ro nc n0 1), some (own ec2 31 4)] (.val (.bool b2)), .cr 17 [.agg ⟨[i64 (N), sl 3 ne]⟩] [some (ro rc r0 4), some (ro nc n0 1), some (own ec2 31 4)] (.val (.bool b2))]) := by kernel_rfl
theorem ck_ss_q1 (rN sz wh at' v N : Int) (nr nn ne kk r0 n0 : Nat) (rc nc ec ec2 : List Value) (b b2 : Bool) : run3 (.agg ⟨[i64 rN, (sl 0 nr)]⟩) (sl 1 nn) sz wh at' v [(0, ro rc r0 4), (1, ro nc n0 1)] (SP3 []) [0, 1, 3] [got 12 (.bool true), madeB 21 (.agg ⟨[i64 N, sl 3 ne]⟩) (own ec 31 4), got 29 (.bool b), got 33 (.bool b), fls 38, fls 40, got 41 (.bool true), fls 42, fls 45, tru 55, got 65 (i64 (kk : Nat)), got 71 (i64 1), tru 101, onto 105 (ec2), got 109 (.bool b2), got 113 (.bool b2)] =
    some (.ret, (), some (.bool (b2 == b2)), [.cr 14 [.agg ⟨[i64 rN, (sl 0 nr)]⟩] [some (ro rc r0 4), some (ro nc n0 1), none] (.val (.bool true)), .ca 15 [i64 sz, (sl 1 nn), i64 1] [some (ro rc r0 4), some (ro nc n0 1), none] 3 (.val (.agg ⟨[i64 N, sl 3 ne]⟩)) (own ec 31 4), .cr 16 [.agg ⟨[i64 rN, (sl 0 nr)]⟩] [some (ro rc r0 4), some (ro nc n0 1), some (own ec 31 4)] (.val (.bool b)), .cr 17 [.agg ⟨[i64 rN, (sl 0 nr)]⟩] [some (ro rc r0 4), some (ro nc n0 1), some (own ec 31 4)] (.val (.bool b)), .b ((b != b)) (.val (.bool false)), .b ((b != b)) (.val (.bool false)), .cr 16 [.agg ⟨[i64 N, sl 3 ne]⟩] [some (ro rc r0 4), some (ro nc n0 1), some (own ec 31 4)] (.val (.bool true)), .b ((b != b)) (.val (.bool false)), .b ((b != b)) (.val (.bool false)), .b (decide ((ne : Int) > 0)) (.val (.bool true)), .cr 18 [i64 at', i64 ne] [some (ro rc r0 4), some (ro nc n0 1), some (own ec 31 4)] (.val (i64 (kk : Nat))), .cr 18 [i64 wh, i64 7] [some (ro rc r0 4), some (ro nc n0 1), some (own ec 31 4)] (.val (i64 1)), .ib (kk : Nat) ne, .st 3 (0 + ((kk : Nat) : Int).toNat * 4 + 1) (i64 (IntKind.wrap .i64 (IntKind.wrap .i64 (N - 1) + modI v 2))) ec2 (own ec 31 4), .cr 16 [.agg ⟨[i64 (N), sl 3 ne]⟩] [some (ro rc r0 4), some (ro nc n0 1), some (own ec2 31 4)] (.val (.bool b2)), .cr 17 [.agg ⟨[i64 (N), sl 3 ne]⟩] [some (ro rc r0 4), some (ro nc n0 1), some (own ec2 31 4)] (.val (.bool b2))]) := by kernel_rfl
theorem ck_ss_q2 (rN sz wh at' v N x : Int) (nr nn ne kk jj r0 n0 : Nat) (rc nc ec ec2 : List Value) (b b2 : Bool) : run3 (.agg ⟨[i64 rN, (sl 0 nr)]⟩) (sl 1 nn) sz wh at' v [(0, ro rc r0 4), (1, ro nc n0 1)] (SP3 []) [0, 1, 3] [got 12 (.bool true), madeB 21 (.agg ⟨[i64 N, sl 3 ne]⟩) (own ec 31 4), got 29 (.bool b), got 33 (.bool b), fls 38, fls 40, got 41 (.bool true), fls 42, fls 45, tru 55, got 65 (i64 (kk : Nat)), got 71 (i64 2), got 100 (i64 (jj : Nat)), tru 102, got 104 (i64 x), tru 106, onto 110 (ec2), got 114 (.bool b2), got 118 (.bool b2)] =
    some (.ret, (), some (.bool (b2 == b2)), [.cr 14 [.agg ⟨[i64 rN, (sl 0 nr)]⟩] [some (ro rc r0 4), some (ro nc n0 1), none] (.val (.bool true)), .ca 15 [i64 sz, (sl 1 nn), i64 1] [some (ro rc r0 4), some (ro nc n0 1), none] 3 (.val (.agg ⟨[i64 N, sl 3 ne]⟩)) (own ec 31 4), .cr 16 [.agg ⟨[i64 rN, (sl 0 nr)]⟩] [some (ro rc r0 4), some (ro nc n0 1), some (own ec 31 4)] (.val (.bool b)), .cr 17 [.agg ⟨[i64 rN, (sl 0 nr)]⟩] [some (ro rc r0 4), some (ro nc n0 1), some (own ec 31 4)] (.val (.bool b)), .b ((b != b)) (.val (.bool false)), .b ((b != b)) (.val (.bool false)), .cr 16 [.agg ⟨[i64 N, sl 3 ne]⟩] [some (ro rc r0 4), some (ro nc n0 1), some (own ec 31 4)] (.val (.bool true)), .b ((b != b)) (.val (.bool false)), .b ((b != b)) (.val (.bool false)), .b (decide ((ne : Int) > 0)) (.val (.bool true)), .cr 18 [i64 at', i64 ne] [some (ro rc r0 4), some (ro nc n0 1), some (own ec 31 4)] (.val (i64 (kk : Nat))), .cr 18 [i64 wh, i64 7] [some (ro rc r0 4), some (ro nc n0 1), some (own ec 31 4)] (.val (i64 2)), .cr 18 [i64 v, i64 5] [some (ro rc r0 4), some (ro nc n0 1), some (own ec 31 4)] (.val (i64 (jj : Nat))), .ib (jj : Nat) 5, .ld 3 (0 + ((jj : Nat) : Int).toNat * 1) (some (own [i64 (-1), i64 0, i64 4, i64 5, i64 v] 3 1)) (.val (i64 x)), .ib (kk : Nat) ne, .st 3 (0 + ((kk : Nat) : Int).toNat * 4 + 2) (i64 x) ec2 (own ec 31 4), .cr 16 [.agg ⟨[i64 (N), sl 3 ne]⟩] [some (ro rc r0 4), some (ro nc n0 1), some (own ec2 31 4)] (.val (.bool b2)), .cr 17 [.agg ⟨[i64 (N), sl 3 ne]⟩] [some (ro rc r0 4), some (ro nc n0 1), some (own ec2 31 4)] (.val (.bool b2))]) := by kernel_rfl
theorem ck_ss_q3 (rN sz wh at' v N x : Int) (nr nn ne kk jj r0 n0 : Nat) (rc nc ec ec2 : List Value) (b b2 : Bool) : run3 (.agg ⟨[i64 rN, (sl 0 nr)]⟩) (sl 1 nn) sz wh at' v [(0, ro rc r0 4), (1, ro nc n0 1)] (SP3 []) [0, 1, 3] [got 12 (.bool true), madeB 21 (.agg ⟨[i64 N, sl 3 ne]⟩) (own ec 31 4), got 29 (.bool b), got 33 (.bool b), fls 38, fls 40, got 41 (.bool true), fls 42, fls 45, tru 55, got 65 (i64 (kk : Nat)), got 71 (i64 3), got 105 (i64 (jj : Nat)), tru 107, got 109 (i64 x), tru 111, onto 115 (ec2), got 119 (.bool b2), got 123 (.bool b2)] =
    some (.ret, (), some (.bool (b2 == b2)), [.cr 14 [.agg ⟨[i64 rN, (sl 0 nr)]⟩] [some (ro rc r0 4), some (ro nc n0 1), none] (.val (.bool true)), .ca 15 [i64 sz, (sl 1 nn), i64 1] [some (ro rc r0 4), some (ro nc n0 1), none] 3 (.val (.agg ⟨[i64 N, sl 3 ne]⟩)) (own ec 31 4), .cr 16 [.agg ⟨[i64 rN, (sl 0 nr)]⟩] [some (ro rc r0 4), some (ro nc n0 1), some (own ec 31 4)] (.val (.bool b)), .cr 17 [.agg ⟨[i64 rN, (sl 0 nr)]⟩] [some (ro rc r0 4), some (ro nc n0 1), some (own ec 31 4)] (.val (.bool b)), .b ((b != b)) (.val (.bool false)), .b ((b != b)) (.val (.bool false)), .cr 16 [.agg ⟨[i64 N, sl 3 ne]⟩] [some (ro rc r0 4), some (ro nc n0 1), some (own ec 31 4)] (.val (.bool true)), .b ((b != b)) (.val (.bool false)), .b ((b != b)) (.val (.bool false)), .b (decide ((ne : Int) > 0)) (.val (.bool true)), .cr 18 [i64 at', i64 ne] [some (ro rc r0 4), some (ro nc n0 1), some (own ec 31 4)] (.val (i64 (kk : Nat))), .cr 18 [i64 wh, i64 7] [some (ro rc r0 4), some (ro nc n0 1), some (own ec 31 4)] (.val (i64 3)), .cr 18 [i64 v, i64 5] [some (ro rc r0 4), some (ro nc n0 1), some (own ec 31 4)] (.val (i64 (jj : Nat))), .ib (jj : Nat) 5, .ld 3 (0 + ((jj : Nat) : Int).toNat * 1) (some (own [i64 (-1), i64 0, i64 2147483647, i64 2147483648, i64 v] 3 1)) (.val (i64 x)), .ib (kk : Nat) ne, .st 3 (0 + ((kk : Nat) : Int).toNat * 4 + 3) (i64 x) ec2 (own ec 31 4), .cr 16 [.agg ⟨[i64 (N), sl 3 ne]⟩] [some (ro rc r0 4), some (ro nc n0 1), some (own ec2 31 4)] (.val (.bool b2)), .cr 17 [.agg ⟨[i64 (N), sl 3 ne]⟩] [some (ro rc r0 4), some (ro nc n0 1), some (own ec2 31 4)] (.val (.bool b2))]) := by kernel_rfl
theorem ck_ss_q4 (rN sz wh at' v N x : Int) (nr nn ne kk jj r0 n0 : Nat) (rc nc ec : List Value) (b b2 : Bool) : run3 (.agg ⟨[i64 rN, (sl 0 nr)]⟩) (sl 1 nn) sz wh at' v [(0, ro rc r0 4), (1, ro nc n0 1)] (SP3 []) [0, 1, 3] [got 12 (.bool true), madeB 21 (.agg ⟨[i64 N, sl 3 ne]⟩) (own ec 31 4), got 29 (.bool b), got 33 (.bool b), fls 38, fls 40, got 41 (.bool true), fls 42, fls 45, tru 55, got 65 (i64 (kk : Nat)), got 71 (i64 4), got 104 (i64 (jj : Nat)), tru 106, got 108 (i64 x), got 116 (.bool b2), got 120 (.bool b2)] =
    some (.ret, (), some (.bool (b2 == b2)), [.cr 14 [.agg ⟨[i64 rN, (sl 0 nr)]⟩] [some (ro rc r0 4), some (ro nc n0 1), none] (.val (.bool true)), .ca 15 [i64 sz, (sl 1 nn), i64 1] [some (ro rc r0 4), some (ro nc n0 1), none] 3 (.val (.agg ⟨[i64 N, sl 3 ne]⟩)) (own ec 31 4), .cr 16 [.agg ⟨[i64 rN, (sl 0 nr)]⟩] [some (ro rc r0 4), some (ro nc n0 1), some (own ec 31 4)] (.val (.bool b)), .cr 17 [.agg ⟨[i64 rN, (sl 0 nr)]⟩] [some (ro rc r0 4), some (ro nc n0 1), some (own ec 31 4)] (.val (.bool b)), .b ((b != b)) (.val (.bool false)), .b ((b != b)) (.val (.bool false)), .cr 16 [.agg ⟨[i64 N, sl 3 ne]⟩] [some (ro rc r0 4), some (ro nc n0 1), some (own ec 31 4)] (.val (.bool true)), .b ((b != b)) (.val (.bool false)), .b ((b != b)) (.val (.bool false)), .b (decide ((ne : Int) > 0)) (.val (.bool true)), .cr 18 [i64 at', i64 ne] [some (ro rc r0 4), some (ro nc n0 1), some (own ec 31 4)] (.val (i64 (kk : Nat))), .cr 18 [i64 wh, i64 7] [some (ro rc r0 4), some (ro nc n0 1), some (own ec 31 4)] (.val (i64 4)), .cr 18 [i64 v, i64 5] [some (ro rc r0 4), some (ro nc n0 1), some (own ec 31 4)] (.val (i64 (jj : Nat))), .ib (jj : Nat) 5, .ld 3 (0 + ((jj : Nat) : Int).toNat * 1) (some (own [i64 0, i64 1, i64 60, i64 61, i64 v] 3 1)) (.val (i64 x)), .cr 16 [.agg ⟨[i64 (x), sl 3 ne]⟩] [some (ro rc r0 4), some (ro nc n0 1), some (own ec 31 4)] (.val (.bool b2)), .cr 17 [.agg ⟨[i64 (x), sl 3 ne]⟩] [some (ro rc r0 4), some (ro nc n0 1), some (own ec 31 4)] (.val (.bool b2))]) := by kernel_rfl
theorem ck_ss_q5 (rN sz wh at' v N : Int) (nr nn ne nn2 kk r0 n0 : Nat) (rc nc ec ec2 : List Value) (b b2 : Bool) (g : Code → St → Option (AExit × St)) : run3 (.agg ⟨[i64 rN, (sl 0 nr)]⟩) (sl 1 nn) sz wh at' v [(0, ro rc r0 4), (1, ro nc n0 1)] (SP3 [(1, g)]) [0, 1, 3, 5] [got 12 (.bool true), madeB 21 (.agg ⟨[i64 N, sl 3 ne]⟩) (own ec 31 4), got 29 (.bool b), got 33 (.bool b), fls 38, fls 40, got 41 (.bool true), fls 42, fls 45, tru 55, got 65 (i64 (kk : Nat)), got 71 (i64 5), past 102 .normal (I3 N v kk nn2 ec2 10), got 106 (.bool b2), got 110 (.bool b2)] =
    some (.ret, (), some (.bool (b2 == b2)), [.cr 14 [.agg ⟨[i64 rN, (sl 0 nr)]⟩] [some (ro rc r0 4), some (ro nc n0 1), none, none] (.val (.bool true)), .ca 15 [i64 sz, (sl 1 nn), i64 1] [some (ro rc r0 4), some (ro nc n0 1), none, none] 3 (.val (.agg ⟨[i64 N, sl 3 ne]⟩)) (own ec 31 4), .cr 16 [.agg ⟨[i64 rN, (sl 0 nr)]⟩] [some (ro rc r0 4), some (ro nc n0 1), some (own ec 31 4), none] (.val (.bool b)), .cr 17 [.agg ⟨[i64 rN, (sl 0 nr)]⟩] [some (ro rc r0 4), some (ro nc n0 1), some (own ec 31 4), none] (.val (.bool b)), .b ((b != b)) (.val (.bool false)), .b ((b != b)) (.val (.bool false)), .cr 16 [.agg ⟨[i64 N, sl 3 ne]⟩] [some (ro rc r0 4), some (ro nc n0 1), some (own ec 31 4), none] (.val (.bool true)), .b ((b != b)) (.val (.bool false)), .b ((b != b)) (.val (.bool false)), .b (decide ((ne : Int) > 0)) (.val (.bool true)), .cr 18 [i64 at', i64 ne] [some (ro rc r0 4), some (ro nc n0 1), some (own ec 31 4), none] (.val (i64 (kk : Nat))), .cr 18 [i64 wh, i64 7] [some (ro rc r0 4), some (ro nc n0 1), some (own ec 31 4), none] (.val (i64 5)), .bk 1 (.loop loop3) 5 [4] (some (I3 N v kk ne ec 6)) [ec] true .normal (I3 N v kk nn2 ec2 10), .cr 16 [.agg ⟨[i64 (N), sl 5 nn2]⟩] [none, none, none, some (own ec2 31 4)] (.val (.bool b2)), .cr 17 [.agg ⟨[i64 (N), sl 5 nn2]⟩] [none, none, none, some (own ec2 31 4)] (.val (.bool b2))]) := by kernel_rfl
theorem ck_ss_q6 (rN sz wh at' v N : Int) (nr nn ne kk r0 n0 : Nat) (rc nc ec : List Value) (b b2 : Bool) : run3 (.agg ⟨[i64 rN, (sl 0 nr)]⟩) (sl 1 nn) sz wh at' v [(0, ro rc r0 4), (1, ro nc n0 1)] (SP3 []) [0, 1, 3] [got 12 (.bool true), madeB 21 (.agg ⟨[i64 N, sl 3 ne]⟩) (own ec 31 4), got 29 (.bool b), got 33 (.bool b), fls 38, fls 40, got 41 (.bool true), fls 42, fls 45, tru 55, got 65 (i64 (kk : Nat)), got 71 (i64 6), got 120 (.bool b2), got 124 (.bool b2)] =
    some (.ret, (), some (.bool (b2 == b2)), [.cr 14 [.agg ⟨[i64 rN, (sl 0 nr)]⟩] [some (ro rc r0 4), some (ro nc n0 1), none] (.val (.bool true)), .ca 15 [i64 sz, (sl 1 nn), i64 1] [some (ro rc r0 4), some (ro nc n0 1), none] 3 (.val (.agg ⟨[i64 N, sl 3 ne]⟩)) (own ec 31 4), .cr 16 [.agg ⟨[i64 rN, (sl 0 nr)]⟩] [some (ro rc r0 4), some (ro nc n0 1), some (own ec 31 4)] (.val (.bool b)), .cr 17 [.agg ⟨[i64 rN, (sl 0 nr)]⟩] [some (ro rc r0 4), some (ro nc n0 1), some (own ec 31 4)] (.val (.bool b)), .b ((b != b)) (.val (.bool false)), .b ((b != b)) (.val (.bool false)), .cr 16 [.agg ⟨[i64 N, sl 3 ne]⟩] [some (ro rc r0 4), some (ro nc n0 1), some (own ec 31 4)] (.val (.bool true)), .b ((b != b)) (.val (.bool false)), .b ((b != b)) (.val (.bool false)), .b (decide ((ne : Int) > 0)) (.val (.bool true)), .cr 18 [i64 at', i64 ne] [some (ro rc r0 4), some (ro nc n0 1), some (own ec 31 4)] (.val (i64 (kk : Nat))), .cr 18 [i64 wh, i64 7] [some (ro rc r0 4), some (ro nc n0 1), some (own ec 31 4)] (.val (i64 6)), .cr 16 [.agg ⟨[i64 (IntKind.wrap .i64 (0 - N)), sl 3 ne]⟩] [some (ro rc r0 4), some (ro nc n0 1), some (own ec 31 4)] (.val (.bool b2)), .cr 17 [.agg ⟨[i64 (IntKind.wrap .i64 (0 - N)), sl 3 ne]⟩] [some (ro rc r0 4), some (ro nc n0 1), some (own ec 31 4)] (.val (.bool b2))]) := by kernel_rfl
theorem st3 (N v f t m c : Int) (kk nl : Nat) (ec : List Value) : rnd3 (I3 N v kk nl ec 6) [tru 14, tru 26, got 28 (edgeV f t m c), onto 32 (ec)] 6 [(4, 4, false), (5, 7, true)] =
    some (.normal, some (I3 N v kk (nl + 1) (ec ++ [i64 f, i64 t, i64 m, i64 c]) 6), [ec ++ [i64 f, i64 t, i64 m, i64 c]], true, [.b (decide ((nl : Int) < IntKind.wrap .i64 (399 + modI v 4))) (.val (.bool true)), .ib (kk : Nat) nl, .ld 31 (0 + ((kk : Nat) : Int).toNat * 4) (some (own ec 31 4)) (.val (edgeV f t m c)), .ap [22, 22] (sl 5 nl) (.slice (some ⟨6, 0, none⟩) 1 2) ec (own ec 31 4) [i64 f, i64 t, i64 m, i64 c]]) := by kernel_rfl
theorem st3e (N v : Int) (kk nl : Nat) (ec : List Value) : rnd3 (I3 N v kk nl ec 6) [fls 14] 10 [(4, 4, false), (5, 5, true)] =
    some (.exit 1, some (I3 N v kk nl ec 10), [ec], true, [.b (decide ((nl : Int) < IntKind.wrap .i64 (399 + modI v 4))) (.val (.bool false))]) := by kernel_rfl
end Go.Proofs.YtlmifmodnkhidaaDoor

open Go Go.Am Go.Proofs
namespace Go.Proofs.YtlmifmodnkhidaaDoor
set_option maxRecDepth 10000

theorem body14 : Tryd.f14.body = some Tryd.f14.body.get! := by kernel_rfl
theorem run14n (N : Int) : (hexec Tryd.prog [] noSpecs 60 (Tryd.f14.body.get!) ⟨initT [.agg ⟨[i64 N, .slice none 0 0]⟩] 0 .nil, Tryd.f14.ntmps, startMem [] 0⟩ [] 0).map (fun r => (r.1.1, (), aresults Tryd.prog Tryd.f14 r.1.2, r.2.2.2.map (view noDoors []))) =
    some (.ret, (), some (.bool true), []) := by kernel_rfl
theorem run14s (N : Int) (ne : Nat) : (hexec Tryd.prog [] noSpecs 60 (Tryd.f14.body.get!) ⟨initT [.agg ⟨[i64 N, sl 0 ne]⟩] 0 .nil, Tryd.f14.ntmps, startMem [] 1⟩ [] 0).map (fun r => (r.1.1, (), aresults Tryd.prog Tryd.f14 r.1.2, r.2.2.2.map (view noDoors []))) =
    some (.ret, (), some (.bool (decide ((ne : Int) ≤ 500))), []) := by kernel_rfl
theorem ok14 (B : Nat) : SpecOk Tryd.prog [] B 14 g14 := by
  refine SpecOk.ofStart noNumP mixedP fun args M v M' h => ?_
  unfold g14 at h
  split at h <;> try (cases h; done)
  · rename_i N
    cases h
    obtain ⟨M0, k1, _⟩ := run_of (look := fun _ => ()) Tryd.func14 body14 (by kernel_rfl) (run14n N) (.inr rfl) (by simp)
    refine ⟨[], 60, noSpecs, _, _, M0, [], none, fun B => SpecsOk.none, k1, fun p hp => (by cases hp), fun φ φ0 args' hl ha => ?_, rfl, rfl, rfl⟩
    rw [ha.of_flat rfl]
    exact LRel.refl_flat _ _ rfl
  · rename_i N a o ne ca
    cases h
    obtain ⟨M0, k1, _⟩ := run_of (look := fun _ => ()) Tryd.func14 body14 (by kernel_rfl) (run14s N ne) (.inr rfl) (by simp)
    have hd : decide ((ne : Int) ≤ 500) = decide (ne ≤ 500) := by rw [decide_eq_decide]; omega
    rw [hd] at k1
    refine ⟨[], 60, noSpecs, _, _, M0, [(a, o)], none, fun B => SpecsOk.none, k1, fun p hp => (by cases hp), fun φ φ0 args' hl ha => ?_, rfl, rfl, rfl⟩
    cases ha with
    | cons h0 ha =>
      cases ha
      obtain ⟨x', rfl, g⟩ := h0.agg_inv
      obtain ⟨x'⟩ := x'
      cases g with
      | cons g0 g =>
        cases g with
        | cons g1 g =>
          cases g
          obtain rfl := g0.int_inv
          exact .cons (.agg (.cons (VRel.refl_flat _ _ rfl) (.cons (slice_lies hl rfl g1) .nil))) .nil

theorem specs3 {bs : List (Nat × (Code → St → Option (AExit × St)))} (hb : ∀ B, ∀ p ∈ bs, BlkOk Tryd.prog [] B p.1 p.2) (B : Nat) : SpecsOk Tryd.prog [] B (SP3 bs) := specsB_ok (fun p hp => by
  simp only [List.mem_cons, List.not_mem_nil, or_false] at hp
  rcases hp with rfl | rfl | rfl | rfl | rfl | rfl
  · obtain ⟨h1, h2⟩ : SpecOk Tryd.prog [] B 13 (ansNone (.bool true)) := ok13 B
    exact ⟨h1, h2⟩
  · exact ok14 B
  · exact ok15 B
  · exact ok16 B
  · exact ok17 B
  · exact ok18 B) (hb B)

/- What the calls answer. -/
section
variable {bs : List (Nat × (Code → St → Option (AExit × St)))} {ids : List Nat} {looks : List (Option ABlk)}
theorem a14n (N : Int) : (QV.cr 14 [.agg ⟨[i64 N, .slice none 0 0]⟩] looks (.val (.bool true))).holds Tryd.prog (SP3 bs) door3 ids := fun M _ => acall_same rfl
theorem a14s (N : Int) (ne : Nat) (b : Bool) (h : decide (ne ≤ 500) = b) : (QV.cr 14 [.agg ⟨[i64 N, sl 0 ne]⟩] looks (.val (.bool b))).holds Tryd.prog (SP3 bs) door3 ids := fun M _ => by subst h; exact acall_same rfl
theorem a18 (x n : Int) (hn : 0 < n) (hn2 : n < 2 ^ 62) (v : Int) (hv : modI x n = v) : (QV.cr 18 [i64 x, i64 n] looks (.val (i64 v))).holds Tryd.prog (SP3 bs) door3 ids := fun M _ => call18 rfl x n hn hn2 v hv M
theorem aCn (f : Nat) (hf : (SP3 bs).calls f = some gCheck) (N : Int) (b : Bool) (h : checkB N [] = b) : (QV.cr f [.agg ⟨[i64 N, .slice none 0 0]⟩] looks (.val (.bool b))).holds Tryd.prog (SP3 bs) door3 ids := fun M _ => by
  subst h
  refine acall_same ?_
  unfold onlySpecs viaSpecs
  rw [hf]; rfl
theorem aC {M : Mem} (f : Nat) (hf : (SP3 bs).calls f = some gCheck) (N : Int) {id ne : Nat} {es : List E} {A : ABlk} (hM : M.get id = some A) (hA : A.cs = ecOf es) (hz : A.esz = 4) (hl : es.length = ne) (hs : ne ≤ 2 ^ 30) : acall (onlySpecs (SP3 bs)) f [.agg ⟨[i64 N, sl id ne]⟩] M = some (1, .val (.bool (checkB N es)), M) := by
  subst hl
  refine acall_same ?_
  unfold onlySpecs viaSpecs
  rw [hf]
  have e1 : edges? ((A.cs.drop 0).take (es.length * 4)) = some es := by
    rw [List.drop_zero, hA, ← ecOf_len, List.take_length]; exact edges?_ecOf es
  have e3 : okCheck A 0 es.length es = true := by
    unfold okCheck
    rw [hA, hz, ecOf_len, Nat.ble_eq_true_of_le hs, Nat.ble_eq_true_of_le (show 0 + es.length * 4 ≤ es.length * 4 by omega), Nat.beq_refl]
    rfl
  have hM' : ({ M with log := [] } : Mem).get id = some A := hM
  show gCheck _ _ = _
  unfold gCheck sl
  simp only [hM', e1, e3, cond_true]
end

theorem mkE_fits (N md z : Int) (hN : 0 < N ∧ N ≤ 60) : fitsP N (mkE N md z) := by
  have h1 := modI_range (x := z) (n := N) hN.1
  have h2 := modI_range (x := IntKind.wrap .i64 (z.tdiv 13)) (n := N) hN.1
  have h3 := modI_range (x := IntKind.wrap .i64 (modI z N + modI (IntKind.wrap .i64 (z.tdiv 13)) N)) (n := 2) (by decide)
  have h4 := modI_range (x := IntKind.wrap .i64 (modI (IntKind.wrap .i64 (z.tdiv 170)) 5 * modI z N)) (n := 3) (by decide)
  have h5 := modI_range (x := IntKind.wrap .i64 (z.tdiv 170)) (n := 5) (by decide)
  have h6 := modI_range (x := IntKind.wrap .i64 (z.tdiv 31)) (n := 3) (by decide)
  have h7 := modI_range (x := IntKind.wrap .i64 (z.tdiv 900)) (n := 9) (by decide)
  have h8 : IntKind.wrap .i64 (2147483647 - modI (IntKind.wrap .i64 (z.tdiv 31)) 3) = 2147483647 - modI (IntKind.wrap .i64 (z.tdiv 31)) 3 := IntWalk.i64_in _ (by omega)
  refine ⟨h1.1, h1.2, h2.1, h2.2, ?_, ?_, ?_, ?_⟩
  · show 0 ≤ ite _ _ _
    split
    · exact h3.1
    · split
      · exact h4.1
      · exact h5.1
  · show ite _ _ _ < 5
    split
    · exact Int.lt_trans h3.2 (by decide)
    · split
      · exact Int.lt_trans h4.2 (by decide)
      · exact h5.2
  · show 0 ≤ ite _ _ _
    split
    · rw [h8]; omega
    · exact h7.1
  · show ite _ _ _ ≤ 2147483647
    split
    · rw [h8]; omega
    · omega
theorem make_len (N md : Int) (ns : List Int) : (makeE N md ns).length ≤ 40 := by simp [makeE, esOf]; omega
theorem make_ok (sz md : Int) (ns : List Int) : checkB (sizeN sz) (makeE (sizeN sz) md ns) = true := by
  have h := sizeN_range sz
  unfold checkB
  rw [decide_eq_true_iff]
  refine ⟨h.1, by omega, Nat.le_trans (make_len _ _ _) (by decide), fun e he => ?_⟩
  simp only [makeE, esOf, List.mem_map] at he
  obtain ⟨z, _, rfl⟩ := he
  exact mkE_fits _ _ _ (by omega)

/- One edge turned. -/
def setF (j : Nat) (e : E) (x : Int) : E := match j with
  | 0 => { e with f := x }
  | 1 => { e with t := x }
  | 2 => { e with m := x }
  | _ => { e with c := x }
theorem ecOf_set (x : Int) (j : Nat) (hj : j < 4) : ∀ {l : List E} {k : Nat} {e : E}, l[k]? = some e → (ecOf l).set (k * 4 + j) (i64 x) = ecOf (l.set k (setF j e x))
  | [], _, _, h => by simp at h
  | e0 :: l, 0, e, h => by
    simp at h; subst h
    have h4 : j = 0 ∨ j = 1 ∨ j = 2 ∨ j = 3 := by omega
    rcases h4 with rfl | rfl | rfl | rfl <;> rfl
  | e0 :: l, k + 1, e, h => by
    have ih := ecOf_set x j hj (l := l) (k := k) (e := e) (by simpa using h)
    rw [show (k + 1) * 4 + j = k * 4 + j + 1 + 1 + 1 + 1 by omega]
    simp only [ecOf, List.set_cons_succ, ih]
theorem aSt {SP : Specs} {D : Nat → Door} {ids : List Nat} {es : List E} {k : Nat} {e : E} (h : es[k]? = some e) (j : Nat) (hj : j < 4) (x : Int) {off : Nat} (ho : off = k * 4 + j) : (QV.st 3 off (i64 x) (ecOf (es.set k (setF j e x))) (own (ecOf es) 31 4)).holds Tryd.prog SP D ids := fun M id hM => by
  subst ho
  obtain ⟨i, h1, h2, _, _⟩ := info3
  have hk : k < es.length := by
    by_cases hh : k < es.length
    · exact hh
    · rw [List.getElem?_eq_none (by omega)] at h; cases h
  refine st_ok (b := own (ecOf es) 31 4) h1 (by rw [h2]; rfl) rfl rfl (by rw [h2]; simp only [ecOf_len]; omega) ?_ M id hM
  rw [← ecOf_set x j hj h]
  exact splice_one _ _ _ (by simp only [ecOf_len]; omega)

/- Edges added. -/
def grow (es : List E) (e : E) (m : Nat) : List E := es ++ List.replicate m e
theorem grow_succ (es : List E) (e : E) (m : Nat) : grow es e m ++ [e] = grow es e (m + 1) := by simp [grow, List.replicate_succ']
theorem grow_len (es : List E) (e : E) (m : Nat) : (grow es e m).length = es.length + m := by simp [grow]
theorem step3 (N v : Int) (es : List E) (hes : es.length ≤ 100) (k : Nat) (e : E) (hk : es[k]? = some e) (T : Nat) (hT : ((399 + (modI v 4).toNat : Nat)) = es.length + T) (B m : Nat) (hm : m ≤ T) :
    ∃ SP n s1, SpecsOk Tryd.prog [] B SP ∧ s1.M.next ≤ 10 ∧
      ((∃ nx mv keep d', aexec Tryd.prog [] SP n loop3 (I3 N v k (grow es e m).length (ecOf (grow es e m)) 6) = some (.normal, s1) ∧ View 5 nx mv keep L3 [4] s1 (I3 N v k (grow es e d').length (ecOf (grow es e d')) 6) ∧ d' ≤ T ∧ T - d' < T - m) ∨
        (∃ mv keep, aexec Tryd.prog [] SP n loop3 (I3 N v k (grow es e m).length (ecOf (grow es e m)) 6) = some (.exit 1, s1) ∧ View 5 10 mv keep L3 [4] s1 (I3 N v k (grow es e T).length (ecOf (grow es e T)) 10))) := by
  have hw := modI_range (x := v) (n := 4) (by decide)
  have hwr : IntKind.wrap .i64 (399 + modI v 4) = ((es.length + T : Nat) : Int) := by rw [IntWalk.i64_in _ (by omega)]; omega
  have hgk : (grow es e m)[k]? = some e := by
    have hk' : k < es.length := by
      by_cases hh : k < es.length
      · exact hh
      · rw [List.getElem?_eq_none (by omega)] at hk; cases hk
    unfold grow
    rw [List.getElem?_append_left hk']; exact hk
  by_cases hlt : m < T
  · have hs := st3 N v e.f e.t e.m e.c k (grow es e m).length (ecOf (grow es e m))
    unfold rnd3 at hs
    have hk' : k < (grow es e m).length := by
      by_cases hh : k < (grow es e m).length
      · exact hh
      · rw [List.getElem?_eq_none (by omega)] at hgk; cases hgk
    have g1 : (QV.b (decide (((grow es e m).length : Int) < IntKind.wrap .i64 (399 + modI v 4))) (.val (.bool true))).holds Tryd.prog (specs [(18, g18)]) noDoors [] := dq (by rw [hwr, grow_len, decide_eq_true_iff]; omega)
    have g2 : (QV.ib (k : Nat) (grow es e m).length).holds Tryd.prog (specs [(18, g18)]) noDoors [] := by simp only [QV.holds, inB, Bool.and_eq_true, decide_eq_true_eq]; omega
    have g3 : (QV.ld 31 (0 + ((k : Nat) : Int).toNat * 4) (some (own (ecOf (grow es e m)) 31 4)) (.val (edgeV e.f e.t e.m e.c))).holds Tryd.prog (specs [(18, g18)]) noDoors [] := by
      obtain ⟨r, hr⟩ := ecOf_drop hgk
      refine ⟨_, rfl, ?_⟩
      rw [ld31, Nat.zero_add, Int.toNat_natCast, hr]
      rfl
    have g4 : (QV.ap [22, 22] (sl 5 (grow es e m).length) (.slice (some ⟨6, 0, none⟩) 1 2) (ecOf (grow es e m)) (own (ecOf (grow es e m)) 31 4) [i64 e.f, i64 e.t, i64 e.m, i64 e.c]).holds Tryd.prog (specs [(18, g18)]) noDoors [] := fun M r hM =>
      ap22 (n := 1) rfl (by decide) rfl (by rw [grow_len]; omega) rfl rfl M r hM
    have hnew : ecOf (grow es e m) ++ [i64 e.f, i64 e.t, i64 e.m, i64 e.c] = ecOf (grow es e (m + 1)) := by rw [← grow_succ, ecOf_append]; rfl
    obtain ⟨s1, k1, k2, k3⟩ := round_of (doors := noDoors) (ids := []) hs (by simp only [List.forall_mem_cons]; exact ⟨g1, g2, g3, g4, by simp⟩) (fun l hl => by rw [List.mem_singleton.1 hl, hnew]; exact renL_flat _ _ (ecOf_flat _))
    rw [hnew] at k3
    have hlen : (grow es e m).length + 1 = (grow es e (m + 1)).length := by rw [grow_len, grow_len]; omega
    rw [hlen] at k3
    exact ⟨_, 60, s1, specs15 B, k1, .inl ⟨6, _, _, m + 1, k2, k3, by omega, by omega⟩⟩
  · have he : m = T := by omega
    subst he
    have hs := st3e N v k (grow es e m).length (ecOf (grow es e m))
    unfold rnd3 at hs
    have g1 : (QV.b (decide (((grow es e m).length : Int) < IntKind.wrap .i64 (399 + modI v 4))) (.val (.bool false))).holds Tryd.prog (specs [(18, g18)]) noDoors [] := dq (by rw [hwr, grow_len, decide_eq_false_iff_not]; omega)
    obtain ⟨s1, k1, k2, k3⟩ := round_of (doors := noDoors) (ids := []) hs (by simp only [List.forall_mem_cons]; exact ⟨g1, by simp⟩) (fun l hl => by rw [List.mem_singleton.1 hl]; exact renL_flat _ _ (ecOf_flat _))
    exact ⟨_, 60, s1, specs15 B, k1, .inr ⟨_, _, k2, k3⟩⟩
theorem blk3 (N v : Int) (es : List E) (hes : es.length ≤ 100) (k : Nat) (e : E) (hk : es[k]? = some e) (T : Nat) (hT : ((399 + (modI v 4).toNat : Nat)) = es.length + T) (B : Nat) :
    BlkOk Tryd.prog [] B 1 (loopG (.loop loop3) (door3 1) (I3 N v k (grow es e 0).length (ecOf (grow es e 0)) 6) (.normal, I3 N v k (grow es e T).length (ecOf (grow es e T)) 10)) := by
  refine loopG_ok (e := .exit 1) noNumP mixedP (fun d : Nat => I3 N v k (grow es e d).length (ecOf (grow es e d)) 6) (fun d => d ≤ T) (fun d => T - d) (K := 10) (by intro h; cases h) (Nat.zero_le _) (by decide) rfl rfl rfl ?_ (step3 N v es hes k e hk T hT B)
  intro id hid hn
  have : id < 5 := hid
  simp only [door3, L3, List.mem_cons, List.not_mem_nil, or_false] at hn
  omega

theorem main3nn (rN sz wh at' v : Int) (r0 n0 : Nat) (rs : List E) (ns : List Int) : ∃ SP M', (∀ B, SpecsOk Tryd.prog [] B SP) ∧ Go.Am.arun Tryd.prog [] SP 90 3 [.agg ⟨[i64 rN, (.slice none 0 0)]⟩, i64 sz, (.slice none 0 0), i64 wh, i64 at', i64 v] (startMem [] 2) = some (.bool true, M') := by
  have fin : ∀ {bs : List (Nat × (Code → St → Option (AExit × St)))} {F : List Fact} {ids : List Nat} {b : Bool} {q : List QV}, (∀ B, ∀ p ∈ bs, BlkOk Tryd.prog [] B p.1 p.2) → run3 (.agg ⟨[i64 rN, (.slice none 0 0)]⟩) (.slice none 0 0) sz wh at' v [] (SP3 bs) ids F = some (.ret, (), some (.bool b), q) →
      (∀ p ∈ q, p.holds Tryd.prog (SP3 bs) door3 ids) → b = true → ∃ SP M', (∀ B, SpecsOk Tryd.prog [] B SP) ∧ Go.Am.arun Tryd.prog [] SP 90 3 [.agg ⟨[i64 rN, (.slice none 0 0)]⟩, i64 sz, (.slice none 0 0), i64 wh, i64 at', i64 v] (startMem [] 2) = some (.bool true, M') := fun hbs hx hq hb => by
    unfold run3 at hx
    obtain ⟨M0, k1, _⟩ := run_of (look := fun _ => ()) Tryd.func3 body3 (by kernel_rfl) hx (.inr rfl) hq
    exact ⟨_, M0, specs3 hbs, by rw [hb] at k1; exact k1⟩
  have hmk := make_ok sz 1 []
  have hml := make_len (sizeN sz) 1 []
  have hsz := sizeN_range sz
  have raw : ∀ (bs : List (Nat × (Code → St → Option (AExit × St)))) (f : Nat), (SP3 bs).calls f = some gCheck → ∀ (ids : List Nat) (looks : List (Option ABlk)), (∀ M : Mem, ids.map M.get = looks → True) → (QV.cr f [.agg ⟨[i64 rN, .slice none 0 0]⟩] looks (.val (.bool (checkB rN [])))).holds Tryd.prog (SP3 bs) door3 ids := fun bs f hf ids looks _ => aCn f hf rN _ rfl
  have hE : makeE (sizeN sz) 1 [] = [] := rfl
  have h15 : ∀ (bs : List (Nat × (Code → St → Option (AExit × St)))) (ids : List Nat) (looks : List (Option ABlk)), (QV.cr 15 [i64 sz, .slice none 0 0, i64 1] looks (.val (.agg ⟨[i64 (sizeN sz), .slice none 0 0]⟩))).holds Tryd.prog (SP3 bs) door3 ids := fun bs ids looks M _ => acall_same rfl
  exact fin (bs := []) (fun _ p hp => by cases hp) (ck_nn_e rN sz wh at' v (sizeN sz) (checkB rN []) (checkB (sizeN sz) [])) (by
    simp only [List.forall_mem_cons]
    refine ⟨a14n rN, h15 _ _ _, raw _ 16 rfl _ _ (fun _ _ => trivial), raw _ 17 rfl _ _ (fun _ _ => trivial), ?_⟩
    (repeat' apply And.intro) <;> first | exact aCn 16 rfl _ _ hmk | exact aCn 16 rfl _ _ rfl | exact aCn 17 rfl _ _ rfl | (simp [QV.holds]; done) | (intro x hx; cases hx)) (by simp)

theorem main3ns (rN sz wh at' v : Int) (r0 n0 : Nat) (rs : List E) (ns : List Int) : ∃ SP M', (∀ B, SpecsOk Tryd.prog [] B SP) ∧ Go.Am.arun Tryd.prog [] SP 90 3 [.agg ⟨[i64 rN, (.slice none 0 0)]⟩, i64 sz, (sl 1 ns.length), i64 wh, i64 at', i64 v] (startMem [(1, ro (ints ns) n0 1)] 2) = some (.bool true, M') := by
  have fin : ∀ {bs : List (Nat × (Code → St → Option (AExit × St)))} {F : List Fact} {ids : List Nat} {b : Bool} {q : List QV}, (∀ B, ∀ p ∈ bs, BlkOk Tryd.prog [] B p.1 p.2) → run3 (.agg ⟨[i64 rN, (.slice none 0 0)]⟩) (sl 1 ns.length) sz wh at' v [(1, ro (ints ns) n0 1)] (SP3 bs) ids F = some (.ret, (), some (.bool b), q) →
      (∀ p ∈ q, p.holds Tryd.prog (SP3 bs) door3 ids) → b = true → ∃ SP M', (∀ B, SpecsOk Tryd.prog [] B SP) ∧ Go.Am.arun Tryd.prog [] SP 90 3 [.agg ⟨[i64 rN, (.slice none 0 0)]⟩, i64 sz, (sl 1 ns.length), i64 wh, i64 at', i64 v] (startMem [(1, ro (ints ns) n0 1)] 2) = some (.bool true, M') := fun hbs hx hq hb => by
    unfold run3 at hx
    obtain ⟨M0, k1, _⟩ := run_of (look := fun _ => ()) Tryd.func3 body3 (by kernel_rfl) hx (.inr rfl) hq
    exact ⟨_, M0, specs3 hbs, by rw [hb] at k1; exact k1⟩
  have hmk := make_ok sz 1 ns
  have hml := make_len (sizeN sz) 1 ns
  have hsz := sizeN_range sz
  have raw : ∀ (bs : List (Nat × (Code → St → Option (AExit × St)))) (f : Nat), (SP3 bs).calls f = some gCheck → ∀ (ids : List Nat) (looks : List (Option ABlk)), (∀ M : Mem, ids.map M.get = looks → True) → (QV.cr f [.agg ⟨[i64 rN, .slice none 0 0]⟩] looks (.val (.bool (checkB rN [])))).holds Tryd.prog (SP3 bs) door3 ids := fun bs f hf ids looks _ => aCn f hf rN _ rfl
  have h15call : ∀ (bs : List (Nat × (Code → St → Option (AExit × St)))) (M : Mem), M.get 1 = some (ro (ints ns) n0 1) → onlySpecs (SP3 bs) 15 [i64 sz, sl 1 ns.length, i64 1] M = some (out15 M (sizeN sz) (makeE (sizeN sz) 1 ns)) := fun bs M hM => by
    have e1 : ints? (((ints ns).drop 0).take ns.length) = some ns := by
      rw [List.drop_zero, ← ints_len, List.take_length]; exact ints?_ints ns
    have e3 : (Nat.beq ns.length ns.length && Nat.ble (0 + ns.length) (ints ns).length && Nat.beq 1 1) = true := by
      rw [ints_len, Nat.beq_refl, Nat.ble_eq_true_of_le (show 0 + ns.length ≤ ns.length by omega)]; rfl
    unfold onlySpecs viaSpecs
    rw [show (SP3 bs).calls 15 = some g15 from rfl]
    simp only
    unfold g15 sl
    simp only [hM, e1, e3, cond_true]
  cases hE : makeE (sizeN sz) 1 ns with
  | nil =>
    have h15 : ∀ (bs : List (Nat × (Code → St → Option (AExit × St)))) (x : Option ABlk), (QV.cr 15 [i64 sz, sl 1 ns.length, i64 1] [none, some (ro (ints ns) n0 1), x] (.val (.agg ⟨[i64 (sizeN sz), .slice none 0 0]⟩))).holds Tryd.prog (SP3 bs) door3 [0, 1, 9] := fun bs x M hM => by
      simp only [List.map_cons, List.map_nil, List.cons.injEq, and_true] at hM
      refine acall_same ?_
      rw [h15call bs _ (show ({ M with log := [] } : Mem).get 1 = _ from hM.2.1), hE]
      rfl
    rw [hE] at hmk
    exact fin (bs := []) (fun _ p hp => by cases hp) (ck_ns_e rN sz wh at' v (sizeN sz) ns.length n0 (ints ns) (checkB rN []) (checkB (sizeN sz) [])) (by
      simp only [List.forall_mem_cons]
      refine ⟨a14n rN, h15 _ _, raw _ 16 rfl _ _ (fun _ _ => trivial), raw _ 17 rfl _ _ (fun _ _ => trivial), ?_⟩
      (repeat' apply And.intro) <;> first | exact aCn 16 rfl _ _ hmk | exact aCn 16 rfl _ _ rfl | exact aCn 17 rfl _ _ rfl | (simp [QV.holds]; done) | (intro x hx; cases hx)) (by simp)
  | cons e0 l0 =>
    generalize hes : makeE (sizeN sz) 1 ns = es at hE hmk hml
    have hpos : 0 < es.length := by rw [hE]; simp
    have h15 : ∀ (bs : List (Nat × (Code → St → Option (AExit × St)))) (t : List Nat) (x : List (Option ABlk)), (QV.ca 15 [i64 sz, sl 1 ns.length, i64 1] (none :: some (ro (ints ns) n0 1) :: x) 3 (.val (.agg ⟨[i64 (sizeN sz), sl 3 es.length]⟩)) (own (ecOf es) 31 4)).holds Tryd.prog (SP3 bs) door3 (0 :: 1 :: t) := fun bs t x M hM hnx => by
      simp only [List.map_cons, List.cons.injEq] at hM
      refine acall_alloc ?_
      rw [h15call bs _ (show ({ M with log := [] } : Mem).get 1 = _ from hM.2.1), hes, hE]
      show some (netV (sizeN sz) M.next (e0 :: l0), _) = _
      rw [hnx]
      rfl
    have hkr := modI_range (x := at') (n := (es.length : Int)) (by omega)
    obtain ⟨kk, hkk⟩ : ∃ kk : Nat, modI at' es.length = (kk : Int) := ⟨(modI at' es.length).toNat, by omega⟩
    rw [hkk] at hkr
    have hlt : kk < es.length := by omega
    obtain ⟨e, he⟩ : ∃ e, es[kk]? = some e := ⟨es[kk], List.getElem?_eq_getElem hlt⟩
    have hjr := modI_range (x := v) (n := 5) (by decide)
    obtain ⟨jj, hjj⟩ : ∃ jj : Nat, modI v 5 = (jj : Int) := ⟨(modI v 5).toNat, by omega⟩
    rw [hjj] at hjr
    have hk18 : ∀ (bs : List (Nat × (Code → St → Option (AExit × St)))) (ids : List Nat) (looks : List (Option ABlk)), (QV.cr 18 [i64 at', i64 es.length] looks (.val (i64 kk))).holds Tryd.prog (SP3 bs) door3 ids := fun _ _ _ => a18 at' es.length (by omega) (by omega) _ hkk
    have hj18 : ∀ (bs : List (Nat × (Code → St → Option (AExit × St)))) (ids : List Nat) (looks : List (Option ABlk)), (QV.cr 18 [i64 v, i64 5] looks (.val (i64 jj))).holds Tryd.prog (SP3 bs) door3 ids := fun _ _ _ => a18 v 5 (by decide) (by decide) _ hjj
    have hib : ∀ (bs : List (Nat × (Code → St → Option (AExit × St)))) (ids : List Nat), (QV.ib (kk : Nat) es.length).holds Tryd.prog (SP3 bs) door3 ids := fun _ _ => by simp only [QV.holds, inB, Bool.and_eq_true, decide_eq_true_eq]; omega
    have hjb : ∀ (bs : List (Nat × (Code → St → Option (AExit × St)))) (ids : List Nat), (QV.ib (jj : Nat) 5).holds Tryd.prog (SP3 bs) door3 ids := fun _ _ => by simp only [QV.holds, inB, Bool.and_eq_true, decide_eq_true_eq]; omega
    have hgt : ∀ (bs : List (Nat × (Code → St → Option (AExit × St)))) (ids : List Nat), (QV.b (decide ((es.length : Int) > 0)) (.val (.bool true))).holds Tryd.prog (SP3 bs) door3 ids := fun _ _ => by simp only [QV.holds]; rw [decide_eq_true (show (es.length : Int) > 0 by omega)]
    have hn16 : ∀ (bs : List (Nat × (Code → St → Option (AExit × St)))) (f : Nat), (SP3 bs).calls f = some gCheck → ∀ (N : Int) (es' : List E) (b : Bool), es'.length = es.length → checkB N es' = b → (QV.cr f [.agg ⟨[i64 N, sl 3 es.length]⟩] [none, some (ro (ints ns) n0 1), some (own (ecOf es') 31 4)] (.val (.bool b))).holds Tryd.prog (SP3 bs) door3 [0, 1, 3] := fun bs f hf N es' b hl hb M hM => by
      simp only [List.map_cons, List.map_nil, List.cons.injEq, and_true] at hM
      subst hb
      exact aC f hf N hM.2.2 rfl rfl hl (by omega)
    have hwr := modI_range (x := wh) (n := 7) (by decide)
    have hw18 : ∀ (q : Int), modI wh 7 = q → ∀ (bs : List (Nat × (Code → St → Option (AExit × St)))) (ids : List Nat) (looks : List (Option ABlk)), (QV.cr 18 [i64 wh, i64 7] looks (.val (i64 q))).holds Tryd.prog (SP3 bs) door3 ids := fun q hq _ _ _ => a18 wh 7 (by decide) (by decide) _ hq
    have hcase : modI wh 7 = 0 ∨ modI wh 7 = 1 ∨ modI wh 7 = 2 ∨ modI wh 7 = 3 ∨ modI wh 7 = 4 ∨ modI wh 7 = 5 ∨ modI wh 7 = 6 := by omega
    have hld : ∀ (a b c d : Int), ∃ x : Int, ∀ (bs : List (Nat × (Code → St → Option (AExit × St)))) (ids : List Nat), (QV.ld 3 (0 + ((jj : Nat) : Int).toNat * 1) (some (own [i64 a, i64 b, i64 c, i64 d, i64 v] 3 1)) (.val (i64 x))).holds Tryd.prog (SP3 bs) door3 ids := fun a b c d => by
      have h5 : jj = 0 ∨ jj = 1 ∨ jj = 2 ∨ jj = 3 ∨ jj = 4 := by omega
      rcases h5 with rfl | rfl | rfl | rfl | rfl
      · exact ⟨a, fun _ _ => ⟨_, rfl, by rw [ld3]; rfl⟩⟩
      · exact ⟨b, fun _ _ => ⟨_, rfl, by rw [ld3]; rfl⟩⟩
      · exact ⟨c, fun _ _ => ⟨_, rfl, by rw [ld3]; rfl⟩⟩
      · exact ⟨d, fun _ _ => ⟨_, rfl, by rw [ld3]; rfl⟩⟩
      · exact ⟨v, fun _ _ => ⟨_, rfl, by rw [ld3]; rfl⟩⟩
    rcases hcase with hq | hq | hq | hq | hq | hq | hq
    · -- 0
      exact fin (bs := []) (fun _ p hp => by cases hp) (ck_ns_q0 rN sz wh at' v (sizeN sz) ns.length es.length kk n0 (ints ns) (ecOf es) (ecOf (es.set kk (setF 0 e v))) (checkB rN []) (checkB (sizeN sz) (es.set kk (setF 0 e v)))) (by
        simp only [List.forall_mem_cons]
        refine ⟨a14n rN, h15 _ _ _, raw _ 16 rfl _ _ (fun _ _ => trivial), raw _ 17 rfl _ _ (fun _ _ => trivial), ?_⟩
        (repeat' apply And.intro) <;> first | exact hn16 _ 16 rfl _ _ _ rfl hmk | exact hn16 _ 16 rfl _ _ _ (by simp) rfl | exact hn16 _ 17 rfl _ _ _ (by simp) rfl | exact hk18 _ _ _ | exact hw18 _ hq _ _ _ | exact hj18 _ _ _ | exact hib _ _ | exact hjb _ _ | exact hgt _ _ | exact aSt he 0 (by decide) v (by simp) | (simp [QV.holds]; done) | (intro x hx; cases hx)) (by simp)
    · -- 1
      exact fin (bs := []) (fun _ p hp => by cases hp) (ck_ns_q1 rN sz wh at' v (sizeN sz) ns.length es.length kk n0 (ints ns) (ecOf es) (ecOf (es.set kk (setF 1 e (IntKind.wrap .i64 (IntKind.wrap .i64 (sizeN sz - 1) + modI v 2))))) (checkB rN []) (checkB (sizeN sz) (es.set kk (setF 1 e (IntKind.wrap .i64 (IntKind.wrap .i64 (sizeN sz - 1) + modI v 2)))))) (by
        simp only [List.forall_mem_cons]
        refine ⟨a14n rN, h15 _ _ _, raw _ 16 rfl _ _ (fun _ _ => trivial), raw _ 17 rfl _ _ (fun _ _ => trivial), ?_⟩
        (repeat' apply And.intro) <;> first | exact hn16 _ 16 rfl _ _ _ rfl hmk | exact hn16 _ 16 rfl _ _ _ (by simp) rfl | exact hn16 _ 17 rfl _ _ _ (by simp) rfl | exact hk18 _ _ _ | exact hw18 _ hq _ _ _ | exact hj18 _ _ _ | exact hib _ _ | exact hjb _ _ | exact hgt _ _ | exact aSt he 1 (by decide) _ (by simp) | (simp [QV.holds]; done) | (intro x hx; cases hx)) (by simp)
    · -- 2
      obtain ⟨x, hx⟩ := hld (-1) 0 4 5
      exact fin (bs := []) (fun _ p hp => by cases hp) (ck_ns_q2 rN sz wh at' v (sizeN sz) x ns.length es.length kk jj n0 (ints ns) (ecOf es) (ecOf (es.set kk (setF 2 e x))) (checkB rN []) (checkB (sizeN sz) (es.set kk (setF 2 e x)))) (by
        simp only [List.forall_mem_cons]
        refine ⟨a14n rN, h15 _ _ _, raw _ 16 rfl _ _ (fun _ _ => trivial), raw _ 17 rfl _ _ (fun _ _ => trivial), ?_⟩
        (repeat' apply And.intro) <;> first | exact hn16 _ 16 rfl _ _ _ rfl hmk | exact hn16 _ 16 rfl _ _ _ (by simp) rfl | exact hn16 _ 17 rfl _ _ _ (by simp) rfl | exact hk18 _ _ _ | exact hw18 _ hq _ _ _ | exact hj18 _ _ _ | exact hib _ _ | exact hjb _ _ | exact hgt _ _ | exact aSt he 2 (by decide) x (by simp) | exact hx _ _ | (simp [QV.holds]; done) | (intro x hx; cases hx)) (by simp)
    · -- 3
      obtain ⟨x, hx⟩ := hld (-1) 0 2147483647 2147483648
      exact fin (bs := []) (fun _ p hp => by cases hp) (ck_ns_q3 rN sz wh at' v (sizeN sz) x ns.length es.length kk jj n0 (ints ns) (ecOf es) (ecOf (es.set kk (setF 3 e x))) (checkB rN []) (checkB (sizeN sz) (es.set kk (setF 3 e x)))) (by
        simp only [List.forall_mem_cons]
        refine ⟨a14n rN, h15 _ _ _, raw _ 16 rfl _ _ (fun _ _ => trivial), raw _ 17 rfl _ _ (fun _ _ => trivial), ?_⟩
        (repeat' apply And.intro) <;> first | exact hn16 _ 16 rfl _ _ _ rfl hmk | exact hn16 _ 16 rfl _ _ _ (by simp) rfl | exact hn16 _ 17 rfl _ _ _ (by simp) rfl | exact hk18 _ _ _ | exact hw18 _ hq _ _ _ | exact hj18 _ _ _ | exact hib _ _ | exact hjb _ _ | exact hgt _ _ | exact aSt he 3 (by decide) x (by simp) | exact hx _ _ | (simp [QV.holds]; done) | (intro x hx; cases hx)) (by simp)
    · -- 4
      obtain ⟨x, hx⟩ := hld 0 1 60 61
      exact fin (bs := []) (fun _ p hp => by cases hp) (ck_ns_q4 rN sz wh at' v (sizeN sz) x ns.length es.length kk jj n0 (ints ns) (ecOf es) (checkB rN []) (checkB x es)) (by
        simp only [List.forall_mem_cons]
        refine ⟨a14n rN, h15 _ _ _, raw _ 16 rfl _ _ (fun _ _ => trivial), raw _ 17 rfl _ _ (fun _ _ => trivial), ?_⟩
        (repeat' apply And.intro) <;> first | exact hn16 _ 16 rfl _ _ _ rfl hmk | exact hn16 _ 16 rfl _ _ _ (by simp) rfl | exact hn16 _ 17 rfl _ _ _ (by simp) rfl | exact hk18 _ _ _ | exact hw18 _ hq _ _ _ | exact hj18 _ _ _ | exact hib _ _ | exact hjb _ _ | exact hgt _ _ | exact hx _ _ | (simp [QV.holds]; done) | (intro x hx; cases hx)) (by simp)
    · -- 5
      obtain ⟨T, hT⟩ : ∃ T : Nat, (399 + (modI v 4).toNat : Nat) = es.length + T := ⟨399 + (modI v 4).toNat - es.length, by omega⟩
      have hw4 := modI_range (x := v) (n := 4) (by decide)
      have hgl := grow_len es e T
      have h0 : grow es e 0 = es := by simp [grow]
      have hn5 : ∀ (bs : List (Nat × (Code → St → Option (AExit × St)))) (f : Nat), (SP3 bs).calls f = some gCheck → (QV.cr f [.agg ⟨[i64 (sizeN sz), sl 5 (grow es e T).length]⟩] [none, none, none, some (own (ecOf (grow es e T)) 31 4)] (.val (.bool (checkB (sizeN sz) (grow es e T))))).holds Tryd.prog (SP3 bs) door3 [0, 1, 3, 5] := fun bs f hf M hM => by
        simp only [List.map_cons, List.map_nil, List.cons.injEq, and_true] at hM
        exact aC f hf _ hM.2.2.2 rfl rfl rfl (by omega)
      have hm5 : ∀ (bs : List (Nat × (Code → St → Option (AExit × St)))), (QV.cr 16 [.agg ⟨[i64 (sizeN sz), sl 3 es.length]⟩] [none, some (ro (ints ns) n0 1), some (own (ecOf es) 31 4), none] (.val (.bool true))).holds Tryd.prog (SP3 bs) door3 [0, 1, 3, 5] := fun bs M hM => by
        simp only [List.map_cons, List.map_nil, List.cons.injEq, and_true] at hM
        rw [← hmk]
        exact aC 16 rfl _ hM.2.2.1 rfl rfl rfl (by omega)
      exact fin (bs := [(1, loopG (.loop loop3) (door3 1) (I3 (sizeN sz) v kk (grow es e 0).length (ecOf (grow es e 0)) 6) (.normal, I3 (sizeN sz) v kk (grow es e T).length (ecOf (grow es e T)) 10))]) (fun B p hp => by
          rw [List.mem_singleton.1 hp]; exact blk3 (sizeN sz) v es (by omega) kk e he T hT B) (ck_ns_q5 rN sz wh at' v (sizeN sz) ns.length es.length (grow es e T).length kk n0 (ints ns) (ecOf es) (ecOf (grow es e T)) (checkB rN []) (checkB (sizeN sz) (grow es e T)) _) (by
        simp only [List.forall_mem_cons]
        refine ⟨a14n rN, h15 _ _ _, raw _ 16 rfl _ _ (fun _ _ => trivial), raw _ 17 rfl _ _ (fun _ _ => trivial), ?_⟩
        (repeat' apply And.intro) <;> first | exact hm5 _ | exact hn5 _ 16 rfl | exact hn5 _ 17 rfl | exact hk18 _ _ _ | exact hw18 _ hq _ _ _ | exact hgt _ _ | (simp [QV.holds]; done) | (intro x hx; cases hx) | (refine ⟨I3 (sizeN sz) v kk (grow es e 0).length (ecOf (grow es e 0)) 6, rfl, rfl, rfl, by rw [h0], fun l hl => ?_, rfl⟩; rw [List.mem_singleton.1 hl]; exact renL_flat _ _ (ecOf_flat _))) (by simp)
    · -- 6
      exact fin (bs := []) (fun _ p hp => by cases hp) (ck_ns_q6 rN sz wh at' v (sizeN sz) ns.length es.length kk n0 (ints ns) (ecOf es) (checkB rN []) (checkB (IntKind.wrap .i64 (0 - sizeN sz)) es)) (by
        simp only [List.forall_mem_cons]
        refine ⟨a14n rN, h15 _ _ _, raw _ 16 rfl _ _ (fun _ _ => trivial), raw _ 17 rfl _ _ (fun _ _ => trivial), ?_⟩
        (repeat' apply And.intro) <;> first | exact hn16 _ 16 rfl _ _ _ rfl hmk | exact hn16 _ 16 rfl _ _ _ (by simp) rfl | exact hn16 _ 17 rfl _ _ _ (by simp) rfl | exact hk18 _ _ _ | exact hw18 _ hq _ _ _ | exact hj18 _ _ _ | exact hib _ _ | exact hjb _ _ | exact hgt _ _ | (simp [QV.holds]; done) | (intro x hx; cases hx)) (by simp)

theorem main3sn (rN sz wh at' v : Int) (r0 n0 : Nat) (rs : List E) (ns : List Int) : ∃ SP M', (∀ B, SpecsOk Tryd.prog [] B SP) ∧ Go.Am.arun Tryd.prog [] SP 90 3 [.agg ⟨[i64 rN, (sl 0 rs.length)]⟩, i64 sz, (.slice none 0 0), i64 wh, i64 at', i64 v] (startMem [(0, ro (ecOf rs) r0 4)] 2) = some (.bool true, M') := by
  have fin : ∀ {bs : List (Nat × (Code → St → Option (AExit × St)))} {F : List Fact} {ids : List Nat} {b : Bool} {q : List QV}, (∀ B, ∀ p ∈ bs, BlkOk Tryd.prog [] B p.1 p.2) → run3 (.agg ⟨[i64 rN, (sl 0 rs.length)]⟩) (.slice none 0 0) sz wh at' v [(0, ro (ecOf rs) r0 4)] (SP3 bs) ids F = some (.ret, (), some (.bool b), q) →
      (∀ p ∈ q, p.holds Tryd.prog (SP3 bs) door3 ids) → b = true → ∃ SP M', (∀ B, SpecsOk Tryd.prog [] B SP) ∧ Go.Am.arun Tryd.prog [] SP 90 3 [.agg ⟨[i64 rN, (sl 0 rs.length)]⟩, i64 sz, (.slice none 0 0), i64 wh, i64 at', i64 v] (startMem [(0, ro (ecOf rs) r0 4)] 2) = some (.bool true, M') := fun hbs hx hq hb => by
    unfold run3 at hx
    obtain ⟨M0, k1, _⟩ := run_of (look := fun _ => ()) Tryd.func3 body3 (by kernel_rfl) hx (.inr rfl) hq
    exact ⟨_, M0, specs3 hbs, by rw [hb] at k1; exact k1⟩
  by_cases hfew : rs.length ≤ 500
  case neg => exact fin (bs := []) (fun _ p hp => by cases hp) (ck_sn_few rN sz wh at' v rs.length r0 (ecOf rs)) (by simp only [List.forall_mem_cons]; exact ⟨a14s rN rs.length false (by simp; omega), by simp⟩) rfl
  have hmk := make_ok sz 1 []
  have hml := make_len (sizeN sz) 1 []
  have hsz := sizeN_range sz
  have raw : ∀ (bs : List (Nat × (Code → St → Option (AExit × St)))) (f : Nat), (SP3 bs).calls f = some gCheck → ∀ (ids : List Nat) (looks : List (Option ABlk)), (∀ M : Mem, ids.map M.get = looks → M.get 0 = some (ro (ecOf rs) r0 4)) → (QV.cr f [.agg ⟨[i64 rN, sl 0 rs.length]⟩] looks (.val (.bool (checkB rN rs)))).holds Tryd.prog (SP3 bs) door3 ids := fun bs f hf ids looks hl M hM =>
    aC f hf rN (hl M hM) rfl rfl rfl (by omega)
  have hE : makeE (sizeN sz) 1 [] = [] := rfl
  have h15 : ∀ (bs : List (Nat × (Code → St → Option (AExit × St)))) (ids : List Nat) (looks : List (Option ABlk)), (QV.cr 15 [i64 sz, .slice none 0 0, i64 1] looks (.val (.agg ⟨[i64 (sizeN sz), .slice none 0 0]⟩))).holds Tryd.prog (SP3 bs) door3 ids := fun bs ids looks M _ => acall_same rfl
  exact fin (bs := []) (fun _ p hp => by cases hp) (ck_sn_e rN sz wh at' v (sizeN sz) rs.length r0 (ecOf rs) (checkB rN rs) (checkB (sizeN sz) [])) (by
    simp only [List.forall_mem_cons]
    refine ⟨a14s rN rs.length true (by simp; omega), h15 _ _ _, raw _ 16 rfl _ _ (fun M hM => by simp only [List.map_cons, List.map_nil, List.cons.injEq, and_true] at hM; exact hM.1), raw _ 17 rfl _ _ (fun M hM => by simp only [List.map_cons, List.map_nil, List.cons.injEq, and_true] at hM; exact hM.1), ?_⟩
    (repeat' apply And.intro) <;> first | exact aCn 16 rfl _ _ hmk | exact aCn 16 rfl _ _ rfl | exact aCn 17 rfl _ _ rfl | (simp [QV.holds]; done) | (intro x hx; cases hx)) (by simp)

theorem main3ss (rN sz wh at' v : Int) (r0 n0 : Nat) (rs : List E) (ns : List Int) : ∃ SP M', (∀ B, SpecsOk Tryd.prog [] B SP) ∧ Go.Am.arun Tryd.prog [] SP 90 3 [.agg ⟨[i64 rN, (sl 0 rs.length)]⟩, i64 sz, (sl 1 ns.length), i64 wh, i64 at', i64 v] (startMem [(0, ro (ecOf rs) r0 4), (1, ro (ints ns) n0 1)] 2) = some (.bool true, M') := by
  have fin : ∀ {bs : List (Nat × (Code → St → Option (AExit × St)))} {F : List Fact} {ids : List Nat} {b : Bool} {q : List QV}, (∀ B, ∀ p ∈ bs, BlkOk Tryd.prog [] B p.1 p.2) → run3 (.agg ⟨[i64 rN, (sl 0 rs.length)]⟩) (sl 1 ns.length) sz wh at' v [(0, ro (ecOf rs) r0 4), (1, ro (ints ns) n0 1)] (SP3 bs) ids F = some (.ret, (), some (.bool b), q) →
      (∀ p ∈ q, p.holds Tryd.prog (SP3 bs) door3 ids) → b = true → ∃ SP M', (∀ B, SpecsOk Tryd.prog [] B SP) ∧ Go.Am.arun Tryd.prog [] SP 90 3 [.agg ⟨[i64 rN, (sl 0 rs.length)]⟩, i64 sz, (sl 1 ns.length), i64 wh, i64 at', i64 v] (startMem [(0, ro (ecOf rs) r0 4), (1, ro (ints ns) n0 1)] 2) = some (.bool true, M') := fun hbs hx hq hb => by
    unfold run3 at hx
    obtain ⟨M0, k1, _⟩ := run_of (look := fun _ => ()) Tryd.func3 body3 (by kernel_rfl) hx (.inr rfl) hq
    exact ⟨_, M0, specs3 hbs, by rw [hb] at k1; exact k1⟩
  by_cases hfew : rs.length ≤ 500
  case neg => exact fin (bs := []) (fun _ p hp => by cases hp) (ck_ss_few rN sz wh at' v rs.length ns.length r0 n0 (ecOf rs) (ints ns)) (by simp only [List.forall_mem_cons]; exact ⟨a14s rN rs.length false (by simp; omega), by simp⟩) rfl
  have hmk := make_ok sz 1 ns
  have hml := make_len (sizeN sz) 1 ns
  have hsz := sizeN_range sz
  have raw : ∀ (bs : List (Nat × (Code → St → Option (AExit × St)))) (f : Nat), (SP3 bs).calls f = some gCheck → ∀ (ids : List Nat) (looks : List (Option ABlk)), (∀ M : Mem, ids.map M.get = looks → M.get 0 = some (ro (ecOf rs) r0 4)) → (QV.cr f [.agg ⟨[i64 rN, sl 0 rs.length]⟩] looks (.val (.bool (checkB rN rs)))).holds Tryd.prog (SP3 bs) door3 ids := fun bs f hf ids looks hl M hM =>
    aC f hf rN (hl M hM) rfl rfl rfl (by omega)
  have h15call : ∀ (bs : List (Nat × (Code → St → Option (AExit × St)))) (M : Mem), M.get 1 = some (ro (ints ns) n0 1) → onlySpecs (SP3 bs) 15 [i64 sz, sl 1 ns.length, i64 1] M = some (out15 M (sizeN sz) (makeE (sizeN sz) 1 ns)) := fun bs M hM => by
    have e1 : ints? (((ints ns).drop 0).take ns.length) = some ns := by
      rw [List.drop_zero, ← ints_len, List.take_length]; exact ints?_ints ns
    have e3 : (Nat.beq ns.length ns.length && Nat.ble (0 + ns.length) (ints ns).length && Nat.beq 1 1) = true := by
      rw [ints_len, Nat.beq_refl, Nat.ble_eq_true_of_le (show 0 + ns.length ≤ ns.length by omega)]; rfl
    unfold onlySpecs viaSpecs
    rw [show (SP3 bs).calls 15 = some g15 from rfl]
    simp only
    unfold g15 sl
    simp only [hM, e1, e3, cond_true]
  cases hE : makeE (sizeN sz) 1 ns with
  | nil =>
    have h15 : ∀ (bs : List (Nat × (Code → St → Option (AExit × St)))) (x : Option ABlk), (QV.cr 15 [i64 sz, sl 1 ns.length, i64 1] [some (ro (ecOf rs) r0 4), some (ro (ints ns) n0 1), x] (.val (.agg ⟨[i64 (sizeN sz), .slice none 0 0]⟩))).holds Tryd.prog (SP3 bs) door3 [0, 1, 9] := fun bs x M hM => by
      simp only [List.map_cons, List.map_nil, List.cons.injEq, and_true] at hM
      refine acall_same ?_
      rw [h15call bs _ (show ({ M with log := [] } : Mem).get 1 = _ from hM.2.1), hE]
      rfl
    rw [hE] at hmk
    exact fin (bs := []) (fun _ p hp => by cases hp) (ck_ss_e rN sz wh at' v (sizeN sz) rs.length ns.length r0 n0 (ecOf rs) (ints ns) (checkB rN rs) (checkB (sizeN sz) [])) (by
      simp only [List.forall_mem_cons]
      refine ⟨a14s rN rs.length true (by simp; omega), h15 _ _, raw _ 16 rfl _ _ (fun M hM => by simp only [List.map_cons, List.map_nil, List.cons.injEq, and_true] at hM; exact hM.1), raw _ 17 rfl _ _ (fun M hM => by simp only [List.map_cons, List.map_nil, List.cons.injEq, and_true] at hM; exact hM.1), ?_⟩
      (repeat' apply And.intro) <;> first | exact aCn 16 rfl _ _ hmk | exact aCn 16 rfl _ _ rfl | exact aCn 17 rfl _ _ rfl | (simp [QV.holds]; done) | (intro x hx; cases hx)) (by simp)
  | cons e0 l0 =>
    generalize hes : makeE (sizeN sz) 1 ns = es at hE hmk hml
    have hpos : 0 < es.length := by rw [hE]; simp
    have h15 : ∀ (bs : List (Nat × (Code → St → Option (AExit × St)))) (t : List Nat) (x : List (Option ABlk)), (QV.ca 15 [i64 sz, sl 1 ns.length, i64 1] (some (ro (ecOf rs) r0 4) :: some (ro (ints ns) n0 1) :: x) 3 (.val (.agg ⟨[i64 (sizeN sz), sl 3 es.length]⟩)) (own (ecOf es) 31 4)).holds Tryd.prog (SP3 bs) door3 (0 :: 1 :: t) := fun bs t x M hM hnx => by
      simp only [List.map_cons, List.cons.injEq] at hM
      refine acall_alloc ?_
      rw [h15call bs _ (show ({ M with log := [] } : Mem).get 1 = _ from hM.2.1), hes, hE]
      show some (netV (sizeN sz) M.next (e0 :: l0), _) = _
      rw [hnx]
      rfl
    have hkr := modI_range (x := at') (n := (es.length : Int)) (by omega)
    obtain ⟨kk, hkk⟩ : ∃ kk : Nat, modI at' es.length = (kk : Int) := ⟨(modI at' es.length).toNat, by omega⟩
    rw [hkk] at hkr
    have hlt : kk < es.length := by omega
    obtain ⟨e, he⟩ : ∃ e, es[kk]? = some e := ⟨es[kk], List.getElem?_eq_getElem hlt⟩
    have hjr := modI_range (x := v) (n := 5) (by decide)
    obtain ⟨jj, hjj⟩ : ∃ jj : Nat, modI v 5 = (jj : Int) := ⟨(modI v 5).toNat, by omega⟩
    rw [hjj] at hjr
    have hk18 : ∀ (bs : List (Nat × (Code → St → Option (AExit × St)))) (ids : List Nat) (looks : List (Option ABlk)), (QV.cr 18 [i64 at', i64 es.length] looks (.val (i64 kk))).holds Tryd.prog (SP3 bs) door3 ids := fun _ _ _ => a18 at' es.length (by omega) (by omega) _ hkk
    have hj18 : ∀ (bs : List (Nat × (Code → St → Option (AExit × St)))) (ids : List Nat) (looks : List (Option ABlk)), (QV.cr 18 [i64 v, i64 5] looks (.val (i64 jj))).holds Tryd.prog (SP3 bs) door3 ids := fun _ _ _ => a18 v 5 (by decide) (by decide) _ hjj
    have hib : ∀ (bs : List (Nat × (Code → St → Option (AExit × St)))) (ids : List Nat), (QV.ib (kk : Nat) es.length).holds Tryd.prog (SP3 bs) door3 ids := fun _ _ => by simp only [QV.holds, inB, Bool.and_eq_true, decide_eq_true_eq]; omega
    have hjb : ∀ (bs : List (Nat × (Code → St → Option (AExit × St)))) (ids : List Nat), (QV.ib (jj : Nat) 5).holds Tryd.prog (SP3 bs) door3 ids := fun _ _ => by simp only [QV.holds, inB, Bool.and_eq_true, decide_eq_true_eq]; omega
    have hgt : ∀ (bs : List (Nat × (Code → St → Option (AExit × St)))) (ids : List Nat), (QV.b (decide ((es.length : Int) > 0)) (.val (.bool true))).holds Tryd.prog (SP3 bs) door3 ids := fun _ _ => by simp only [QV.holds]; rw [decide_eq_true (show (es.length : Int) > 0 by omega)]
    have hn16 : ∀ (bs : List (Nat × (Code → St → Option (AExit × St)))) (f : Nat), (SP3 bs).calls f = some gCheck → ∀ (N : Int) (es' : List E) (b : Bool), es'.length = es.length → checkB N es' = b → (QV.cr f [.agg ⟨[i64 N, sl 3 es.length]⟩] [some (ro (ecOf rs) r0 4), some (ro (ints ns) n0 1), some (own (ecOf es') 31 4)] (.val (.bool b))).holds Tryd.prog (SP3 bs) door3 [0, 1, 3] := fun bs f hf N es' b hl hb M hM => by
      simp only [List.map_cons, List.map_nil, List.cons.injEq, and_true] at hM
      subst hb
      exact aC f hf N hM.2.2 rfl rfl hl (by omega)
    have hwr := modI_range (x := wh) (n := 7) (by decide)
    have hw18 : ∀ (q : Int), modI wh 7 = q → ∀ (bs : List (Nat × (Code → St → Option (AExit × St)))) (ids : List Nat) (looks : List (Option ABlk)), (QV.cr 18 [i64 wh, i64 7] looks (.val (i64 q))).holds Tryd.prog (SP3 bs) door3 ids := fun q hq _ _ _ => a18 wh 7 (by decide) (by decide) _ hq
    have hcase : modI wh 7 = 0 ∨ modI wh 7 = 1 ∨ modI wh 7 = 2 ∨ modI wh 7 = 3 ∨ modI wh 7 = 4 ∨ modI wh 7 = 5 ∨ modI wh 7 = 6 := by omega
    have hld : ∀ (a b c d : Int), ∃ x : Int, ∀ (bs : List (Nat × (Code → St → Option (AExit × St)))) (ids : List Nat), (QV.ld 3 (0 + ((jj : Nat) : Int).toNat * 1) (some (own [i64 a, i64 b, i64 c, i64 d, i64 v] 3 1)) (.val (i64 x))).holds Tryd.prog (SP3 bs) door3 ids := fun a b c d => by
      have h5 : jj = 0 ∨ jj = 1 ∨ jj = 2 ∨ jj = 3 ∨ jj = 4 := by omega
      rcases h5 with rfl | rfl | rfl | rfl | rfl
      · exact ⟨a, fun _ _ => ⟨_, rfl, by rw [ld3]; rfl⟩⟩
      · exact ⟨b, fun _ _ => ⟨_, rfl, by rw [ld3]; rfl⟩⟩
      · exact ⟨c, fun _ _ => ⟨_, rfl, by rw [ld3]; rfl⟩⟩
      · exact ⟨d, fun _ _ => ⟨_, rfl, by rw [ld3]; rfl⟩⟩
      · exact ⟨v, fun _ _ => ⟨_, rfl, by rw [ld3]; rfl⟩⟩
    rcases hcase with hq | hq | hq | hq | hq | hq | hq
    · -- 0
      exact fin (bs := []) (fun _ p hp => by cases hp) (ck_ss_q0 rN sz wh at' v (sizeN sz) rs.length ns.length es.length kk r0 n0 (ecOf rs) (ints ns) (ecOf es) (ecOf (es.set kk (setF 0 e v))) (checkB rN rs) (checkB (sizeN sz) (es.set kk (setF 0 e v)))) (by
        simp only [List.forall_mem_cons]
        refine ⟨a14s rN rs.length true (by simp; omega), h15 _ _ _, raw _ 16 rfl _ _ (fun M hM => by simp only [List.map_cons, List.map_nil, List.cons.injEq, and_true] at hM; exact hM.1), raw _ 17 rfl _ _ (fun M hM => by simp only [List.map_cons, List.map_nil, List.cons.injEq, and_true] at hM; exact hM.1), ?_⟩
        (repeat' apply And.intro) <;> first | exact hn16 _ 16 rfl _ _ _ rfl hmk | exact hn16 _ 16 rfl _ _ _ (by simp) rfl | exact hn16 _ 17 rfl _ _ _ (by simp) rfl | exact hk18 _ _ _ | exact hw18 _ hq _ _ _ | exact hj18 _ _ _ | exact hib _ _ | exact hjb _ _ | exact hgt _ _ | exact aSt he 0 (by decide) v (by simp) | (simp [QV.holds]; done) | (intro x hx; cases hx)) (by simp)
    · -- 1
      exact fin (bs := []) (fun _ p hp => by cases hp) (ck_ss_q1 rN sz wh at' v (sizeN sz) rs.length ns.length es.length kk r0 n0 (ecOf rs) (ints ns) (ecOf es) (ecOf (es.set kk (setF 1 e (IntKind.wrap .i64 (IntKind.wrap .i64 (sizeN sz - 1) + modI v 2))))) (checkB rN rs) (checkB (sizeN sz) (es.set kk (setF 1 e (IntKind.wrap .i64 (IntKind.wrap .i64 (sizeN sz - 1) + modI v 2)))))) (by
        simp only [List.forall_mem_cons]
        refine ⟨a14s rN rs.length true (by simp; omega), h15 _ _ _, raw _ 16 rfl _ _ (fun M hM => by simp only [List.map_cons, List.map_nil, List.cons.injEq, and_true] at hM; exact hM.1), raw _ 17 rfl _ _ (fun M hM => by simp only [List.map_cons, List.map_nil, List.cons.injEq, and_true] at hM; exact hM.1), ?_⟩
        (repeat' apply And.intro) <;> first | exact hn16 _ 16 rfl _ _ _ rfl hmk | exact hn16 _ 16 rfl _ _ _ (by simp) rfl | exact hn16 _ 17 rfl _ _ _ (by simp) rfl | exact hk18 _ _ _ | exact hw18 _ hq _ _ _ | exact hj18 _ _ _ | exact hib _ _ | exact hjb _ _ | exact hgt _ _ | exact aSt he 1 (by decide) _ (by simp) | (simp [QV.holds]; done) | (intro x hx; cases hx)) (by simp)
    · -- 2
      obtain ⟨x, hx⟩ := hld (-1) 0 4 5
      exact fin (bs := []) (fun _ p hp => by cases hp) (ck_ss_q2 rN sz wh at' v (sizeN sz) x rs.length ns.length es.length kk jj r0 n0 (ecOf rs) (ints ns) (ecOf es) (ecOf (es.set kk (setF 2 e x))) (checkB rN rs) (checkB (sizeN sz) (es.set kk (setF 2 e x)))) (by
        simp only [List.forall_mem_cons]
        refine ⟨a14s rN rs.length true (by simp; omega), h15 _ _ _, raw _ 16 rfl _ _ (fun M hM => by simp only [List.map_cons, List.map_nil, List.cons.injEq, and_true] at hM; exact hM.1), raw _ 17 rfl _ _ (fun M hM => by simp only [List.map_cons, List.map_nil, List.cons.injEq, and_true] at hM; exact hM.1), ?_⟩
        (repeat' apply And.intro) <;> first | exact hn16 _ 16 rfl _ _ _ rfl hmk | exact hn16 _ 16 rfl _ _ _ (by simp) rfl | exact hn16 _ 17 rfl _ _ _ (by simp) rfl | exact hk18 _ _ _ | exact hw18 _ hq _ _ _ | exact hj18 _ _ _ | exact hib _ _ | exact hjb _ _ | exact hgt _ _ | exact aSt he 2 (by decide) x (by simp) | exact hx _ _ | (simp [QV.holds]; done) | (intro x hx; cases hx)) (by simp)
    · -- 3
      obtain ⟨x, hx⟩ := hld (-1) 0 2147483647 2147483648
      exact fin (bs := []) (fun _ p hp => by cases hp) (ck_ss_q3 rN sz wh at' v (sizeN sz) x rs.length ns.length es.length kk jj r0 n0 (ecOf rs) (ints ns) (ecOf es) (ecOf (es.set kk (setF 3 e x))) (checkB rN rs) (checkB (sizeN sz) (es.set kk (setF 3 e x)))) (by
        simp only [List.forall_mem_cons]
        refine ⟨a14s rN rs.length true (by simp; omega), h15 _ _ _, raw _ 16 rfl _ _ (fun M hM => by simp only [List.map_cons, List.map_nil, List.cons.injEq, and_true] at hM; exact hM.1), raw _ 17 rfl _ _ (fun M hM => by simp only [List.map_cons, List.map_nil, List.cons.injEq, and_true] at hM; exact hM.1), ?_⟩
        (repeat' apply And.intro) <;> first | exact hn16 _ 16 rfl _ _ _ rfl hmk | exact hn16 _ 16 rfl _ _ _ (by simp) rfl | exact hn16 _ 17 rfl _ _ _ (by simp) rfl | exact hk18 _ _ _ | exact hw18 _ hq _ _ _ | exact hj18 _ _ _ | exact hib _ _ | exact hjb _ _ | exact hgt _ _ | exact aSt he 3 (by decide) x (by simp) | exact hx _ _ | (simp [QV.holds]; done) | (intro x hx; cases hx)) (by simp)
    · -- 4
      obtain ⟨x, hx⟩ := hld 0 1 60 61
      exact fin (bs := []) (fun _ p hp => by cases hp) (ck_ss_q4 rN sz wh at' v (sizeN sz) x rs.length ns.length es.length kk jj r0 n0 (ecOf rs) (ints ns) (ecOf es) (checkB rN rs) (checkB x es)) (by
        simp only [List.forall_mem_cons]
        refine ⟨a14s rN rs.length true (by simp; omega), h15 _ _ _, raw _ 16 rfl _ _ (fun M hM => by simp only [List.map_cons, List.map_nil, List.cons.injEq, and_true] at hM; exact hM.1), raw _ 17 rfl _ _ (fun M hM => by simp only [List.map_cons, List.map_nil, List.cons.injEq, and_true] at hM; exact hM.1), ?_⟩
        (repeat' apply And.intro) <;> first | exact hn16 _ 16 rfl _ _ _ rfl hmk | exact hn16 _ 16 rfl _ _ _ (by simp) rfl | exact hn16 _ 17 rfl _ _ _ (by simp) rfl | exact hk18 _ _ _ | exact hw18 _ hq _ _ _ | exact hj18 _ _ _ | exact hib _ _ | exact hjb _ _ | exact hgt _ _ | exact hx _ _ | (simp [QV.holds]; done) | (intro x hx; cases hx)) (by simp)
    · -- 5
      obtain ⟨T, hT⟩ : ∃ T : Nat, (399 + (modI v 4).toNat : Nat) = es.length + T := ⟨399 + (modI v 4).toNat - es.length, by omega⟩
      have hw4 := modI_range (x := v) (n := 4) (by decide)
      have hgl := grow_len es e T
      have h0 : grow es e 0 = es := by simp [grow]
      have hn5 : ∀ (bs : List (Nat × (Code → St → Option (AExit × St)))) (f : Nat), (SP3 bs).calls f = some gCheck → (QV.cr f [.agg ⟨[i64 (sizeN sz), sl 5 (grow es e T).length]⟩] [none, none, none, some (own (ecOf (grow es e T)) 31 4)] (.val (.bool (checkB (sizeN sz) (grow es e T))))).holds Tryd.prog (SP3 bs) door3 [0, 1, 3, 5] := fun bs f hf M hM => by
        simp only [List.map_cons, List.map_nil, List.cons.injEq, and_true] at hM
        exact aC f hf _ hM.2.2.2 rfl rfl rfl (by omega)
      have hm5 : ∀ (bs : List (Nat × (Code → St → Option (AExit × St)))), (QV.cr 16 [.agg ⟨[i64 (sizeN sz), sl 3 es.length]⟩] [some (ro (ecOf rs) r0 4), some (ro (ints ns) n0 1), some (own (ecOf es) 31 4), none] (.val (.bool true))).holds Tryd.prog (SP3 bs) door3 [0, 1, 3, 5] := fun bs M hM => by
        simp only [List.map_cons, List.map_nil, List.cons.injEq, and_true] at hM
        rw [← hmk]
        exact aC 16 rfl _ hM.2.2.1 rfl rfl rfl (by omega)
      exact fin (bs := [(1, loopG (.loop loop3) (door3 1) (I3 (sizeN sz) v kk (grow es e 0).length (ecOf (grow es e 0)) 6) (.normal, I3 (sizeN sz) v kk (grow es e T).length (ecOf (grow es e T)) 10))]) (fun B p hp => by
          rw [List.mem_singleton.1 hp]; exact blk3 (sizeN sz) v es (by omega) kk e he T hT B) (ck_ss_q5 rN sz wh at' v (sizeN sz) rs.length ns.length es.length (grow es e T).length kk r0 n0 (ecOf rs) (ints ns) (ecOf es) (ecOf (grow es e T)) (checkB rN rs) (checkB (sizeN sz) (grow es e T)) _) (by
        simp only [List.forall_mem_cons]
        refine ⟨a14s rN rs.length true (by simp; omega), h15 _ _ _, raw _ 16 rfl _ _ (fun M hM => by simp only [List.map_cons, List.map_nil, List.cons.injEq, and_true] at hM; exact hM.1), raw _ 17 rfl _ _ (fun M hM => by simp only [List.map_cons, List.map_nil, List.cons.injEq, and_true] at hM; exact hM.1), ?_⟩
        (repeat' apply And.intro) <;> first | exact hm5 _ | exact hn5 _ 16 rfl | exact hn5 _ 17 rfl | exact hk18 _ _ _ | exact hw18 _ hq _ _ _ | exact hgt _ _ | (simp [QV.holds]; done) | (intro x hx; cases hx) | (refine ⟨I3 (sizeN sz) v kk (grow es e 0).length (ecOf (grow es e 0)) 6, rfl, rfl, rfl, by rw [h0], fun l hl => ?_, rfl⟩; rw [List.mem_singleton.1 hl]; exact renL_flat _ _ (ecOf_flat _))) (by simp)
    · -- 6
      exact fin (bs := []) (fun _ p hp => by cases hp) (ck_ss_q6 rN sz wh at' v (sizeN sz) rs.length ns.length es.length kk r0 n0 (ecOf rs) (ints ns) (ecOf es) (checkB rN rs) (checkB (IntKind.wrap .i64 (0 - sizeN sz)) es)) (by
        simp only [List.forall_mem_cons]
        refine ⟨a14s rN rs.length true (by simp; omega), h15 _ _ _, raw _ 16 rfl _ _ (fun M hM => by simp only [List.map_cons, List.map_nil, List.cons.injEq, and_true] at hM; exact hM.1), raw _ 17 rfl _ _ (fun M hM => by simp only [List.map_cons, List.map_nil, List.cons.injEq, and_true] at hM; exact hM.1), ?_⟩
        (repeat' apply And.intro) <;> first | exact hn16 _ 16 rfl _ _ _ rfl hmk | exact hn16 _ 16 rfl _ _ _ (by simp) rfl | exact hn16 _ 17 rfl _ _ _ (by simp) rfl | exact hk18 _ _ _ | exact hw18 _ hq _ _ _ | exact hj18 _ _ _ | exact hib _ _ | exact hjb _ _ | exact hgt _ _ | (simp [QV.holds]; done) | (intro x hx; cases hx)) (by simp)
end Go.Proofs.YtlmifmodnkhidaaDoor
