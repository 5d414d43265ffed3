/-
  DfaParts: by one word, and another one, a state comes to where it does by both
-/
import Derived.Test.YtepgijgmnijdpaaDoorGE1
import Derived.Test.YtepgijgmnijdpaaDoorGD3
import Derived.Test.YtepgijgmnijdpaaDoorGDT
import Derived.Stop.LaidErr
import Derived.Lib.LaidTab
import Derived.Test.YtepgijgmnijdpaaDoorCards
import Derived.Test.YtepgijgmnijdpaaDoorTie
import Derived.Test.YtepgijgmnijdpaaDoorChecked
open Go Go.Am Go.Proofs
namespace Go.Proofs.YtepgijgmnijdpaaDoor
set_option maxRecDepth 100000
theorem mkB {x y : Int} {M' : Mem} {bf : Nat} {cf : List Value} {w2 : Nat} {q2 : Bool} (h2 : M'.get bf = some ⟨cf, 4, 1, w2, q2⟩) (e2 : cf = (brows (accsI y (nN x))).flatten) : BoolsAt M' (.slice (some ⟨bf, 0, none⟩) (accsI y (nN x)).length (nN x)) (accsI y (nN x)) := by
  have hn := nN_le x
  refine ⟨?_, fun _ _ => rfl, by rw [accsI_len]; omega⟩
  rw [accsI_len]
  exact .inr ⟨bf, 0, nN x, _, [], [], rfl, h2, by simp [e2, brows], rfl, fun r hr => by obtain ⟨b, _, rfl⟩ := List.mem_map.1 hr; rfl⟩
theorem q_slice {P : Program} {SP : Specs} {t : TypeId} {x v : Value} {lo hi mx : Option Value} {M : Mem} (h : aslice P t x lo hi mx M = some v) : OQ.holds P SP (.q (.slice t x lo hi mx M) (1, .val v, M)) := ⟨v, rfl, h⟩
theorem slice_nil_t0 (M : Mem) : aslice Tryd.prog 26 sln none (some (i64 ((0 : Nat) : Int))) none M = some sln := by kernel_rfl
theorem slice_nil_to {M : Mem} {kn : Nat} (hk : kn ≤ ([] : List Int).length) : aslice Tryd.prog 26 sln none (some (i64 ((kn : Nat) : Int))) none M = some sln := by
  have h0 : kn = 0 := by simpa using hk
  subst h0
  exact slice_nil_t0 M
theorem slice_nil_f0 (M : Mem) : aslice Tryd.prog 26 sln (some (i64 ((0 : Nat) : Int))) none none M = some sln := by kernel_rfl
theorem slice_nil_from {M : Mem} {kn : Nat} (hk : kn ≤ ([] : List Int).length) : aslice Tryd.prog 26 sln (some (i64 ((kn : Nat) : Int))) none none M = some sln := by
  have h0 : kn = 0 := by simpa using hk
  subst h0
  exact slice_nil_f0 M
theorem flat_nil {M : Mem} : FlatAt 1 M (.slice none ([] : List Int).length 0) (([] : List Int).map ([·])) := ⟨.inl ⟨_, rfl, rfl⟩, (fun r hr => by cases hr), by simp⟩
theorem rK5 : Tryd.f5.results = #[.tmp 10] := by kernel_rfl
theorem hS5_12_14_17_18_19_21 (B : Bd) : ∀ p ∈ ([(12, pick (Con Tryd.prog [0] 12 (Fl g12))), (14, pick (Con Tryd.prog [0] 14 Qmk)), (17, pick (Con Tryd.prog [0] 17 Q17)), (18, pick (Con Tryd.prog [0] 18 Qword)), (19, pick (Con Tryd.prog [0] 19 Qgo)), (21, pick (Con Tryd.prog [0] 21 Qrun))] : List (FuncId × (List Value → Mem → Option (Value × Mem)))), SpecOk Tryd.prog [0] B p.1 p.2 := (fun p hp => by simp only [List.mem_cons, List.not_mem_nil, or_false] at hp; rcases hp with rfl | rfl | rfl | rfl | rfl | rfl <;> first | exact Con.ok _ | exact SpecOk.gl (Con.ok _))
theorem w5_n_raw (x : Int) (a : Option Addr) (c : Nat) (ns : List Int) (y : Int) (aw : Option Addr) (cw : Nat) (ws : List Int) (cut : Int) (kn : Nat) (_ : TypeId) (M : Mem) (M3 : Mem) (M15 : Mem) (y12s : Nat) (y12f : Nat) (b24 : Nat) (M25 : Mem) (M34 : Mem) (M46 : Mem) (M60 : Mem) (M74 : Mem) (M92 : Mem) (M118 : Mem) (M137 : Mem) : oTg Tryd.prog [0] [] 60 Tryd.f5 q5 [i64 x, (.slice a ns.length c), i64 y, (.slice aw ws.length cw), i64 cut] M [ttV 3 (.bool true) M3, ttV 14 (.agg ⟨[(sli y12s 0 (nN x) (nN x)), (sli y12f 0 (nN x) (nN x))]⟩) M15, ttV 16 (pt b24 0) M25, ttS 18 M34, ttV 22 sln M46, ttV 34 (i64 (((kn : Nat) : Int))) M60, ttL 38 (.agg ⟨[(sli y12s 0 (nN x) (nN x)), (sli y12f 0 (nN x) (nN x))]⟩), .at 44 (1, .val sln, (Mem.mk M60.blks M60.next (hides 6 [⟨2, 0, M60.next, M60.next⟩, ⟨1, 0, M60.next, M60.next⟩, ⟨0, 1, M60.next, M60.next⟩] ++ M60.hide) M60.log)), ttV 46 (i64 (goF (rowsI (nOf x) ns y (nN x)) 0 [])) M74, ttL 50 (.agg ⟨[(sli y12s 0 (nN x) (nN x)), (sli y12f 0 (nN x) (nN x))]⟩), .at 58 (1, .val sln, (Mem.mk M74.blks M74.next (hides 12 [⟨3, 0, M74.next, M74.next⟩, ⟨2, 0, M74.next, M74.next⟩, ⟨1, 0, M74.next, M74.next⟩, ⟨0, 1, M74.next, M74.next⟩] ++ M60.hide) M74.log)), ttV 60 (i64 (goF (rowsI (nOf x) ns y (nN x)) (goF (rowsI (nOf x) ns y (nN x)) 0 []) [])) M92, ttT 69, ttT 71, ttT 73, ttL 74 (sli y12s 0 (nN x) (nN x)), ttT 75, ttT 77, ttT 80, ttT 83, ttT 85, ttL 86 (.agg ⟨[(sli y12s 0 (nN x) (nN x)), (sli y12f 0 (nN x) (nN x))]⟩), ttT 87, ttT 89, ttV 90 (i64 (goF (rowsI (nOf x) ns y (nN x)) 0 [])) M118, ttT 91, ttT 94, ttT 97, ttT 99, ttT 102, ttT 105, ttT 107, ttT 109, ttL 110 (sli y12f 0 (nN x) (nN x)), ttT 111, ttT 113, ttT 116, ttT 119, ttL 120 (.agg ⟨[(sli y12s 0 (nN x) (nN x)), (sli y12f 0 (nN x) (nN x))]⟩), ttT 121, ttT 123, ttV 124 (.bool (runF (rowsI (nOf x) ns y (nN x)) (accsI y (nN x)) [])) M137, ttT 125, ttT 127, ttL 128 (sli y12f 0 (nN x) (nN x)), ttT 129, ttT 131, ttT 132, ttT 133, ttL 134 (.bool (accAt (accsI y (nN x)) (goF (rowsI (nOf x) ns y (nN x)) (goF (rowsI (nOf x) ns y (nN x)) 0 []) []))), ttT 135, ttT 138] 10 = some (.ret, some (.bool ((runF (rowsI (nOf x) ns y (nN x)) (accsI y (nN x)) []) == (accAt (accsI y (nN x)) (goF (rowsI (nOf x) ns y (nN x)) (goF (rowsI (nOf x) ns y (nN x)) 0 []) [])))), (Mem.mk M137.blks M137.next M60.hide (M137.log ++ M92.log)), [qC 12 [] M (.bool true) M3, qC 14 [(i64 x), (.slice a ns.length c), (i64 y)] M3 (.agg ⟨[(sli y12s 0 (nN x) (nN x)), (sli y12f 0 (nN x) (nN x))]⟩) M15, .eq (aalloc Tryd.prog 25 M15) (1, .val (pt b24 0), M25), qS 25 b24 0 (.agg ⟨[(sli y12s 0 (nN x) (nN x)), (sli y12f 0 (nN x) (nN x))]⟩) M25 M34, qC 18 [(.slice aw ws.length cw), (i64 14), (i64 4)] M34 sln M46, qC 17 [(i64 cut), (i64 1)] M46 (i64 (((kn : Nat) : Int))) M60, qL 25 b24 0 M60 (.agg ⟨[(sli y12s 0 (nN x) (nN x)), (sli y12f 0 (nN x) (nN x))]⟩), .q (.slice 26 sln none (some (i64 (((kn : Nat) : Int)))) none (Mem.mk M60.blks M60.next (hides 6 [⟨2, 0, M60.next, M60.next⟩, ⟨1, 0, M60.next, M60.next⟩, ⟨0, 1, M60.next, M60.next⟩] ++ M60.hide) M60.log)) (1, .val sln, (Mem.mk M60.blks M60.next (hides 6 [⟨2, 0, M60.next, M60.next⟩, ⟨1, 0, M60.next, M60.next⟩, ⟨0, 1, M60.next, M60.next⟩] ++ M60.hide) M60.log)), qC 19 [(.agg ⟨[(sli y12s 0 (nN x) (nN x)), (sli y12f 0 (nN x) (nN x))]⟩), (i64 0), sln] M60 (i64 (goF (rowsI (nOf x) ns y (nN x)) 0 [])) M74, qL 25 b24 0 (Mem.mk M74.blks M74.next M60.hide M74.log) (.agg ⟨[(sli y12s 0 (nN x) (nN x)), (sli y12f 0 (nN x) (nN x))]⟩), .q (.slice 26 sln (some (i64 (((kn : Nat) : Int)))) none none (Mem.mk M74.blks M74.next (hides 12 [⟨3, 0, M74.next, M74.next⟩, ⟨2, 0, M74.next, M74.next⟩, ⟨1, 0, M74.next, M74.next⟩, ⟨0, 1, M74.next, M74.next⟩] ++ M60.hide) M74.log)) (1, .val sln, (Mem.mk M74.blks M74.next (hides 12 [⟨3, 0, M74.next, M74.next⟩, ⟨2, 0, M74.next, M74.next⟩, ⟨1, 0, M74.next, M74.next⟩, ⟨0, 1, M74.next, M74.next⟩] ++ M60.hide) M74.log)), qC 19 [(.agg ⟨[(sli y12s 0 (nN x) (nN x)), (sli y12f 0 (nN x) (nN x))]⟩), (i64 (goF (rowsI (nOf x) ns y (nN x)) 0 [])), sln] (Mem.mk M74.blks M74.next M60.hide M74.log) (i64 (goF (rowsI (nOf x) ns y (nN x)) (goF (rowsI (nOf x) ns y (nN x)) 0 []) [])) M92, qT (decide ((goF (rowsI (nOf x) ns y (nN x)) 0 []) ≥ (0 : Int))), qT (decide ((goF (rowsI (nOf x) ns y (nN x)) 0 []) ≥ (0 : Int))), qT (decide ((goF (rowsI (nOf x) ns y (nN x)) 0 []) ≥ (0 : Int))), qL 22 b24 0 (Mem.mk M92.blks M92.next M60.hide []) (sli y12s 0 (nN x) (nN x)), qT (decide ((goF (rowsI (nOf x) ns y (nN x)) 0 []) ≥ (0 : Int))), qT (decide ((goF (rowsI (nOf x) ns y (nN x)) 0 []) ≥ (0 : Int))), qT (decide ((goF (rowsI (nOf x) ns y (nN x)) 0 []) ≥ (0 : Int))), qT (decide ((goF (rowsI (nOf x) ns y (nN x)) 0 []) < (((nN x : Nat) : Int)))), qT (decide ((goF (rowsI (nOf x) ns y (nN x)) 0 []) < (((nN x : Nat) : Int)))), qL 25 b24 0 (Mem.mk M92.blks M92.next M60.hide []) (.agg ⟨[(sli y12s 0 (nN x) (nN x)), (sli y12f 0 (nN x) (nN x))]⟩), qT (decide ((goF (rowsI (nOf x) ns y (nN x)) 0 []) < (((nN x : Nat) : Int)))), qT (decide ((goF (rowsI (nOf x) ns y (nN x)) 0 []) < (((nN x : Nat) : Int)))), qC 19 [(.agg ⟨[(sli y12s 0 (nN x) (nN x)), (sli y12f 0 (nN x) (nN x))]⟩), (i64 0), sln] (Mem.mk M92.blks M92.next M60.hide []) (i64 (goF (rowsI (nOf x) ns y (nN x)) 0 [])) M118, qT (decide ((goF (rowsI (nOf x) ns y (nN x)) 0 []) < (((nN x : Nat) : Int)))), qT (decide ((goF (rowsI (nOf x) ns y (nN x)) 0 []) < (((nN x : Nat) : Int)))), qT ((goF (rowsI (nOf x) ns y (nN x)) (goF (rowsI (nOf x) ns y (nN x)) 0 []) []) == (goF (rowsI (nOf x) ns y (nN x)) 0 [])), qT ((goF (rowsI (nOf x) ns y (nN x)) (goF (rowsI (nOf x) ns y (nN x)) 0 []) []) == (goF (rowsI (nOf x) ns y (nN x)) 0 [])), qT ((goF (rowsI (nOf x) ns y (nN x)) (goF (rowsI (nOf x) ns y (nN x)) 0 []) []) == (goF (rowsI (nOf x) ns y (nN x)) 0 [])), qT (decide ((goF (rowsI (nOf x) ns y (nN x)) (goF (rowsI (nOf x) ns y (nN x)) 0 []) []) ≥ (0 : Int))), qT (decide ((goF (rowsI (nOf x) ns y (nN x)) (goF (rowsI (nOf x) ns y (nN x)) 0 []) []) ≥ (0 : Int))), qT (decide ((goF (rowsI (nOf x) ns y (nN x)) (goF (rowsI (nOf x) ns y (nN x)) 0 []) []) ≥ (0 : Int))), qL 23 b24 1 (Mem.mk M118.blks M118.next M60.hide M118.log) (sli y12f 0 (nN x) (nN x)), qT (decide ((goF (rowsI (nOf x) ns y (nN x)) (goF (rowsI (nOf x) ns y (nN x)) 0 []) []) ≥ (0 : Int))), qT (decide ((goF (rowsI (nOf x) ns y (nN x)) (goF (rowsI (nOf x) ns y (nN x)) 0 []) []) ≥ (0 : Int))), qT (decide ((goF (rowsI (nOf x) ns y (nN x)) (goF (rowsI (nOf x) ns y (nN x)) 0 []) []) ≥ (0 : Int))), qT (decide ((goF (rowsI (nOf x) ns y (nN x)) (goF (rowsI (nOf x) ns y (nN x)) 0 []) []) < (((nN x : Nat) : Int)))), qL 25 b24 0 (Mem.mk M118.blks M118.next M60.hide M118.log) (.agg ⟨[(sli y12s 0 (nN x) (nN x)), (sli y12f 0 (nN x) (nN x))]⟩), qT (decide ((goF (rowsI (nOf x) ns y (nN x)) (goF (rowsI (nOf x) ns y (nN x)) 0 []) []) < (((nN x : Nat) : Int)))), qT (decide ((goF (rowsI (nOf x) ns y (nN x)) (goF (rowsI (nOf x) ns y (nN x)) 0 []) []) < (((nN x : Nat) : Int)))), qC 21 [(.agg ⟨[(sli y12s 0 (nN x) (nN x)), (sli y12f 0 (nN x) (nN x))]⟩), sln] (Mem.mk M118.blks M118.next M60.hide M118.log) (.bool (runF (rowsI (nOf x) ns y (nN x)) (accsI y (nN x)) [])) M137, qT (decide ((goF (rowsI (nOf x) ns y (nN x)) (goF (rowsI (nOf x) ns y (nN x)) 0 []) []) < (((nN x : Nat) : Int)))), qT (decide ((goF (rowsI (nOf x) ns y (nN x)) (goF (rowsI (nOf x) ns y (nN x)) 0 []) []) < (((nN x : Nat) : Int)))), qL 23 b24 1 (Mem.mk M137.blks M137.next (hides 2415919103 [⟨31, 0, M137.next, M137.next⟩, ⟨30, 1, M118.next, M137.next⟩, ⟨29, 0, M118.next, M118.next⟩, ⟨28, 1, M118.next, M118.next⟩, ⟨27, 0, M118.next, M118.next⟩, ⟨26, 0, M118.next, M118.next⟩, ⟨25, 0, M118.next, M118.next⟩, ⟨24, 0, M118.next, M118.next⟩, ⟨23, 1, M118.next, M118.next⟩, ⟨22, 0, M118.next, M118.next⟩, ⟨21, 0, M118.next, M118.next⟩, ⟨20, 0, M118.next, M118.next⟩, ⟨19, 0, M118.next, M118.next⟩, ⟨18, 0, M118.next, M118.next⟩, ⟨17, 0, M118.next, M118.next⟩, ⟨16, 0, M118.next, M118.next⟩, ⟨15, 0, M118.next, M118.next⟩, ⟨14, 0, M118.next, M118.next⟩, ⟨13, 1, M92.next, M118.next⟩, ⟨12, 0, M92.next, M92.next⟩, ⟨11, 1, M92.next, M92.next⟩, ⟨10, 0, M92.next, M92.next⟩, ⟨9, 0, M92.next, M92.next⟩, ⟨8, 0, M92.next, M92.next⟩, ⟨7, 0, M92.next, M92.next⟩, ⟨6, 0, M92.next, M92.next⟩, ⟨5, 1, M92.next, M92.next⟩, ⟨4, 0, M92.next, M92.next⟩, ⟨3, 0, M92.next, M92.next⟩, ⟨2, 0, M92.next, M92.next⟩, ⟨1, 0, M92.next, M92.next⟩, ⟨0, 0, M92.next, M92.next⟩] ++ M60.hide) M137.log) (sli y12f 0 (nN x) (nN x)), qT (Nat.blt b24 M92.next), qT (decide ((goF (rowsI (nOf x) ns y (nN x)) (goF (rowsI (nOf x) ns y (nN x)) 0 []) []) < (((nN x : Nat) : Int)))), qT (decide ((goF (rowsI (nOf x) ns y (nN x)) (goF (rowsI (nOf x) ns y (nN x)) 0 []) []) < (((nN x : Nat) : Int)))), .q (.inb (goF (rowsI (nOf x) ns y (nN x)) (goF (rowsI (nOf x) ns y (nN x)) 0 []) []) (nN x)) (ansB true), qT (decide ((goF (rowsI (nOf x) ns y (nN x)) (goF (rowsI (nOf x) ns y (nN x)) 0 []) []) < (((nN x : Nat) : Int)))), qL 4 y12f (0 + (goF (rowsI (nOf x) ns y (nN x)) (goF (rowsI (nOf x) ns y (nN x)) 0 []) [] : Int).toNat * 1) (Mem.mk M137.blks M137.next (hides 32480690175 [⟨34, 0, M137.next, M137.next⟩, ⟨33, 0, M137.next, M137.next⟩, ⟨31, 0, M137.next, M137.next⟩, ⟨30, 1, M118.next, M137.next⟩, ⟨29, 0, M118.next, M118.next⟩, ⟨28, 1, M118.next, M118.next⟩, ⟨27, 0, M118.next, M118.next⟩, ⟨26, 0, M118.next, M118.next⟩, ⟨25, 0, M118.next, M118.next⟩, ⟨24, 0, M118.next, M118.next⟩, ⟨23, 1, M118.next, M118.next⟩, ⟨22, 0, M118.next, M118.next⟩, ⟨21, 0, M118.next, M118.next⟩, ⟨20, 0, M118.next, M118.next⟩, ⟨19, 0, M118.next, M118.next⟩, ⟨18, 0, M118.next, M118.next⟩, ⟨17, 0, M118.next, M118.next⟩, ⟨16, 0, M118.next, M118.next⟩, ⟨15, 0, M118.next, M118.next⟩, ⟨14, 0, M118.next, M118.next⟩, ⟨13, 1, M92.next, M118.next⟩, ⟨12, 0, M92.next, M92.next⟩, ⟨11, 1, M92.next, M92.next⟩, ⟨10, 0, M92.next, M92.next⟩, ⟨9, 0, M92.next, M92.next⟩, ⟨8, 0, M92.next, M92.next⟩, ⟨7, 0, M92.next, M92.next⟩, ⟨6, 0, M92.next, M92.next⟩, ⟨5, 1, M92.next, M92.next⟩, ⟨4, 0, M92.next, M92.next⟩, ⟨3, 0, M92.next, M92.next⟩, ⟨2, 0, M92.next, M92.next⟩, ⟨1, 0, M92.next, M92.next⟩, ⟨0, 0, M92.next, M92.next⟩] ++ M60.hide) M137.log) (.bool (accAt (accsI y (nN x)) (goF (rowsI (nOf x) ns y (nN x)) (goF (rowsI (nOf x) ns y (nN x)) 0 []) []))), qT (Nat.blt y12f M92.next), qT (decide ((goF (rowsI (nOf x) ns y (nN x)) (goF (rowsI (nOf x) ns y (nN x)) 0 []) []) < (((nN x : Nat) : Int)))), qT (decide ((goF (rowsI (nOf x) ns y (nN x)) (goF (rowsI (nOf x) ns y (nN x)) 0 []) []) < (((nN x : Nat) : Int)))), qT (apartN [y12f, b24] M137.log)]) := by kernel_rfl
theorem w5_n (x : Int) (a : Option Addr) (c : Nat) (ns : List Int) (y : Int) (aw : Option Addr) (cw : Nat) (ws : List Int) (cut : Int) (kn : Nat) (e : TypeId) {M : Mem} (hM : MemOk M) (hT : M.get 0 = some (tabB e)) (hs : FlatAt 1 M (.slice a ns.length c) (ns.map ([·]))) (hw : FlatAt 1 M (.slice aw ws.length cw) (ws.map ([·]))) (hwl : wordI 4 (ws.take 14) = []) (_ : (wordI 4 (ws.take 14)).length ≤ 1000) (hkn : kn ≤ ([] : List Int).length) (hkm : modI cut 1 = ((kn : Nat) : Int)) (hmid : 0 ≤ goF (rowsI (nOf x) ns y (nN x)) 0 [] ∧ goF (rowsI (nOf x) ns y (nN x)) 0 [] < ((nN x : Nat) : Int)) (hend : 0 ≤ goF (rowsI (nOf x) ns y (nN x)) (goF (rowsI (nOf x) ns y (nN x)) 0 []) [] ∧ goF (rowsI (nOf x) ns y (nN x)) (goF (rowsI (nOf x) ns y (nN x)) 0 []) [] < ((nN x : Nat) : Int)) (hsame : goF (rowsI (nOf x) ns y (nN x)) (goF (rowsI (nOf x) ns y (nN x)) 0 []) [] = goF (rowsI (nOf x) ns y (nN x)) 0 ([] : List Int)) (hlast : runF (rowsI (nOf x) ns y (nN x)) (accsI y (nN x)) ([] : List Int) = accAt (accsI y (nN x)) (goF (rowsI (nOf x) ns y (nN x)) (goF (rowsI (nOf x) ns y (nN x)) 0 []) [])) : ∃ M', Ev Tryd.prog [0] 5 [i64 x, (.slice a ns.length c), i64 y, (.slice aw ws.length cw), i64 cut] M (.bool true) M' := by
  obtain ⟨w1, N2, M3, p4, l5, e6, E7, hM8, Q9, G10⟩ := call_t (P := Tryd.prog) (GL := [0]) (f := 12) hM (con12c (((Ext.refl M)).old hT))
  have ew1 : w1 = .bool true := (Option.some.inj Q9).symm
  subst ew1
  have X11 := (Ext.refl M).trans E7
  obtain ⟨w13, N14, M15, p16, l17, e18, E19, hM20, Q21, G22⟩ := call_t (P := Tryd.prog) (GL := [0]) (f := 14) hM8 (Con.gl (con14 x a c ns y (MemOk.log hM8) (hs.Ext X11).log))
  obtain ⟨y12s, y12f, ew13, ⟨y12n1, y12g1⟩, ⟨y12n2, y12g2⟩, dy12sy12f⟩ := Qmk.val (hs.Ext X11).log Q21
  subst ew13
  have y12m1 : M3.next ≤ y12s := y12n1
  have y12m2 : M3.next ≤ y12f := y12n2
  have y12h1 : M15.get y12s = some ⟨(irows (rowsI (nOf x) ns y (nN x))).flatten, 31, 5, 0, true⟩ := by rw [G22]; exact y12g1
  have y12h2 : M15.get y12f = some ⟨(brows (accsI y (nN x))).flatten, 4, 1, 0, true⟩ := by rw [G22]; exact y12g2
  have ny12s : M.next ≤ y12s := Nat.le_trans (X11).next y12m1
  have ny12f : M.next ≤ y12f := Nat.le_trans (X11).next y12m2
  have X23 := X11.trans E19
  obtain ⟨b24, M25, eb26, em27, g28, E29, hM30⟩ := new_t hM20 ⟨[sln, sln], 25, 2, 0, true⟩
  have nb24 : M.next ≤ b24 := by rw [← eb26]; exact X23.next
  have dy12sb24 : y12s ≠ b24 := by have := Mem.lt_of_get y12h1; omega
  have dy12fb24 : y12f ≠ b24 := by have := Mem.lt_of_get y12h2; omega
  have g31 := E29.old y12h1
  have g32 := E29.old y12h2
  have X33 := X23.trans E29
  obtain ⟨M34, q35, g36, kp37, X38, hM39, nx40⟩ := store_t (o := 0) (v := (.agg ⟨[(sli y12s 0 (nN x) (nN x)), (sli y12f 0 (nN x) (nN x))]⟩)) (new := [(sli y12s 0 (nN x) (nN x)), (sli y12f 0 (nN x) (nN x))]) X33 nb24 hM30 dS25 g28 rfl rfl (Nat.zero_le _) (Nat.le_of_ble_eq_true rfl) rfl
  replace g36 : M34.get b24 = some ⟨[(sli y12s 0 (nN x) (nN x)), (sli y12f 0 (nN x) (nN x))], 25, 2, 0, true⟩ := g36
  have g41 := (kp37 _ dy12sb24).trans g31
  have g42 := (kp37 _ dy12fb24).trans g32
  obtain ⟨w44, N45, M46, p47, l48, e49, E50, hM51, Q52, G53⟩ := call_t (P := Tryd.prog) (GL := [0]) (f := 18) hM39 (Con.gl (con18 aw cw ws 14 4 (by decide) (MemOk.log hM39) (hw.Ext X38).log))
  have g54 := E50.old g41
  have g55 := E50.old g42
  have g56 := E50.old g36
  obtain ⟨w43b, w43w⟩ := Qword.val (mx := 14) (hw.Ext X38).log Q52
  have ew44 : w44 = sln := by
    rcases w43w with ⟨_, h⟩ | ⟨_, h, _⟩
    · exact h
    · rw [hwl] at h; exact absurd h (Nat.lt_irrefl 0)
  subst ew44
  have X57 := X38.trans E50
  obtain ⟨w58, N59, M60, p61, l62, e63, E64, hM65, Q66, G67⟩ := call_t (P := Tryd.prog) (GL := [0]) (f := 17) hM51 (Con.gl (con17 cut 1 (by first | decide | (rw [hwrap]; simp; omega))))
  have g68 := E64.old g54
  have g69 := E64.old g55
  have g70 := E64.old g56
  have ew58 : w58 = i64 ((kn : Nat) : Int) := by
    have h : i64 (modI cut 1) = w58 := Option.some.inj Q66.1
    rw [← h, hkm]
  subst ew58
  have X71 := X57.trans E64
  obtain ⟨w72, N73, M74, p75, l76, e77, E78, hM79, Q80, G81⟩ := call_t (P := Tryd.prog) (GL := [0]) (f := 19) hM65 (Con.gl (con19 0 (MemOk.log hM65) (mkAt g68 rfl g69 rfl).log flat_nil.log))
  have g82 := E78.old g68
  have g83 := E78.old g69
  have g84 := E78.old g70
  have ew72 := Qgo.val (mkAt g68 rfl g69 rfl).log flat_nil.log Q80
  subst ew72
  have X85 := X71.trans E78
  have nx86 := E78.next
  have lb87 := Mem.lt_of_get g82
  have lb88 := Mem.lt_of_get g83
  have lb89 := Mem.lt_of_get g84
  obtain ⟨w90, N91, M92, p93, l94, e95, E96, hM97, Q98, G99⟩ := call_t (P := Tryd.prog) (GL := [0]) (f := 19) hM79 (Con.gl (con19 (goF (rowsI (nOf x) ns y (nN x)) 0 []) (MemOk.log hM79) (mkAt g82 rfl g83 rfl).log flat_nil.log))
  have g100 := E96.old g82
  have g101 := E96.old g83
  have g102 := E96.old g84
  have ew90 := Qgo.val (mkAt g82 rfl g83 rfl).log flat_nil.log Q98
  subst ew90
  have X103 := X85.trans E96
  have nx104 := E96.next
  have lb105 := Mem.lt_of_get g100
  have lb106 := Mem.lt_of_get g101
  have lb107 := Mem.lt_of_get g102
  obtain ⟨R108, eR109⟩ : ∃ m : Mem, m = Mem.mk M92.blks M92.next M92.hide [] := ⟨_, rfl⟩
  have X110 : Ext (Mem.mk M.blks M.next M.hide []) R108 := by rw [eR109]; exact Ext.aside (X103)
  have lg111 : R108.log = [] := by rw [eR109]
  have hM112 : MemOk R108 := by rw [eR109]; exact MemOk.log hM97
  have lty12sM92 : y12s < M92.next := by have h := Mem.lt_of_get g100; exact h
  have g113 : R108.get y12s = some ⟨(irows (rowsI (nOf x) ns y (nN x))).flatten, 31, 5, 0, true⟩ := by rw [eR109]; exact g100
  have lty12fM92 : y12f < M92.next := by have h := Mem.lt_of_get g101; exact h
  have g114 : R108.get y12f = some ⟨(brows (accsI y (nN x))).flatten, 4, 1, 0, true⟩ := by rw [eR109]; exact g101
  have ltb24M92 : b24 < M92.next := by have h := Mem.lt_of_get g102; exact h
  have g115 : R108.get b24 = some ⟨[(sli y12s 0 (nN x) (nN x)), (sli y12f 0 (nN x) (nN x))], 25, 2, 0, true⟩ := by rw [eR109]; exact g102
  obtain ⟨w116, N117, M118, p119, l120, e121, E122, hM123, Q124, G125⟩ := call_t (P := Tryd.prog) (GL := [0]) (f := 19) hM112 (Con.gl (con19 0 (MemOk.log hM112) (mkAt g113 rfl g114 rfl).log flat_nil.log))
  have g126 := E122.old g113
  have g127 := E122.old g114
  have g128 := E122.old g115
  have ew116 := Qgo.val (mkAt g113 rfl g114 rfl).log flat_nil.log Q124
  subst ew116
  have lg129 : M118.log = [] := by rw [← e121]; exact lg111
  have X130 := X110.trans E122
  have nx131 := E122.next
  have lb132 := Mem.lt_of_get g126
  have lb133 := Mem.lt_of_get g127
  have lb134 := Mem.lt_of_get g128
  obtain ⟨w135, N136, M137, p138, l139, e140, E141, hM142, Q143, G144⟩ := call_t (P := Tryd.prog) (GL := [0]) (f := 21) hM123 (Con.gl (con21 (MemOk.log hM123) (mkAt g126 rfl g127 rfl).log flat_nil.log))
  have g145 := E141.old g126
  have g146 := E141.old g127
  have g147 := E141.old g128
  have ew135 := Qrun.val (mkAt g126 rfl g127 rfl).log flat_nil.log Q143
  subst ew135
  have lg148 : M137.log = [] := by rw [← e140]; exact lg129
  have X149 := X130.trans E141
  have nx150 := E141.next
  have lb151 := Mem.lt_of_get g145
  have lb152 := Mem.lt_of_get g146
  have lb153 := Mem.lt_of_get g147
  obtain ⟨M154, ef155⟩ : ∃ m : Mem, m = (Mem.mk M137.blks M137.next M137.hide (M137.log ++ M92.log)) := ⟨_, rfl⟩
  have X156 : Ext M M154 := by rw [ef155]; exact Ext.join (X103) (X149)
  have hM157 : MemOk M154 := by rw [ef155]; exact hM142
  have g158 : M154.get y12s = some ⟨(irows (rowsI (nOf x) ns y (nN x))).flatten, 31, 5, 0, true⟩ := by rw [ef155]; exact g145
  have g159 : M154.get y12f = some ⟨(brows (accsI y (nN x))).flatten, 4, 1, 0, true⟩ := by rw [ef155]; exact g146
  have g160 : M154.get b24 = some ⟨[(sli y12s 0 (nN x) (nN x)), (sli y12f 0 (nN x) (nN x))], 25, 2, 0, true⟩ := by rw [ef155]; exact g147
  have hraw := w5_n_raw x a c ns y aw cw ws cut kn e M M3 M15 y12s y12f b24 M25 M34 M46 M60 M74 M92 M118 M137
  have rw0 : Mem.mk M60.blks M60.next (hides 6 [⟨2, 0, M60.next, M60.next⟩, ⟨1, 0, M60.next, M60.next⟩, ⟨0, 1, M60.next, M60.next⟩] ++ M60.hide) M60.log = M60 := by rw [show hides 6 [⟨2, 0, M60.next, M60.next⟩, ⟨1, 0, M60.next, M60.next⟩, ⟨0, 1, M60.next, M60.next⟩] = [] from by simp [hides, Nat.beq_refl, show Nat.beq 1 0 = false from rfl]]; rfl
  have rw1 : Mem.mk M74.blks M74.next M60.hide M74.log = M74 := by rw [(show M60.hide = M74.hide from ((X71).hide.trans (X85).hide.symm))]
  have rw2 : Mem.mk M74.blks M74.next (hides 12 [⟨3, 0, M74.next, M74.next⟩, ⟨2, 0, M74.next, M74.next⟩, ⟨1, 0, M74.next, M74.next⟩, ⟨0, 1, M74.next, M74.next⟩] ++ M60.hide) M74.log = M74 := by rw [show hides 12 [⟨3, 0, M74.next, M74.next⟩, ⟨2, 0, M74.next, M74.next⟩, ⟨1, 0, M74.next, M74.next⟩, ⟨0, 1, M74.next, M74.next⟩] = [] from by simp [hides, Nat.beq_refl, show Nat.beq 1 0 = false from rfl], (show M60.hide = M74.hide from ((X71).hide.trans (X85).hide.symm))]; rfl
  have rw3 : Mem.mk M92.blks M92.next M60.hide M92.log = M92 := by rw [(show M60.hide = M92.hide from ((X71).hide.trans (X103).hide.symm))]
  have rw4 : Mem.mk M92.blks M92.next M60.hide [] = R108 := by rw [show M60.hide = M92.hide from ((X71).hide.trans (X103).hide.symm)]; exact eR109.symm
  have rw5 : Mem.mk M118.blks M118.next M60.hide M118.log = M118 := by rw [(show M60.hide = M118.hide from ((X71).hide.trans (X130).hide.symm))]
  have rw6 : Mem.mk M137.blks M137.next M60.hide M137.log = M137 := by rw [(show M60.hide = M137.hide from ((X71).hide.trans (X149).hide.symm))]
  have rw7 : Mem.mk M137.blks M137.next (hides 2415919103 [⟨31, 0, M137.next, M137.next⟩, ⟨30, 1, M118.next, M137.next⟩, ⟨29, 0, M118.next, M118.next⟩, ⟨28, 1, M118.next, M118.next⟩, ⟨27, 0, M118.next, M118.next⟩, ⟨26, 0, M118.next, M118.next⟩, ⟨25, 0, M118.next, M118.next⟩, ⟨24, 0, M118.next, M118.next⟩, ⟨23, 1, M118.next, M118.next⟩, ⟨22, 0, M118.next, M118.next⟩, ⟨21, 0, M118.next, M118.next⟩, ⟨20, 0, M118.next, M118.next⟩, ⟨19, 0, M118.next, M118.next⟩, ⟨18, 0, M118.next, M118.next⟩, ⟨17, 0, M118.next, M118.next⟩, ⟨16, 0, M118.next, M118.next⟩, ⟨15, 0, M118.next, M118.next⟩, ⟨14, 0, M118.next, M118.next⟩, ⟨13, 1, M92.next, M118.next⟩, ⟨12, 0, M92.next, M92.next⟩, ⟨11, 1, M92.next, M92.next⟩, ⟨10, 0, M92.next, M92.next⟩, ⟨9, 0, M92.next, M92.next⟩, ⟨8, 0, M92.next, M92.next⟩, ⟨7, 0, M92.next, M92.next⟩, ⟨6, 0, M92.next, M92.next⟩, ⟨5, 1, M92.next, M92.next⟩, ⟨4, 0, M92.next, M92.next⟩, ⟨3, 0, M92.next, M92.next⟩, ⟨2, 0, M92.next, M92.next⟩, ⟨1, 0, M92.next, M92.next⟩, ⟨0, 0, M92.next, M92.next⟩] ++ M60.hide) M137.log = hidx (hides 2415919103 [⟨31, 0, M137.next, M137.next⟩, ⟨30, 1, M118.next, M137.next⟩, ⟨29, 0, M118.next, M118.next⟩, ⟨28, 1, M118.next, M118.next⟩, ⟨27, 0, M118.next, M118.next⟩, ⟨26, 0, M118.next, M118.next⟩, ⟨25, 0, M118.next, M118.next⟩, ⟨24, 0, M118.next, M118.next⟩, ⟨23, 1, M118.next, M118.next⟩, ⟨22, 0, M118.next, M118.next⟩, ⟨21, 0, M118.next, M118.next⟩, ⟨20, 0, M118.next, M118.next⟩, ⟨19, 0, M118.next, M118.next⟩, ⟨18, 0, M118.next, M118.next⟩, ⟨17, 0, M118.next, M118.next⟩, ⟨16, 0, M118.next, M118.next⟩, ⟨15, 0, M118.next, M118.next⟩, ⟨14, 0, M118.next, M118.next⟩, ⟨13, 1, M92.next, M118.next⟩, ⟨12, 0, M92.next, M92.next⟩, ⟨11, 1, M92.next, M92.next⟩, ⟨10, 0, M92.next, M92.next⟩, ⟨9, 0, M92.next, M92.next⟩, ⟨8, 0, M92.next, M92.next⟩, ⟨7, 0, M92.next, M92.next⟩, ⟨6, 0, M92.next, M92.next⟩, ⟨5, 1, M92.next, M92.next⟩, ⟨4, 0, M92.next, M92.next⟩, ⟨3, 0, M92.next, M92.next⟩, ⟨2, 0, M92.next, M92.next⟩, ⟨1, 0, M92.next, M92.next⟩, ⟨0, 0, M92.next, M92.next⟩]) M137 := by rw [(show M60.hide = M137.hide from ((X71).hide.trans (X149).hide.symm))]; rfl
  have rw8 : Mem.mk M137.blks M137.next (hides 32480690175 [⟨34, 0, M137.next, M137.next⟩, ⟨33, 0, M137.next, M137.next⟩, ⟨31, 0, M137.next, M137.next⟩, ⟨30, 1, M118.next, M137.next⟩, ⟨29, 0, M118.next, M118.next⟩, ⟨28, 1, M118.next, M118.next⟩, ⟨27, 0, M118.next, M118.next⟩, ⟨26, 0, M118.next, M118.next⟩, ⟨25, 0, M118.next, M118.next⟩, ⟨24, 0, M118.next, M118.next⟩, ⟨23, 1, M118.next, M118.next⟩, ⟨22, 0, M118.next, M118.next⟩, ⟨21, 0, M118.next, M118.next⟩, ⟨20, 0, M118.next, M118.next⟩, ⟨19, 0, M118.next, M118.next⟩, ⟨18, 0, M118.next, M118.next⟩, ⟨17, 0, M118.next, M118.next⟩, ⟨16, 0, M118.next, M118.next⟩, ⟨15, 0, M118.next, M118.next⟩, ⟨14, 0, M118.next, M118.next⟩, ⟨13, 1, M92.next, M118.next⟩, ⟨12, 0, M92.next, M92.next⟩, ⟨11, 1, M92.next, M92.next⟩, ⟨10, 0, M92.next, M92.next⟩, ⟨9, 0, M92.next, M92.next⟩, ⟨8, 0, M92.next, M92.next⟩, ⟨7, 0, M92.next, M92.next⟩, ⟨6, 0, M92.next, M92.next⟩, ⟨5, 1, M92.next, M92.next⟩, ⟨4, 0, M92.next, M92.next⟩, ⟨3, 0, M92.next, M92.next⟩, ⟨2, 0, M92.next, M92.next⟩, ⟨1, 0, M92.next, M92.next⟩, ⟨0, 0, M92.next, M92.next⟩] ++ M60.hide) M137.log = hidx (hides 32480690175 [⟨34, 0, M137.next, M137.next⟩, ⟨33, 0, M137.next, M137.next⟩, ⟨31, 0, M137.next, M137.next⟩, ⟨30, 1, M118.next, M137.next⟩, ⟨29, 0, M118.next, M118.next⟩, ⟨28, 1, M118.next, M118.next⟩, ⟨27, 0, M118.next, M118.next⟩, ⟨26, 0, M118.next, M118.next⟩, ⟨25, 0, M118.next, M118.next⟩, ⟨24, 0, M118.next, M118.next⟩, ⟨23, 1, M118.next, M118.next⟩, ⟨22, 0, M118.next, M118.next⟩, ⟨21, 0, M118.next, M118.next⟩, ⟨20, 0, M118.next, M118.next⟩, ⟨19, 0, M118.next, M118.next⟩, ⟨18, 0, M118.next, M118.next⟩, ⟨17, 0, M118.next, M118.next⟩, ⟨16, 0, M118.next, M118.next⟩, ⟨15, 0, M118.next, M118.next⟩, ⟨14, 0, M118.next, M118.next⟩, ⟨13, 1, M92.next, M118.next⟩, ⟨12, 0, M92.next, M92.next⟩, ⟨11, 1, M92.next, M92.next⟩, ⟨10, 0, M92.next, M92.next⟩, ⟨9, 0, M92.next, M92.next⟩, ⟨8, 0, M92.next, M92.next⟩, ⟨7, 0, M92.next, M92.next⟩, ⟨6, 0, M92.next, M92.next⟩, ⟨5, 1, M92.next, M92.next⟩, ⟨4, 0, M92.next, M92.next⟩, ⟨3, 0, M92.next, M92.next⟩, ⟨2, 0, M92.next, M92.next⟩, ⟨1, 0, M92.next, M92.next⟩, ⟨0, 0, M92.next, M92.next⟩]) M137 := by rw [(show M60.hide = M137.hide from ((X71).hide.trans (X149).hide.symm))]; rfl
  have rw9 : (Mem.mk M137.blks M137.next M60.hide (M137.log ++ M92.log)) = (Mem.mk M137.blks M137.next M137.hide (M137.log ++ M92.log)) := by rw [(show M60.hide = M137.hide from ((X71).hide.trans (X149).hide.symm))]
  have rw10 : (Mem.mk M137.blks M137.next M137.hide (M137.log ++ M92.log)) = M154 := ef155.symm
  try rw [rw0] at hraw
  try rw [rw1] at hraw
  try rw [rw2] at hraw
  try rw [rw3] at hraw
  try rw [rw4] at hraw
  try rw [rw5] at hraw
  try rw [rw6] at hraw
  try rw [rw7] at hraw
  try rw [rw8] at hraw
  try rw [rw9] at hraw
  try rw [rw10] at hraw
  have hE := Ev.told_tmp noNumP mixedP Tryd.func5 q5_ok (by kernel_rfl) rK5 (fun B => specsB_ok (k := []) (hS5_12_14_17_18_19_21 B) (fun p hp => by cases hp)) (fun _ _ => rfl) hraw (hk (q_call rfl p4 l5 e6) (hk (q_call rfl p16 l17 e18) (hk (q_eq (by rw [← eb26, ← em27]; kernel_rfl) Nat.one_ne_zero) (hk (q_st q35) (hk (q_call rfl p47 l48 e49) (hk (q_call rfl p61 l62 e63) (hk (lA ⟨dA25, dS25⟩ g70 rfl) (hk (q_slice (slice_nil_to hkn)) (hk (q_call rfl p75 l76 e77) (hk (lA ⟨dA25, dS25⟩ g84 rfl) (hk (q_slice (slice_nil_from hkn)) (hk (q_call rfl p93 l94 e95) (hk (bT (decide_eq_true (by omega))) (hk (bT (decide_eq_true (by omega))) (hk (bT (decide_eq_true (by omega))) (hk (lC dC22 g115 rfl) (hk (bT (decide_eq_true (by omega))) (hk (bT (decide_eq_true (by omega))) (hk (bT (decide_eq_true (by omega))) (hk (bT (decide_eq_true (by omega))) (hk (bT (decide_eq_true (by omega))) (hk (lA ⟨dA25, dS25⟩ g115 rfl) (hk (bT (decide_eq_true (by omega))) (hk (bT (decide_eq_true (by omega))) (hk (q_call rfl p119 l120 e121) (hk (bT (decide_eq_true (by omega))) (hk (bT (decide_eq_true (by omega))) (hk (bT (by rw [hsame]; exact beq_self_eq_true _)) (hk (bT (by rw [hsame]; exact beq_self_eq_true _)) (hk (bT (by rw [hsame]; exact beq_self_eq_true _)) (hk (bT (decide_eq_true (by omega))) (hk (bT (decide_eq_true (by omega))) (hk (bT (decide_eq_true (by omega))) (hk (lC dC23 g128 rfl) (hk (bT (decide_eq_true (by omega))) (hk (bT (decide_eq_true (by omega))) (hk (bT (decide_eq_true (by omega))) (hk (bT (decide_eq_true (by omega))) (hk (lA ⟨dA25, dS25⟩ g128 rfl) (hk (bT (decide_eq_true (by omega))) (hk (bT (decide_eq_true (by omega))) (hk (q_call rfl p138 l139 e140) (hk (bT (decide_eq_true (by omega))) (hk (bT (decide_eq_true (by omega))) (hk (lC dC23 (hidx_get.2 ⟨hides_low (by simp; omega), g147⟩) rfl) (hk (q_lt ltb24M92) (hk (bT (decide_eq_true (by omega))) (hk (bT (decide_eq_true (by omega))) (hk (q_inb hend.1 hend.2) (hk (bT (decide_eq_true (by omega))) (hk (q_ld (load_acc (mkB (hidx_get.2 ⟨hides_low (by simp; omega), g146⟩) rfl) (hend.1) (by rw [accsI_len]; exact hend.2))) (hk (q_lt lty12fM92) (hk (bT (decide_eq_true (by omega))) (hk (bT (decide_eq_true (by omega))) (hk (q_apart (by rw [lg148]; simp <;> omega)) hn)))))))))))))))))))))))))))))))))))))))))))))))))))))))
  have hv : ((.bool ((runF (rowsI (nOf x) ns y (nN x)) (accsI y (nN x)) []) == (accAt (accsI y (nN x)) (goF (rowsI (nOf x) ns y (nN x)) (goF (rowsI (nOf x) ns y (nN x)) 0 []) [])))) : Value) = Value.bool true := by rw [hlast]; simp
  rw [hv] at hE
  exact ⟨_, hE⟩
theorem w5_s_raw (x : Int) (a : Option Addr) (c : Nat) (ns : List Int) (y : Int) (aw : Option Addr) (cw : Nat) (ws : List Int) (cut : Int) (kn : Nat) (_ : TypeId) (M : Mem) (M3 : Mem) (M15 : Mem) (y12s : Nat) (y12f : Nat) (b24 : Nat) (M25 : Mem) (M34 : Mem) (M46 : Mem) (w43b : Nat) (M60 : Mem) (M75 : Mem) (M95 : Mem) (M124 : Mem) (M145 : Mem) : oTg Tryd.prog [0] [] 60 Tryd.f5 q5 [i64 x, (.slice a ns.length c), i64 y, (.slice aw ws.length cw), i64 cut] M [ttV 3 (.bool true) M3, ttV 14 (.agg ⟨[(sli y12s 0 (nN x) (nN x)), (sli y12f 0 (nN x) (nN x))]⟩) M15, ttV 16 (pt b24 0) M25, ttS 18 M34, ttV 22 (sli w43b 0 ((wordI 4 (ws.take 14)).length) ((wordI 4 (ws.take 14)).length)) M46, ttV 34 (i64 (((kn : Nat) : Int))) M60, ttL 38 (.agg ⟨[(sli y12s 0 (nN x) (nN x)), (sli y12f 0 (nN x) (nN x))]⟩), .at 44 (1, .val (.slice (some ⟨w43b, 0, none⟩) ((wordI 4 (ws.take 14)).take kn).length ((wordI 4 (ws.take 14)).take kn).length), (Mem.mk M60.blks M60.next (hides 6 [⟨2, 0, M60.next, M60.next⟩, ⟨1, 0, M60.next, M60.next⟩, ⟨0, 1, M60.next, M60.next⟩] ++ M60.hide) M60.log)), ttV 46 (i64 (goF (rowsI (nOf x) ns y (nN x)) 0 ((wordI 4 (ws.take 14)).take kn))) M75, ttL 50 (.agg ⟨[(sli y12s 0 (nN x) (nN x)), (sli y12f 0 (nN x) (nN x))]⟩), .at 58 (1, .val (.slice (some ⟨w43b, kn, none⟩) ((wordI 4 (ws.take 14)).drop kn).length ((wordI 4 (ws.take 14)).drop kn).length), (Mem.mk M75.blks M75.next (hides 12 [⟨3, 0, M75.next, M75.next⟩, ⟨2, 0, M75.next, M75.next⟩, ⟨1, 0, M75.next, M75.next⟩, ⟨0, 1, M75.next, M75.next⟩] ++ M60.hide) M75.log)), ttV 60 (i64 (goF (rowsI (nOf x) ns y (nN x)) (goF (rowsI (nOf x) ns y (nN x)) 0 ((wordI 4 (ws.take 14)).take kn)) ((wordI 4 (ws.take 14)).drop kn))) M95, ttT 69, ttT 71, ttT 73, ttL 74 (sli y12s 0 (nN x) (nN x)), ttT 75, ttT 77, ttT 80, ttT 83, ttT 85, ttL 86 (.agg ⟨[(sli y12s 0 (nN x) (nN x)), (sli y12f 0 (nN x) (nN x))]⟩), ttT 87, ttT 89, ttV 90 (i64 (goF (rowsI (nOf x) ns y (nN x)) 0 (wordI 4 (ws.take 14)))) M124, ttT 91, ttT 94, ttT 97, ttT 99, ttT 102, ttT 105, ttT 107, ttT 109, ttL 110 (sli y12f 0 (nN x) (nN x)), ttT 111, ttT 113, ttT 116, ttT 119, ttL 120 (.agg ⟨[(sli y12s 0 (nN x) (nN x)), (sli y12f 0 (nN x) (nN x))]⟩), ttT 121, ttT 123, ttV 124 (.bool (runF (rowsI (nOf x) ns y (nN x)) (accsI y (nN x)) (wordI 4 (ws.take 14)))) M145, ttT 125, ttT 127, ttL 128 (sli y12f 0 (nN x) (nN x)), ttT 129, ttT 131, ttT 132, ttT 133, ttL 134 (.bool (accAt (accsI y (nN x)) (goF (rowsI (nOf x) ns y (nN x)) (goF (rowsI (nOf x) ns y (nN x)) 0 ((wordI 4 (ws.take 14)).take kn)) ((wordI 4 (ws.take 14)).drop kn)))), ttT 135, ttT 138] 10 = some (.ret, some (.bool ((runF (rowsI (nOf x) ns y (nN x)) (accsI y (nN x)) (wordI 4 (ws.take 14))) == (accAt (accsI y (nN x)) (goF (rowsI (nOf x) ns y (nN x)) (goF (rowsI (nOf x) ns y (nN x)) 0 ((wordI 4 (ws.take 14)).take kn)) ((wordI 4 (ws.take 14)).drop kn))))), (Mem.mk M145.blks M145.next M60.hide (M145.log ++ M95.log)), [qC 12 [] M (.bool true) M3, qC 14 [(i64 x), (.slice a ns.length c), (i64 y)] M3 (.agg ⟨[(sli y12s 0 (nN x) (nN x)), (sli y12f 0 (nN x) (nN x))]⟩) M15, .eq (aalloc Tryd.prog 25 M15) (1, .val (pt b24 0), M25), qS 25 b24 0 (.agg ⟨[(sli y12s 0 (nN x) (nN x)), (sli y12f 0 (nN x) (nN x))]⟩) M25 M34, qC 18 [(.slice aw ws.length cw), (i64 14), (i64 4)] M34 (sli w43b 0 ((wordI 4 (ws.take 14)).length) ((wordI 4 (ws.take 14)).length)) M46, qC 17 [(i64 cut), (i64 (IntKind.wrap .i64 (((((wordI 4 (ws.take 14)).length : Nat) : Int)) + (1 : Int))))] M46 (i64 (((kn : Nat) : Int))) M60, qL 25 b24 0 M60 (.agg ⟨[(sli y12s 0 (nN x) (nN x)), (sli y12f 0 (nN x) (nN x))]⟩), .q (.slice 26 (sli w43b 0 ((wordI 4 (ws.take 14)).length) ((wordI 4 (ws.take 14)).length)) none (some (i64 (((kn : Nat) : Int)))) none (Mem.mk M60.blks M60.next (hides 6 [⟨2, 0, M60.next, M60.next⟩, ⟨1, 0, M60.next, M60.next⟩, ⟨0, 1, M60.next, M60.next⟩] ++ M60.hide) M60.log)) (1, .val (.slice (some ⟨w43b, 0, none⟩) ((wordI 4 (ws.take 14)).take kn).length ((wordI 4 (ws.take 14)).take kn).length), (Mem.mk M60.blks M60.next (hides 6 [⟨2, 0, M60.next, M60.next⟩, ⟨1, 0, M60.next, M60.next⟩, ⟨0, 1, M60.next, M60.next⟩] ++ M60.hide) M60.log)), qC 19 [(.agg ⟨[(sli y12s 0 (nN x) (nN x)), (sli y12f 0 (nN x) (nN x))]⟩), (i64 0), (.slice (some ⟨w43b, 0, none⟩) ((wordI 4 (ws.take 14)).take kn).length ((wordI 4 (ws.take 14)).take kn).length)] M60 (i64 (goF (rowsI (nOf x) ns y (nN x)) 0 ((wordI 4 (ws.take 14)).take kn))) M75, qL 25 b24 0 (Mem.mk M75.blks M75.next M60.hide M75.log) (.agg ⟨[(sli y12s 0 (nN x) (nN x)), (sli y12f 0 (nN x) (nN x))]⟩), .q (.slice 26 (sli w43b 0 ((wordI 4 (ws.take 14)).length) ((wordI 4 (ws.take 14)).length)) (some (i64 (((kn : Nat) : Int)))) none none (Mem.mk M75.blks M75.next (hides 12 [⟨3, 0, M75.next, M75.next⟩, ⟨2, 0, M75.next, M75.next⟩, ⟨1, 0, M75.next, M75.next⟩, ⟨0, 1, M75.next, M75.next⟩] ++ M60.hide) M75.log)) (1, .val (.slice (some ⟨w43b, kn, none⟩) ((wordI 4 (ws.take 14)).drop kn).length ((wordI 4 (ws.take 14)).drop kn).length), (Mem.mk M75.blks M75.next (hides 12 [⟨3, 0, M75.next, M75.next⟩, ⟨2, 0, M75.next, M75.next⟩, ⟨1, 0, M75.next, M75.next⟩, ⟨0, 1, M75.next, M75.next⟩] ++ M60.hide) M75.log)), qC 19 [(.agg ⟨[(sli y12s 0 (nN x) (nN x)), (sli y12f 0 (nN x) (nN x))]⟩), (i64 (goF (rowsI (nOf x) ns y (nN x)) 0 ((wordI 4 (ws.take 14)).take kn))), (.slice (some ⟨w43b, kn, none⟩) ((wordI 4 (ws.take 14)).drop kn).length ((wordI 4 (ws.take 14)).drop kn).length)] (Mem.mk M75.blks M75.next M60.hide M75.log) (i64 (goF (rowsI (nOf x) ns y (nN x)) (goF (rowsI (nOf x) ns y (nN x)) 0 ((wordI 4 (ws.take 14)).take kn)) ((wordI 4 (ws.take 14)).drop kn))) M95, qT (decide ((goF (rowsI (nOf x) ns y (nN x)) 0 ((wordI 4 (ws.take 14)).take kn)) ≥ (0 : Int))), qT (decide ((goF (rowsI (nOf x) ns y (nN x)) 0 ((wordI 4 (ws.take 14)).take kn)) ≥ (0 : Int))), qT (decide ((goF (rowsI (nOf x) ns y (nN x)) 0 ((wordI 4 (ws.take 14)).take kn)) ≥ (0 : Int))), qL 22 b24 0 (Mem.mk M95.blks M95.next M60.hide []) (sli y12s 0 (nN x) (nN x)), qT (decide ((goF (rowsI (nOf x) ns y (nN x)) 0 ((wordI 4 (ws.take 14)).take kn)) ≥ (0 : Int))), qT (decide ((goF (rowsI (nOf x) ns y (nN x)) 0 ((wordI 4 (ws.take 14)).take kn)) ≥ (0 : Int))), qT (decide ((goF (rowsI (nOf x) ns y (nN x)) 0 ((wordI 4 (ws.take 14)).take kn)) ≥ (0 : Int))), qT (decide ((goF (rowsI (nOf x) ns y (nN x)) 0 ((wordI 4 (ws.take 14)).take kn)) < (((nN x : Nat) : Int)))), qT (decide ((goF (rowsI (nOf x) ns y (nN x)) 0 ((wordI 4 (ws.take 14)).take kn)) < (((nN x : Nat) : Int)))), qL 25 b24 0 (Mem.mk M95.blks M95.next M60.hide []) (.agg ⟨[(sli y12s 0 (nN x) (nN x)), (sli y12f 0 (nN x) (nN x))]⟩), qT (decide ((goF (rowsI (nOf x) ns y (nN x)) 0 ((wordI 4 (ws.take 14)).take kn)) < (((nN x : Nat) : Int)))), qT (decide ((goF (rowsI (nOf x) ns y (nN x)) 0 ((wordI 4 (ws.take 14)).take kn)) < (((nN x : Nat) : Int)))), qC 19 [(.agg ⟨[(sli y12s 0 (nN x) (nN x)), (sli y12f 0 (nN x) (nN x))]⟩), (i64 0), (sli w43b 0 ((wordI 4 (ws.take 14)).length) ((wordI 4 (ws.take 14)).length))] (Mem.mk M95.blks M95.next M60.hide []) (i64 (goF (rowsI (nOf x) ns y (nN x)) 0 (wordI 4 (ws.take 14)))) M124, qT (decide ((goF (rowsI (nOf x) ns y (nN x)) 0 ((wordI 4 (ws.take 14)).take kn)) < (((nN x : Nat) : Int)))), qT (decide ((goF (rowsI (nOf x) ns y (nN x)) 0 ((wordI 4 (ws.take 14)).take kn)) < (((nN x : Nat) : Int)))), qT ((goF (rowsI (nOf x) ns y (nN x)) (goF (rowsI (nOf x) ns y (nN x)) 0 ((wordI 4 (ws.take 14)).take kn)) ((wordI 4 (ws.take 14)).drop kn)) == (goF (rowsI (nOf x) ns y (nN x)) 0 (wordI 4 (ws.take 14)))), qT ((goF (rowsI (nOf x) ns y (nN x)) (goF (rowsI (nOf x) ns y (nN x)) 0 ((wordI 4 (ws.take 14)).take kn)) ((wordI 4 (ws.take 14)).drop kn)) == (goF (rowsI (nOf x) ns y (nN x)) 0 (wordI 4 (ws.take 14)))), qT ((goF (rowsI (nOf x) ns y (nN x)) (goF (rowsI (nOf x) ns y (nN x)) 0 ((wordI 4 (ws.take 14)).take kn)) ((wordI 4 (ws.take 14)).drop kn)) == (goF (rowsI (nOf x) ns y (nN x)) 0 (wordI 4 (ws.take 14)))), qT (decide ((goF (rowsI (nOf x) ns y (nN x)) (goF (rowsI (nOf x) ns y (nN x)) 0 ((wordI 4 (ws.take 14)).take kn)) ((wordI 4 (ws.take 14)).drop kn)) ≥ (0 : Int))), qT (decide ((goF (rowsI (nOf x) ns y (nN x)) (goF (rowsI (nOf x) ns y (nN x)) 0 ((wordI 4 (ws.take 14)).take kn)) ((wordI 4 (ws.take 14)).drop kn)) ≥ (0 : Int))), qT (decide ((goF (rowsI (nOf x) ns y (nN x)) (goF (rowsI (nOf x) ns y (nN x)) 0 ((wordI 4 (ws.take 14)).take kn)) ((wordI 4 (ws.take 14)).drop kn)) ≥ (0 : Int))), qL 23 b24 1 (Mem.mk M124.blks M124.next M60.hide M124.log) (sli y12f 0 (nN x) (nN x)), qT (decide ((goF (rowsI (nOf x) ns y (nN x)) (goF (rowsI (nOf x) ns y (nN x)) 0 ((wordI 4 (ws.take 14)).take kn)) ((wordI 4 (ws.take 14)).drop kn)) ≥ (0 : Int))), qT (decide ((goF (rowsI (nOf x) ns y (nN x)) (goF (rowsI (nOf x) ns y (nN x)) 0 ((wordI 4 (ws.take 14)).take kn)) ((wordI 4 (ws.take 14)).drop kn)) ≥ (0 : Int))), qT (decide ((goF (rowsI (nOf x) ns y (nN x)) (goF (rowsI (nOf x) ns y (nN x)) 0 ((wordI 4 (ws.take 14)).take kn)) ((wordI 4 (ws.take 14)).drop kn)) ≥ (0 : Int))), qT (decide ((goF (rowsI (nOf x) ns y (nN x)) (goF (rowsI (nOf x) ns y (nN x)) 0 ((wordI 4 (ws.take 14)).take kn)) ((wordI 4 (ws.take 14)).drop kn)) < (((nN x : Nat) : Int)))), qL 25 b24 0 (Mem.mk M124.blks M124.next M60.hide M124.log) (.agg ⟨[(sli y12s 0 (nN x) (nN x)), (sli y12f 0 (nN x) (nN x))]⟩), qT (decide ((goF (rowsI (nOf x) ns y (nN x)) (goF (rowsI (nOf x) ns y (nN x)) 0 ((wordI 4 (ws.take 14)).take kn)) ((wordI 4 (ws.take 14)).drop kn)) < (((nN x : Nat) : Int)))), qT (decide ((goF (rowsI (nOf x) ns y (nN x)) (goF (rowsI (nOf x) ns y (nN x)) 0 ((wordI 4 (ws.take 14)).take kn)) ((wordI 4 (ws.take 14)).drop kn)) < (((nN x : Nat) : Int)))), qC 21 [(.agg ⟨[(sli y12s 0 (nN x) (nN x)), (sli y12f 0 (nN x) (nN x))]⟩), (sli w43b 0 ((wordI 4 (ws.take 14)).length) ((wordI 4 (ws.take 14)).length))] (Mem.mk M124.blks M124.next M60.hide M124.log) (.bool (runF (rowsI (nOf x) ns y (nN x)) (accsI y (nN x)) (wordI 4 (ws.take 14)))) M145, qT (decide ((goF (rowsI (nOf x) ns y (nN x)) (goF (rowsI (nOf x) ns y (nN x)) 0 ((wordI 4 (ws.take 14)).take kn)) ((wordI 4 (ws.take 14)).drop kn)) < (((nN x : Nat) : Int)))), qT (decide ((goF (rowsI (nOf x) ns y (nN x)) (goF (rowsI (nOf x) ns y (nN x)) 0 ((wordI 4 (ws.take 14)).take kn)) ((wordI 4 (ws.take 14)).drop kn)) < (((nN x : Nat) : Int)))), qL 23 b24 1 (Mem.mk M145.blks M145.next (hides 2415919103 [⟨31, 0, M145.next, M145.next⟩, ⟨30, 1, M124.next, M145.next⟩, ⟨29, 0, M124.next, M124.next⟩, ⟨28, 1, M124.next, M124.next⟩, ⟨27, 0, M124.next, M124.next⟩, ⟨26, 0, M124.next, M124.next⟩, ⟨25, 0, M124.next, M124.next⟩, ⟨24, 0, M124.next, M124.next⟩, ⟨23, 1, M124.next, M124.next⟩, ⟨22, 0, M124.next, M124.next⟩, ⟨21, 0, M124.next, M124.next⟩, ⟨20, 0, M124.next, M124.next⟩, ⟨19, 0, M124.next, M124.next⟩, ⟨18, 0, M124.next, M124.next⟩, ⟨17, 0, M124.next, M124.next⟩, ⟨16, 0, M124.next, M124.next⟩, ⟨15, 0, M124.next, M124.next⟩, ⟨14, 0, M124.next, M124.next⟩, ⟨13, 1, M95.next, M124.next⟩, ⟨12, 0, M95.next, M95.next⟩, ⟨11, 1, M95.next, M95.next⟩, ⟨10, 0, M95.next, M95.next⟩, ⟨9, 0, M95.next, M95.next⟩, ⟨8, 0, M95.next, M95.next⟩, ⟨7, 0, M95.next, M95.next⟩, ⟨6, 0, M95.next, M95.next⟩, ⟨5, 1, M95.next, M95.next⟩, ⟨4, 0, M95.next, M95.next⟩, ⟨3, 0, M95.next, M95.next⟩, ⟨2, 0, M95.next, M95.next⟩, ⟨1, 0, M95.next, M95.next⟩, ⟨0, 0, M95.next, M95.next⟩] ++ M60.hide) M145.log) (sli y12f 0 (nN x) (nN x)), qT (Nat.blt b24 M95.next), qT (decide ((goF (rowsI (nOf x) ns y (nN x)) (goF (rowsI (nOf x) ns y (nN x)) 0 ((wordI 4 (ws.take 14)).take kn)) ((wordI 4 (ws.take 14)).drop kn)) < (((nN x : Nat) : Int)))), qT (decide ((goF (rowsI (nOf x) ns y (nN x)) (goF (rowsI (nOf x) ns y (nN x)) 0 ((wordI 4 (ws.take 14)).take kn)) ((wordI 4 (ws.take 14)).drop kn)) < (((nN x : Nat) : Int)))), .q (.inb (goF (rowsI (nOf x) ns y (nN x)) (goF (rowsI (nOf x) ns y (nN x)) 0 ((wordI 4 (ws.take 14)).take kn)) ((wordI 4 (ws.take 14)).drop kn)) (nN x)) (ansB true), qT (decide ((goF (rowsI (nOf x) ns y (nN x)) (goF (rowsI (nOf x) ns y (nN x)) 0 ((wordI 4 (ws.take 14)).take kn)) ((wordI 4 (ws.take 14)).drop kn)) < (((nN x : Nat) : Int)))), qL 4 y12f (0 + (goF (rowsI (nOf x) ns y (nN x)) (goF (rowsI (nOf x) ns y (nN x)) 0 ((wordI 4 (ws.take 14)).take kn)) ((wordI 4 (ws.take 14)).drop kn) : Int).toNat * 1) (Mem.mk M145.blks M145.next (hides 32480690175 [⟨34, 0, M145.next, M145.next⟩, ⟨33, 0, M145.next, M145.next⟩, ⟨31, 0, M145.next, M145.next⟩, ⟨30, 1, M124.next, M145.next⟩, ⟨29, 0, M124.next, M124.next⟩, ⟨28, 1, M124.next, M124.next⟩, ⟨27, 0, M124.next, M124.next⟩, ⟨26, 0, M124.next, M124.next⟩, ⟨25, 0, M124.next, M124.next⟩, ⟨24, 0, M124.next, M124.next⟩, ⟨23, 1, M124.next, M124.next⟩, ⟨22, 0, M124.next, M124.next⟩, ⟨21, 0, M124.next, M124.next⟩, ⟨20, 0, M124.next, M124.next⟩, ⟨19, 0, M124.next, M124.next⟩, ⟨18, 0, M124.next, M124.next⟩, ⟨17, 0, M124.next, M124.next⟩, ⟨16, 0, M124.next, M124.next⟩, ⟨15, 0, M124.next, M124.next⟩, ⟨14, 0, M124.next, M124.next⟩, ⟨13, 1, M95.next, M124.next⟩, ⟨12, 0, M95.next, M95.next⟩, ⟨11, 1, M95.next, M95.next⟩, ⟨10, 0, M95.next, M95.next⟩, ⟨9, 0, M95.next, M95.next⟩, ⟨8, 0, M95.next, M95.next⟩, ⟨7, 0, M95.next, M95.next⟩, ⟨6, 0, M95.next, M95.next⟩, ⟨5, 1, M95.next, M95.next⟩, ⟨4, 0, M95.next, M95.next⟩, ⟨3, 0, M95.next, M95.next⟩, ⟨2, 0, M95.next, M95.next⟩, ⟨1, 0, M95.next, M95.next⟩, ⟨0, 0, M95.next, M95.next⟩] ++ M60.hide) M145.log) (.bool (accAt (accsI y (nN x)) (goF (rowsI (nOf x) ns y (nN x)) (goF (rowsI (nOf x) ns y (nN x)) 0 ((wordI 4 (ws.take 14)).take kn)) ((wordI 4 (ws.take 14)).drop kn)))), qT (Nat.blt y12f M95.next), qT (decide ((goF (rowsI (nOf x) ns y (nN x)) (goF (rowsI (nOf x) ns y (nN x)) 0 ((wordI 4 (ws.take 14)).take kn)) ((wordI 4 (ws.take 14)).drop kn)) < (((nN x : Nat) : Int)))), qT (decide ((goF (rowsI (nOf x) ns y (nN x)) (goF (rowsI (nOf x) ns y (nN x)) 0 ((wordI 4 (ws.take 14)).take kn)) ((wordI 4 (ws.take 14)).drop kn)) < (((nN x : Nat) : Int)))), qT (apartN [y12f, b24] M145.log)]) := by kernel_rfl
theorem w5_s (x : Int) (a : Option Addr) (c : Nat) (ns : List Int) (y : Int) (aw : Option Addr) (cw : Nat) (ws : List Int) (cut : Int) (kn : Nat) (e : TypeId) {M : Mem} (hM : MemOk M) (hT : M.get 0 = some (tabB e)) (hs : FlatAt 1 M (.slice a ns.length c) (ns.map ([·]))) (hw : FlatAt 1 M (.slice aw ws.length cw) (ws.map ([·]))) (hwl : wordI 4 (ws.take 14) ≠ []) (hwl3 : (wordI 4 (ws.take 14)).length ≤ 1000) (hkn : kn ≤ (wordI 4 (ws.take 14)).length) (hkm : modI cut (IntKind.wrap .i64 ((((wordI 4 (ws.take 14)).length : Nat) : Int) + (1 : Int))) = ((kn : Nat) : Int)) (hmid : 0 ≤ goF (rowsI (nOf x) ns y (nN x)) 0 ((wordI 4 (ws.take 14)).take kn) ∧ goF (rowsI (nOf x) ns y (nN x)) 0 ((wordI 4 (ws.take 14)).take kn) < ((nN x : Nat) : Int)) (hend : 0 ≤ goF (rowsI (nOf x) ns y (nN x)) (goF (rowsI (nOf x) ns y (nN x)) 0 ((wordI 4 (ws.take 14)).take kn)) ((wordI 4 (ws.take 14)).drop kn) ∧ goF (rowsI (nOf x) ns y (nN x)) (goF (rowsI (nOf x) ns y (nN x)) 0 ((wordI 4 (ws.take 14)).take kn)) ((wordI 4 (ws.take 14)).drop kn) < ((nN x : Nat) : Int)) (hsame : goF (rowsI (nOf x) ns y (nN x)) (goF (rowsI (nOf x) ns y (nN x)) 0 ((wordI 4 (ws.take 14)).take kn)) ((wordI 4 (ws.take 14)).drop kn) = goF (rowsI (nOf x) ns y (nN x)) 0 (wordI 4 (ws.take 14))) (hlast : runF (rowsI (nOf x) ns y (nN x)) (accsI y (nN x)) (wordI 4 (ws.take 14)) = accAt (accsI y (nN x)) (goF (rowsI (nOf x) ns y (nN x)) (goF (rowsI (nOf x) ns y (nN x)) 0 ((wordI 4 (ws.take 14)).take kn)) ((wordI 4 (ws.take 14)).drop kn))) : ∃ M', Ev Tryd.prog [0] 5 [i64 x, (.slice a ns.length c), i64 y, (.slice aw ws.length cw), i64 cut] M (.bool true) M' := by
  have hwrap : IntKind.wrap .i64 ((((wordI 4 (ws.take 14)).length : Nat) : Int) + (1 : Int)) = (((wordI 4 (ws.take 14)).length + 1 : Nat) : Int) := Go.Am.wrap_succ (by omega)
  obtain ⟨w1, N2, M3, p4, l5, e6, E7, hM8, Q9, G10⟩ := call_t (P := Tryd.prog) (GL := [0]) (f := 12) hM (con12c (((Ext.refl M)).old hT))
  have ew1 : w1 = .bool true := (Option.some.inj Q9).symm
  subst ew1
  have X11 := (Ext.refl M).trans E7
  obtain ⟨w13, N14, M15, p16, l17, e18, E19, hM20, Q21, G22⟩ := call_t (P := Tryd.prog) (GL := [0]) (f := 14) hM8 (Con.gl (con14 x a c ns y (MemOk.log hM8) (hs.Ext X11).log))
  obtain ⟨y12s, y12f, ew13, ⟨y12n1, y12g1⟩, ⟨y12n2, y12g2⟩, dy12sy12f⟩ := Qmk.val (hs.Ext X11).log Q21
  subst ew13
  have y12m1 : M3.next ≤ y12s := y12n1
  have y12m2 : M3.next ≤ y12f := y12n2
  have y12h1 : M15.get y12s = some ⟨(irows (rowsI (nOf x) ns y (nN x))).flatten, 31, 5, 0, true⟩ := by rw [G22]; exact y12g1
  have y12h2 : M15.get y12f = some ⟨(brows (accsI y (nN x))).flatten, 4, 1, 0, true⟩ := by rw [G22]; exact y12g2
  have ny12s : M.next ≤ y12s := Nat.le_trans (X11).next y12m1
  have ny12f : M.next ≤ y12f := Nat.le_trans (X11).next y12m2
  have X23 := X11.trans E19
  obtain ⟨b24, M25, eb26, em27, g28, E29, hM30⟩ := new_t hM20 ⟨[sln, sln], 25, 2, 0, true⟩
  have nb24 : M.next ≤ b24 := by rw [← eb26]; exact X23.next
  have dy12sb24 : y12s ≠ b24 := by have := Mem.lt_of_get y12h1; omega
  have dy12fb24 : y12f ≠ b24 := by have := Mem.lt_of_get y12h2; omega
  have g31 := E29.old y12h1
  have g32 := E29.old y12h2
  have X33 := X23.trans E29
  obtain ⟨M34, q35, g36, kp37, X38, hM39, nx40⟩ := store_t (o := 0) (v := (.agg ⟨[(sli y12s 0 (nN x) (nN x)), (sli y12f 0 (nN x) (nN x))]⟩)) (new := [(sli y12s 0 (nN x) (nN x)), (sli y12f 0 (nN x) (nN x))]) X33 nb24 hM30 dS25 g28 rfl rfl (Nat.zero_le _) (Nat.le_of_ble_eq_true rfl) rfl
  replace g36 : M34.get b24 = some ⟨[(sli y12s 0 (nN x) (nN x)), (sli y12f 0 (nN x) (nN x))], 25, 2, 0, true⟩ := g36
  have g41 := (kp37 _ dy12sb24).trans g31
  have g42 := (kp37 _ dy12fb24).trans g32
  obtain ⟨w44, N45, M46, p47, l48, e49, E50, hM51, Q52, G53⟩ := call_t (P := Tryd.prog) (GL := [0]) (f := 18) hM39 (Con.gl (con18 aw cw ws 14 4 (by decide) (MemOk.log hM39) (hw.Ext X38).log))
  have g54 := E50.old g41
  have g55 := E50.old g42
  have g56 := E50.old g36
  obtain ⟨w43b, w43w⟩ := Qword.val (mx := 14) (hw.Ext X38).log Q52
  obtain ⟨ew44, _, w43n, w43g⟩ := w43w.resolve_left (fun h => hwl h.1)
  subst ew44
  have w43m : M34.next ≤ w43b := w43n
  have w43h : M46.get w43b = some ⟨(wordI 4 (ws.take 14)).map i64, 3, 1, 0, true⟩ := by rw [G53]; exact w43g
  have nw43b : M.next ≤ w43b := Nat.le_trans (X38).next w43m
  have dy12sw43b : y12s ≠ w43b := by have := Mem.lt_of_get g41; omega
  have dy12fw43b : y12f ≠ w43b := by have := Mem.lt_of_get g42; omega
  have db24w43b : b24 ≠ w43b := by have := Mem.lt_of_get g36; omega
  have X57 := X38.trans E50
  obtain ⟨w58, N59, M60, p61, l62, e63, E64, hM65, Q66, G67⟩ := call_t (P := Tryd.prog) (GL := [0]) (f := 17) hM51 (Con.gl (con17 cut (IntKind.wrap .i64 (((((wordI 4 (ws.take 14)).length : Nat) : Int)) + (1 : Int))) (by first | decide | (rw [hwrap]; simp; omega))))
  have g68 := E64.old g54
  have g69 := E64.old g55
  have g70 := E64.old g56
  have g71 := E64.old w43h
  have ew58 : w58 = i64 ((kn : Nat) : Int) := by
    have h : i64 (modI cut (IntKind.wrap .i64 (((((wordI 4 (ws.take 14)).length : Nat) : Int)) + (1 : Int)))) = w58 := Option.some.inj Q66.1
    rw [← h, hkm]
  subst ew58
  have X72 := X57.trans E64
  obtain ⟨w73, N74, M75, p76, l77, e78, E79, hM80, Q81, G82⟩ := call_t (P := Tryd.prog) (GL := [0]) (f := 19) hM65 (Con.gl (con19 0 (MemOk.log hM65) (mkAt g68 rfl g69 rfl).log (flat_part g71 (u := []) (v := (wordI 4 (ws.take 14)).take kn) (z := (wordI 4 (ws.take 14)).drop kn) (by simp) rfl rfl hwl3).log))
  have g83 := E79.old g68
  have g84 := E79.old g69
  have g85 := E79.old g70
  have g86 := E79.old g71
  have ew73 := Qgo.val (mkAt g68 rfl g69 rfl).log (flat_part g71 (u := []) (v := (wordI 4 (ws.take 14)).take kn) (z := (wordI 4 (ws.take 14)).drop kn) (by simp) rfl rfl hwl3).log Q81
  subst ew73
  have X87 := X72.trans E79
  have nx88 := E79.next
  have lb89 := Mem.lt_of_get g83
  have lb90 := Mem.lt_of_get g84
  have lb91 := Mem.lt_of_get g85
  have lb92 := Mem.lt_of_get g86
  obtain ⟨w93, N94, M95, p96, l97, e98, E99, hM100, Q101, G102⟩ := call_t (P := Tryd.prog) (GL := [0]) (f := 19) hM80 (Con.gl (con19 (goF (rowsI (nOf x) ns y (nN x)) 0 ((wordI 4 (ws.take 14)).take kn)) (MemOk.log hM80) (mkAt g83 rfl g84 rfl).log (flat_part g86 (u := (wordI 4 (ws.take 14)).take kn) (v := (wordI 4 (ws.take 14)).drop kn) (z := []) (o := kn) (by simp) (by rw [List.length_take]; omega) rfl hwl3).log))
  have g103 := E99.old g83
  have g104 := E99.old g84
  have g105 := E99.old g85
  have g106 := E99.old g86
  have ew93 := Qgo.val (mkAt g83 rfl g84 rfl).log (flat_part g86 (u := (wordI 4 (ws.take 14)).take kn) (v := (wordI 4 (ws.take 14)).drop kn) (z := []) (o := kn) (by simp) (by rw [List.length_take]; omega) rfl hwl3).log Q101
  subst ew93
  have X107 := X87.trans E99
  have nx108 := E99.next
  have lb109 := Mem.lt_of_get g103
  have lb110 := Mem.lt_of_get g104
  have lb111 := Mem.lt_of_get g105
  have lb112 := Mem.lt_of_get g106
  obtain ⟨R113, eR114⟩ : ∃ m : Mem, m = Mem.mk M95.blks M95.next M95.hide [] := ⟨_, rfl⟩
  have X115 : Ext (Mem.mk M.blks M.next M.hide []) R113 := by rw [eR114]; exact Ext.aside (X107)
  have lg116 : R113.log = [] := by rw [eR114]
  have hM117 : MemOk R113 := by rw [eR114]; exact MemOk.log hM100
  have lty12sM95 : y12s < M95.next := by have h := Mem.lt_of_get g103; exact h
  have g118 : R113.get y12s = some ⟨(irows (rowsI (nOf x) ns y (nN x))).flatten, 31, 5, 0, true⟩ := by rw [eR114]; exact g103
  have lty12fM95 : y12f < M95.next := by have h := Mem.lt_of_get g104; exact h
  have g119 : R113.get y12f = some ⟨(brows (accsI y (nN x))).flatten, 4, 1, 0, true⟩ := by rw [eR114]; exact g104
  have ltb24M95 : b24 < M95.next := by have h := Mem.lt_of_get g105; exact h
  have g120 : R113.get b24 = some ⟨[(sli y12s 0 (nN x) (nN x)), (sli y12f 0 (nN x) (nN x))], 25, 2, 0, true⟩ := by rw [eR114]; exact g105
  have ltw43bM95 : w43b < M95.next := by have h := Mem.lt_of_get g106; exact h
  have g121 : R113.get w43b = some ⟨(wordI 4 (ws.take 14)).map i64, 3, 1, 0, true⟩ := by rw [eR114]; exact g106
  obtain ⟨w122, N123, M124, p125, l126, e127, E128, hM129, Q130, G131⟩ := call_t (P := Tryd.prog) (GL := [0]) (f := 19) hM117 (Con.gl (con19 0 (MemOk.log hM117) (mkAt g118 rfl g119 rfl).log (flat_part g121 (u := []) (v := (wordI 4 (ws.take 14))) (z := []) (by simp) rfl rfl hwl3).log))
  have g132 := E128.old g118
  have g133 := E128.old g119
  have g134 := E128.old g120
  have g135 := E128.old g121
  have ew122 := Qgo.val (mkAt g118 rfl g119 rfl).log (flat_part g121 (u := []) (v := (wordI 4 (ws.take 14))) (z := []) (by simp) rfl rfl hwl3).log Q130
  subst ew122
  have lg136 : M124.log = [] := by rw [← e127]; exact lg116
  have X137 := X115.trans E128
  have nx138 := E128.next
  have lb139 := Mem.lt_of_get g132
  have lb140 := Mem.lt_of_get g133
  have lb141 := Mem.lt_of_get g134
  have lb142 := Mem.lt_of_get g135
  obtain ⟨w143, N144, M145, p146, l147, e148, E149, hM150, Q151, G152⟩ := call_t (P := Tryd.prog) (GL := [0]) (f := 21) hM129 (Con.gl (con21 (MemOk.log hM129) (mkAt g132 rfl g133 rfl).log (flat_part g135 (u := []) (v := (wordI 4 (ws.take 14))) (z := []) (by simp) rfl rfl hwl3).log))
  have g153 := E149.old g132
  have g154 := E149.old g133
  have g155 := E149.old g134
  have g156 := E149.old g135
  have ew143 := Qrun.val (mkAt g132 rfl g133 rfl).log (flat_part g135 (u := []) (v := (wordI 4 (ws.take 14))) (z := []) (by simp) rfl rfl hwl3).log Q151
  subst ew143
  have lg157 : M145.log = [] := by rw [← e148]; exact lg136
  have X158 := X137.trans E149
  have nx159 := E149.next
  have lb160 := Mem.lt_of_get g153
  have lb161 := Mem.lt_of_get g154
  have lb162 := Mem.lt_of_get g155
  have lb163 := Mem.lt_of_get g156
  obtain ⟨M164, ef165⟩ : ∃ m : Mem, m = (Mem.mk M145.blks M145.next M145.hide (M145.log ++ M95.log)) := ⟨_, rfl⟩
  have X166 : Ext M M164 := by rw [ef165]; exact Ext.join (X107) (X158)
  have hM167 : MemOk M164 := by rw [ef165]; exact hM150
  have g168 : M164.get y12s = some ⟨(irows (rowsI (nOf x) ns y (nN x))).flatten, 31, 5, 0, true⟩ := by rw [ef165]; exact g153
  have g169 : M164.get y12f = some ⟨(brows (accsI y (nN x))).flatten, 4, 1, 0, true⟩ := by rw [ef165]; exact g154
  have g170 : M164.get b24 = some ⟨[(sli y12s 0 (nN x) (nN x)), (sli y12f 0 (nN x) (nN x))], 25, 2, 0, true⟩ := by rw [ef165]; exact g155
  have g171 : M164.get w43b = some ⟨(wordI 4 (ws.take 14)).map i64, 3, 1, 0, true⟩ := by rw [ef165]; exact g156
  have hraw := w5_s_raw x a c ns y aw cw ws cut kn e M M3 M15 y12s y12f b24 M25 M34 M46 w43b M60 M75 M95 M124 M145
  have rw0 : Mem.mk M60.blks M60.next (hides 6 [⟨2, 0, M60.next, M60.next⟩, ⟨1, 0, M60.next, M60.next⟩, ⟨0, 1, M60.next, M60.next⟩] ++ M60.hide) M60.log = M60 := by rw [show hides 6 [⟨2, 0, M60.next, M60.next⟩, ⟨1, 0, M60.next, M60.next⟩, ⟨0, 1, M60.next, M60.next⟩] = [] from by simp [hides, Nat.beq_refl, show Nat.beq 1 0 = false from rfl]]; rfl
  have rw1 : Mem.mk M75.blks M75.next M60.hide M75.log = M75 := by rw [(show M60.hide = M75.hide from ((X72).hide.trans (X87).hide.symm))]
  have rw2 : Mem.mk M75.blks M75.next (hides 12 [⟨3, 0, M75.next, M75.next⟩, ⟨2, 0, M75.next, M75.next⟩, ⟨1, 0, M75.next, M75.next⟩, ⟨0, 1, M75.next, M75.next⟩] ++ M60.hide) M75.log = M75 := by rw [show hides 12 [⟨3, 0, M75.next, M75.next⟩, ⟨2, 0, M75.next, M75.next⟩, ⟨1, 0, M75.next, M75.next⟩, ⟨0, 1, M75.next, M75.next⟩] = [] from by simp [hides, Nat.beq_refl, show Nat.beq 1 0 = false from rfl], (show M60.hide = M75.hide from ((X72).hide.trans (X87).hide.symm))]; rfl
  have rw3 : Mem.mk M95.blks M95.next M60.hide M95.log = M95 := by rw [(show M60.hide = M95.hide from ((X72).hide.trans (X107).hide.symm))]
  have rw4 : Mem.mk M95.blks M95.next M60.hide [] = R113 := by rw [show M60.hide = M95.hide from ((X72).hide.trans (X107).hide.symm)]; exact eR114.symm
  have rw5 : Mem.mk M124.blks M124.next M60.hide M124.log = M124 := by rw [(show M60.hide = M124.hide from ((X72).hide.trans (X137).hide.symm))]
  have rw6 : Mem.mk M145.blks M145.next M60.hide M145.log = M145 := by rw [(show M60.hide = M145.hide from ((X72).hide.trans (X158).hide.symm))]
  have rw7 : Mem.mk M145.blks M145.next (hides 2415919103 [⟨31, 0, M145.next, M145.next⟩, ⟨30, 1, M124.next, M145.next⟩, ⟨29, 0, M124.next, M124.next⟩, ⟨28, 1, M124.next, M124.next⟩, ⟨27, 0, M124.next, M124.next⟩, ⟨26, 0, M124.next, M124.next⟩, ⟨25, 0, M124.next, M124.next⟩, ⟨24, 0, M124.next, M124.next⟩, ⟨23, 1, M124.next, M124.next⟩, ⟨22, 0, M124.next, M124.next⟩, ⟨21, 0, M124.next, M124.next⟩, ⟨20, 0, M124.next, M124.next⟩, ⟨19, 0, M124.next, M124.next⟩, ⟨18, 0, M124.next, M124.next⟩, ⟨17, 0, M124.next, M124.next⟩, ⟨16, 0, M124.next, M124.next⟩, ⟨15, 0, M124.next, M124.next⟩, ⟨14, 0, M124.next, M124.next⟩, ⟨13, 1, M95.next, M124.next⟩, ⟨12, 0, M95.next, M95.next⟩, ⟨11, 1, M95.next, M95.next⟩, ⟨10, 0, M95.next, M95.next⟩, ⟨9, 0, M95.next, M95.next⟩, ⟨8, 0, M95.next, M95.next⟩, ⟨7, 0, M95.next, M95.next⟩, ⟨6, 0, M95.next, M95.next⟩, ⟨5, 1, M95.next, M95.next⟩, ⟨4, 0, M95.next, M95.next⟩, ⟨3, 0, M95.next, M95.next⟩, ⟨2, 0, M95.next, M95.next⟩, ⟨1, 0, M95.next, M95.next⟩, ⟨0, 0, M95.next, M95.next⟩] ++ M60.hide) M145.log = hidx (hides 2415919103 [⟨31, 0, M145.next, M145.next⟩, ⟨30, 1, M124.next, M145.next⟩, ⟨29, 0, M124.next, M124.next⟩, ⟨28, 1, M124.next, M124.next⟩, ⟨27, 0, M124.next, M124.next⟩, ⟨26, 0, M124.next, M124.next⟩, ⟨25, 0, M124.next, M124.next⟩, ⟨24, 0, M124.next, M124.next⟩, ⟨23, 1, M124.next, M124.next⟩, ⟨22, 0, M124.next, M124.next⟩, ⟨21, 0, M124.next, M124.next⟩, ⟨20, 0, M124.next, M124.next⟩, ⟨19, 0, M124.next, M124.next⟩, ⟨18, 0, M124.next, M124.next⟩, ⟨17, 0, M124.next, M124.next⟩, ⟨16, 0, M124.next, M124.next⟩, ⟨15, 0, M124.next, M124.next⟩, ⟨14, 0, M124.next, M124.next⟩, ⟨13, 1, M95.next, M124.next⟩, ⟨12, 0, M95.next, M95.next⟩, ⟨11, 1, M95.next, M95.next⟩, ⟨10, 0, M95.next, M95.next⟩, ⟨9, 0, M95.next, M95.next⟩, ⟨8, 0, M95.next, M95.next⟩, ⟨7, 0, M95.next, M95.next⟩, ⟨6, 0, M95.next, M95.next⟩, ⟨5, 1, M95.next, M95.next⟩, ⟨4, 0, M95.next, M95.next⟩, ⟨3, 0, M95.next, M95.next⟩, ⟨2, 0, M95.next, M95.next⟩, ⟨1, 0, M95.next, M95.next⟩, ⟨0, 0, M95.next, M95.next⟩]) M145 := by rw [(show M60.hide = M145.hide from ((X72).hide.trans (X158).hide.symm))]; rfl
  have rw8 : Mem.mk M145.blks M145.next (hides 32480690175 [⟨34, 0, M145.next, M145.next⟩, ⟨33, 0, M145.next, M145.next⟩, ⟨31, 0, M145.next, M145.next⟩, ⟨30, 1, M124.next, M145.next⟩, ⟨29, 0, M124.next, M124.next⟩, ⟨28, 1, M124.next, M124.next⟩, ⟨27, 0, M124.next, M124.next⟩, ⟨26, 0, M124.next, M124.next⟩, ⟨25, 0, M124.next, M124.next⟩, ⟨24, 0, M124.next, M124.next⟩, ⟨23, 1, M124.next, M124.next⟩, ⟨22, 0, M124.next, M124.next⟩, ⟨21, 0, M124.next, M124.next⟩, ⟨20, 0, M124.next, M124.next⟩, ⟨19, 0, M124.next, M124.next⟩, ⟨18, 0, M124.next, M124.next⟩, ⟨17, 0, M124.next, M124.next⟩, ⟨16, 0, M124.next, M124.next⟩, ⟨15, 0, M124.next, M124.next⟩, ⟨14, 0, M124.next, M124.next⟩, ⟨13, 1, M95.next, M124.next⟩, ⟨12, 0, M95.next, M95.next⟩, ⟨11, 1, M95.next, M95.next⟩, ⟨10, 0, M95.next, M95.next⟩, ⟨9, 0, M95.next, M95.next⟩, ⟨8, 0, M95.next, M95.next⟩, ⟨7, 0, M95.next, M95.next⟩, ⟨6, 0, M95.next, M95.next⟩, ⟨5, 1, M95.next, M95.next⟩, ⟨4, 0, M95.next, M95.next⟩, ⟨3, 0, M95.next, M95.next⟩, ⟨2, 0, M95.next, M95.next⟩, ⟨1, 0, M95.next, M95.next⟩, ⟨0, 0, M95.next, M95.next⟩] ++ M60.hide) M145.log = hidx (hides 32480690175 [⟨34, 0, M145.next, M145.next⟩, ⟨33, 0, M145.next, M145.next⟩, ⟨31, 0, M145.next, M145.next⟩, ⟨30, 1, M124.next, M145.next⟩, ⟨29, 0, M124.next, M124.next⟩, ⟨28, 1, M124.next, M124.next⟩, ⟨27, 0, M124.next, M124.next⟩, ⟨26, 0, M124.next, M124.next⟩, ⟨25, 0, M124.next, M124.next⟩, ⟨24, 0, M124.next, M124.next⟩, ⟨23, 1, M124.next, M124.next⟩, ⟨22, 0, M124.next, M124.next⟩, ⟨21, 0, M124.next, M124.next⟩, ⟨20, 0, M124.next, M124.next⟩, ⟨19, 0, M124.next, M124.next⟩, ⟨18, 0, M124.next, M124.next⟩, ⟨17, 0, M124.next, M124.next⟩, ⟨16, 0, M124.next, M124.next⟩, ⟨15, 0, M124.next, M124.next⟩, ⟨14, 0, M124.next, M124.next⟩, ⟨13, 1, M95.next, M124.next⟩, ⟨12, 0, M95.next, M95.next⟩, ⟨11, 1, M95.next, M95.next⟩, ⟨10, 0, M95.next, M95.next⟩, ⟨9, 0, M95.next, M95.next⟩, ⟨8, 0, M95.next, M95.next⟩, ⟨7, 0, M95.next, M95.next⟩, ⟨6, 0, M95.next, M95.next⟩, ⟨5, 1, M95.next, M95.next⟩, ⟨4, 0, M95.next, M95.next⟩, ⟨3, 0, M95.next, M95.next⟩, ⟨2, 0, M95.next, M95.next⟩, ⟨1, 0, M95.next, M95.next⟩, ⟨0, 0, M95.next, M95.next⟩]) M145 := by rw [(show M60.hide = M145.hide from ((X72).hide.trans (X158).hide.symm))]; rfl
  have rw9 : (Mem.mk M145.blks M145.next M60.hide (M145.log ++ M95.log)) = (Mem.mk M145.blks M145.next M145.hide (M145.log ++ M95.log)) := by rw [(show M60.hide = M145.hide from ((X72).hide.trans (X158).hide.symm))]
  have rw10 : (Mem.mk M145.blks M145.next M145.hide (M145.log ++ M95.log)) = M164 := ef165.symm
  try rw [rw0] at hraw
  try rw [rw1] at hraw
  try rw [rw2] at hraw
  try rw [rw3] at hraw
  try rw [rw4] at hraw
  try rw [rw5] at hraw
  try rw [rw6] at hraw
  try rw [rw7] at hraw
  try rw [rw8] at hraw
  try rw [rw9] at hraw
  try rw [rw10] at hraw
  have hE := Ev.told_tmp noNumP mixedP Tryd.func5 q5_ok (by kernel_rfl) rK5 (fun B => specsB_ok (k := []) (hS5_12_14_17_18_19_21 B) (fun p hp => by cases hp)) (fun _ _ => rfl) hraw (hk (q_call rfl p4 l5 e6) (hk (q_call rfl p16 l17 e18) (hk (q_eq (by rw [← eb26, ← em27]; kernel_rfl) Nat.one_ne_zero) (hk (q_st q35) (hk (q_call rfl p47 l48 e49) (hk (q_call rfl p61 l62 e63) (hk (lA ⟨dA25, dS25⟩ g70 rfl) (hk (q_slice (slice_to g71 hkn)) (hk (q_call rfl p76 l77 e78) (hk (lA ⟨dA25, dS25⟩ g85 rfl) (hk (q_slice (slice_from g86 hkn)) (hk (q_call rfl p96 l97 e98) (hk (bT (decide_eq_true (by omega))) (hk (bT (decide_eq_true (by omega))) (hk (bT (decide_eq_true (by omega))) (hk (lC dC22 g120 rfl) (hk (bT (decide_eq_true (by omega))) (hk (bT (decide_eq_true (by omega))) (hk (bT (decide_eq_true (by omega))) (hk (bT (decide_eq_true (by omega))) (hk (bT (decide_eq_true (by omega))) (hk (lA ⟨dA25, dS25⟩ g120 rfl) (hk (bT (decide_eq_true (by omega))) (hk (bT (decide_eq_true (by omega))) (hk (q_call rfl p125 l126 e127) (hk (bT (decide_eq_true (by omega))) (hk (bT (decide_eq_true (by omega))) (hk (bT (by rw [hsame]; exact beq_self_eq_true _)) (hk (bT (by rw [hsame]; exact beq_self_eq_true _)) (hk (bT (by rw [hsame]; exact beq_self_eq_true _)) (hk (bT (decide_eq_true (by omega))) (hk (bT (decide_eq_true (by omega))) (hk (bT (decide_eq_true (by omega))) (hk (lC dC23 g134 rfl) (hk (bT (decide_eq_true (by omega))) (hk (bT (decide_eq_true (by omega))) (hk (bT (decide_eq_true (by omega))) (hk (bT (decide_eq_true (by omega))) (hk (lA ⟨dA25, dS25⟩ g134 rfl) (hk (bT (decide_eq_true (by omega))) (hk (bT (decide_eq_true (by omega))) (hk (q_call rfl p146 l147 e148) (hk (bT (decide_eq_true (by omega))) (hk (bT (decide_eq_true (by omega))) (hk (lC dC23 (hidx_get.2 ⟨hides_low (by simp; omega), g155⟩) rfl) (hk (q_lt ltb24M95) (hk (bT (decide_eq_true (by omega))) (hk (bT (decide_eq_true (by omega))) (hk (q_inb hend.1 hend.2) (hk (bT (decide_eq_true (by omega))) (hk (q_ld (load_acc (mkB (hidx_get.2 ⟨hides_low (by simp; omega), g154⟩) rfl) (hend.1) (by rw [accsI_len]; exact hend.2))) (hk (q_lt lty12fM95) (hk (bT (decide_eq_true (by omega))) (hk (bT (decide_eq_true (by omega))) (hk (q_apart (by rw [lg157]; simp <;> omega)) hn)))))))))))))))))))))))))))))))))))))))))))))))))))))))
  have hv : ((.bool ((runF (rowsI (nOf x) ns y (nN x)) (accsI y (nN x)) (wordI 4 (ws.take 14))) == (accAt (accsI y (nN x)) (goF (rowsI (nOf x) ns y (nN x)) (goF (rowsI (nOf x) ns y (nN x)) 0 ((wordI 4 (ws.take 14)).take kn)) ((wordI 4 (ws.take 14)).drop kn))))) : Value) = Value.bool true := by rw [hlast]; simp
  rw [hv] at hE
  exact ⟨_, hE⟩
end Go.Proofs.YtepgijgmnijdpaaDoor

open Go Go.Am Go.Proofs
namespace Go.Proofs.YtepgijgmnijdpaaDoor.dfaParts
set_option maxRecDepth 100000
open Go.ChangeShapes Go.WideShapes Go.ChangeAt Go.RowKit
theorem law_all (x y cut : Int) {a : Option Addr} {c : Nat} {l : List (List Int)} {aw : Option Addr} {cw : Nat} {lw : List (List Int)} {e : TypeId} {M : Mem} (hM : MemOk M) (hT : M.get 0 = some (tabB e)) (hs : FlatAt 1 M (.slice a l.length c) l) (hw : FlatAt 1 M (.slice aw lw.length cw) lw) :
    ∃ M', Ev Tryd.prog [0] 5 [i64 x, .slice a l.length c, i64 y, .slice aw lw.length cw, i64 cut] M (.bool true) M' := by
  obtain ⟨ns, rfl⟩ := ones hs.wide
  obtain ⟨ws, rfl⟩ := ones hw.wide
  rw [List.length_map] at hs hw ⊢
  rw [List.length_map]
  have hg := mk_good x y ns
  have hwd := rowsI_wide (nOf x) ns y (nN x)
  have hn := nN_le x
  have hlen : ((rowsI (nOf x) ns y (nN x)).length : Int) = ((nN x : Nat) : Int) := by rw [rowsI_len]
  have hwl3 : (wordI 4 (ws.take 14)).length ≤ 1000 := by simp [wordI]; omega
  have h0 : noneB 0 (((rowsI (nOf x) ns y (nN x)).length : Nat) : Int) = false := by rw [rowsI_len]; simp [noneB]; omega
  have key : ∀ (u v : List Int), okW u → okW v → (0 ≤ goF (rowsI (nOf x) ns y (nN x)) 0 u ∧ goF (rowsI (nOf x) ns y (nN x)) 0 u < ((nN x : Nat) : Int)) ∧
      (0 ≤ goF (rowsI (nOf x) ns y (nN x)) (goF (rowsI (nOf x) ns y (nN x)) 0 u) v ∧ goF (rowsI (nOf x) ns y (nN x)) (goF (rowsI (nOf x) ns y (nN x)) 0 u) v < ((nN x : Nat) : Int)) ∧
      goF (rowsI (nOf x) ns y (nN x)) (goF (rowsI (nOf x) ns y (nN x)) 0 u) v = goF (rowsI (nOf x) ns y (nN x)) 0 (u ++ v) ∧
      runF (rowsI (nOf x) ns y (nN x)) (accsI y (nN x)) (u ++ v) = accAt (accsI y (nN x)) (goF (rowsI (nOf x) ns y (nN x)) (goF (rowsI (nOf x) ns y (nN x)) 0 u) v) := by
    intro u v hu hv
    obtain ⟨s1, g1, n1⟩ := go_all hg hwd u 0 hu h0
    obtain ⟨s2, g2, n2⟩ := go_all hg hwd v s1 hv n1
    have f1 := goF_some g1 n1
    have f2 := goF_some g2 n2
    have f3 := goF_some ((goL_app u v 0 s1 g1).trans g2) n2
    rw [f1, f2, f3]
    have r1 := noneB_false n1
    have r2 := noneB_false n2
    rw [rowsI_len] at r1 r2
    refine ⟨r1, r2, rfl, ?_⟩
    unfold runF
    rw [f3]
    have : noneB s2 (((accsI y (nN x)).length : Nat) : Int) = false := by rw [accsI_len]; rw [rowsI_len] at n2; exact n2
    rw [this]
    simp
  by_cases hwl : wordI 4 (ws.take 14) = []
  · have hm := modI_range (x := cut) (n := 1) (by decide)
    obtain ⟨k1, k2, k3, k4⟩ := key [] [] (fun z hz => by cases hz) (fun z hz => by cases hz)
    exact w5_n x a c ns y aw cw ws cut 0 e hM hT hs hw hwl hwl3 (Nat.zero_le _) (by omega) k1 k2 k3 k4
  · have hm := modI_range (x := cut) (n := IntKind.wrap .i64 ((((wordI 4 (ws.take 14)).length : Nat) : Int) + (1 : Int))) (by rw [Go.Am.wrap_succ (by omega)]; omega)
    have hwr : IntKind.wrap .i64 ((((wordI 4 (ws.take 14)).length : Nat) : Int) + (1 : Int)) = (((wordI 4 (ws.take 14)).length + 1 : Nat) : Int) := Go.Am.wrap_succ (by omega)
    obtain ⟨kn, hk⟩ : ∃ kn : Nat, modI cut (IntKind.wrap .i64 ((((wordI 4 (ws.take 14)).length : Nat) : Int) + (1 : Int))) = (kn : Int) := ⟨(modI cut (IntKind.wrap .i64 ((((wordI 4 (ws.take 14)).length : Nat) : Int) + (1 : Int)))).toNat, by omega⟩
    have hkn : kn ≤ (wordI 4 (ws.take 14)).length := by omega
    have hok := okW_word 4 (ws.take 14)
    obtain ⟨k1, k2, k3, k4⟩ := key ((wordI 4 (ws.take 14)).take kn) ((wordI 4 (ws.take 14)).drop kn) (fun z hz => hok z (List.mem_of_mem_take hz)) (fun z hz => hok z (List.mem_of_mem_drop hz))
    rw [List.take_append_drop] at k3 k4
    exact w5_s x a c ns y aw cw ws cut kn e hM hT hs hw hwl hwl3 hkn hk k1 k2 k3 k4
theorem contract (H : Type) (enc : TypeId × Value → H) (W : World) (base : Nat) (args : Array Value) (ds gs : List (DataW H)) (before : List MemPlace)
    (hval : ∀ (j : Nat) t v, Tryd.f5.params[j]? = some t → args[j]? = some v → Value.okWide Tryd.prog W .any base t v)
    (hW : DataW.Whole enc Tryd.prog Tryd.f5.params.toList Rows.dfaPartsSpec.vars false W args.toList ds gs before) (hL : laidMet Tryd.prog Rows.dfaPartsRow.laid W) :
    Calls Tryd.prog 5 args W fun e W' => ∃ v, e = .returned v ∧ Rows.dfaPartsSpec.post enc Tryd.prog Tryd.f5 false true false false W args v W' := by
  have hW' := hW
  obtain ⟨p, q, hA0, hV, rfl, hfz, hnd⟩ := hW
  have hpar : Tryd.f5.params = #[3, 26, 3, 26, 3] := by kernel_rfl
  have hA : DataW.TrodAll enc Tryd.prog W 0 (fun _ => true) true [3, 26, 3, 26, 3] args.toList ds p := by rw [hpar] at hA0; exact hA0
  rw [hpar] at hval
  have hAll := hA
  obtain ⟨v0, vs0, d0, ds0, p0, q0, hargs, rfl, rfl, h0, r0⟩ := trodAll_cons hA
  obtain ⟨v1, vs1, d1, ds1, p1, q1, rfl, rfl, rfl, h1, r1⟩ := trodAll_cons r0
  obtain ⟨v2, vs2, d2, ds2, p2, q2, rfl, rfl, rfl, h2, r2⟩ := trodAll_cons r1
  obtain ⟨v3, vs3, d3, ds3, p3, q3, rfl, rfl, rfl, h3, r3⟩ := trodAll_cons r2
  obtain ⟨v4, vs4, d4, ds4, p4, q4, rfl, rfl, rfl, h4, r4⟩ := trodAll_cons r3
  obtain ⟨rfl, rfl, rfl⟩ := trodAll_nil r4
  obtain rfl : args = #[v0, v1, v2, v3, v4] := by cases args; simp_all
  obtain ⟨rfl, rfl⟩ := trodVars_none hV
  obtain ⟨x0, rfl, _, _, _⟩ := open_int Tryd.underlying3 (hval 0 3 v0 rfl rfl) h0
  obtain ⟨x2, rfl, _, _, _⟩ := open_int Tryd.underlying3 (hval 2 3 v2 rfl rfl) h2
  obtain ⟨x4, rfl, _, _, _⟩ := open_int Tryd.underlying3 (hval 4 3 v4 rfl rfl) h4
  obtain ⟨e, kT⟩ := laidT hL
  obtain ⟨m1, bs1, φ1, l1, a1, c1, k11, k12, k13⟩ := open_flat ty26 (n := 1) (hval 1 26 v1 rfl rfl) h1
  have J1 := kT.join k11
  obtain ⟨m3, bs3, φ3, l3, a3, c3, k31, k32, k33⟩ := open_flat ty26 (n := m1) (hval 3 26 v3 rfl rfl) h3
  have J3 := J1.join k31
  have hhas := J3.has
  have hT : (startMem _ m3).get 0 = some (tabB e) := hhas.left.left _ (List.mem_singleton.2 rfl)
  obtain ⟨M', hev⟩ := law_all x0 x2 x4 (MemOk.start _ _) hT (k13 _ hhas.left.right) (k33 _ hhas.right)
  have hlr : LRel (both (both φT φ1) φ3) [i64 x0, .slice a1 l1.length c1, i64 x2, .slice a3 l3.length c3, i64 x4] [i64 x0, v1, i64 x2, v3, i64 x4] := (.cons (.leaf rfl) (.cons (k12 _ (fun id ee hh => both_l (both φT φ1) φ3 id ee ((both_r kT k11) id ee hh))) (.cons (.leaf rfl) (.cons (k32 _ (both_r J1 k31)) (.cons (.leaf rfl) .nil)))))
  have hm1 : 1 ≤ m3 := by have := k11.le; have := k31.le; omega
  refine (calls_ev (knowsA J3 hm1 (fun id ee hh => both_l (both φT φ1) φ3 id ee ((both_l φT φ1) id ee hh))) hev hlr).mono fun e W' ⟨φ', v', he, hk, hv, _, _⟩ => ?_
  obtain rfl := hv.bool_inv
  refine ⟨_, he, post_of_kept (pv := []) hW' (fun _ _ _ => trodAll_cons_mk (shut_bool Tryd.underlying4 _) trodAll_mk0) (fun sp hsp => ?_) (fun _ _ => rfl) rfl hk (ok_one (by kernel_rfl) rfl (okWide_bool_mk Tryd.underlying4 _))⟩
  rw [hpar]
  exact trodAll_kept laidOut hk (readable (by kernel_rfl)) hAll (fun p hp => hW'.lt p (List.mem_append_left _ hp)) (fun p hp => hsp p (List.mem_append_left _ hp))
end Go.Proofs.YtepgijgmnijdpaaDoor.dfaParts

open Go Go.Am Go.Proofs
namespace Go.Proofs.YtepgijgmnijdpaaDoor.dfaParts
set_option maxRecDepth 100000
open Go.ChangeShapes Go.WideShapes Go.ChangeAt Go.RowKit
def flatD : Nat → DataW Unit → List Value
  | 0, _ => []
  | n + 1, .agg l => l.flatMap (flatD n)
  | _ + 1, .lit (.int k z) => [.int k z]
  | _, _ => []
def lay (c : List Value) : Obj → Obj
  | .cells _ t frozen => .cells c.toArray t frozen
  | o => o
noncomputable def laidWorld (os : Os) : World :=
  let w0 := World.holding Tryd.prog os ⟨#[], #[], []⟩
  { w0 with heap := (w0.heap.modify 0 (lay (flatD 3 Rows.laid_math_bits_deBruijn64tab))) }
theorem laid_met (os : Os) (args : Array Value) : laidMet Tryd.prog Rows.dfaPartsRow.laid ((laidWorld os).forCall (fun _ _ => 0) ⟨#[], args, []⟩).memory :=
  laidMet_of_run' 8 (by kernel_rfl) (by kernel_rfl)
theorem own : ownKnob Tryd.prog.godebug = none := by kernel_rfl
theorem reads (os : Os) {H : Type} (enc : TypeId × Value → H) : ∃ places, DataW.whole enc Tryd.prog ((laidWorld os).forCall (fun _ _ => 0) ⟨#[], #[Value.int .i64 0, Value.slice none 0 0, Value.int .i64 0, Value.slice none 0 0, Value.int .i64 0], []⟩).memory Tryd.f5.params.toList Rows.dfaPartsSpec.vars false (#[Value.int .i64 0, Value.slice none 0 0, Value.int .i64 0, Value.slice none 0 0, Value.int .i64 0] : Array Value).toList 8 = some ([.lit (.int .i64 0), .nil, .lit (.int .i64 0), .nil, .lit (.int .i64 0)], [], places) :=
  ⟨[], by kernel_rfl⟩
theorem lifted (os : Os) (started : os.Started) (H : Type) (enc : TypeId × Value → H) (F : Stop.Interp) :
    ReturnsInHanded {} Tryd.checked os 5 .any ((OpenSpec.ofChange Rows.dfaPartsSpec).preRow enc Tryd.prog Tryd.f5 Rows.dfaPartsRow.domain false Rows.dfaPartsRow.laid) (((OpenSpec.ofChange Rows.dfaPartsSpec).at F).post enc Tryd.prog Tryd.f5 false true false false) := by
  obtain ⟨places, hx⟩ := reads os enc
  refine returnsInHanded_of_row (C := Tryd.checked) (s := OpenSpec.ofChange Rows.dfaPartsSpec) own started (by kernel_rfl) Tryd.func5
    (witness_row_at (enc := enc) (C := Tryd.checked) false (laidWorld os) #[Value.int .i64 0, Value.slice none 0 0, Value.int .i64 0, Value.slice none 0 0, Value.int .i64 0] rfl (by kernel_rfl) (by kernel_rfl) (by kernel_rfl)
      (OpenSpec.preRow_of_cond 8 hx (by kernel_rfl) (fun k hk => by cases hk) (by kernel_rfl) (laid_met os _))) ?_
  intro W base args ds gs before hval hW _ _ _ hL _ _
  exact contract H enc W base args ds gs before hval hW hL
theorem said : Rows.DfaPartsSaid :=
  OpenClaim.holds_of_cond 5 Tryd.f5 rfl rfl rfl rfl rfl rfl rfl ⟨rfl, rfl, rfl, rfl, rfl⟩ rfl rfl rfl rfl rfl (by kernel_rfl) Tryd.func5 (by kernel_rfl)
    (of_decide_eq_true (by kernel_rfl)) (by unfold Func.isWrapper; first | (rw [if_pos (by decide +kernel)]; kernel_rfl) | (rw [if_neg (by decide +kernel)]; exact ⟨rfl, rfl⟩))
    (fun os started H enc _ F => by rw [OpenClaim.pre_eq_preRow]; exact lifted os started H enc F)
theorem plain (f : FuncId) (fn : Func) (hf : Tryd.pinned.checked.prog.funcNamed "milestone/milestonelaw7.DfaParts" = some f) (hfn : Tryd.pinned.checked.prog.funcs[f]? = some fn) :
    false = Tryd.pinned.checked.prog.looks [] ∧ ∀ (j : Nat) t, fn.params[j]? = some t → Tryd.pinned.checked.prog.wantsStandIn t = false := by
  obtain rfl : f = 5 := Option.some.inj ((show Tryd.prog.funcNamed "milestone/milestonelaw7.DfaParts" = some 5 by kernel_rfl).symm.trans hf) |>.symm
  obtain rfl : fn = Tryd.f5 := (Option.some.inj (Tryd.func5.symm.trans hfn)).symm
  refine ⟨by kernel_rfl, fun j t ht => ?_⟩
  have hall : Tryd.f5.params.all (fun t => !Tryd.prog.wantsStandIn t) = true := by kernel_rfl
  have := (Array.all_eq_true_iff_forall_mem.1 hall) t (Array.mem_of_getElem? ht)
  exact (show Tryd.prog.wantsStandIn t = false by
    cases hw : Tryd.prog.wantsStandIn t with
    | false => rfl
    | true => rw [hw] at this; cases this)
theorem card : Rows.DfaPartsCardSaid :=
  Claim7.holds_tied_plain_at .later [] _ _ _ _ said (fun _ h => by cases h) (by kernel_rfl) (fun _ h => by cases h) dfaParts_row_tie rfl ⟨rfl, rfl⟩ (by kernel_rfl) rfl plain (by kernel_rfl)
#print axioms card
end Go.Proofs.YtepgijgmnijdpaaDoor.dfaParts
