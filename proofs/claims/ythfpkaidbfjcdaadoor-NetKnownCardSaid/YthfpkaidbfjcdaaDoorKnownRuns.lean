/-
  P102, NetKnown: for every number the law answers true, and its argument reads as it did. No condition but the row's own.
-/
import Derived.Test.YthfpkaidbfjcdaaDoorAmStart
import Derived.IntWalk
import Derived.Stop.LaidErr
import Derived.Lib.LaidTab
import Derived.Test.YthfpkaidbfjcdaaDoorShelf
import Derived.Test.YthfpkaidbfjcdaaDoorRows
import Derived.KernelRfl
import Derived.Test.YthfpkaidbfjcdaaDoorProg
open Go Go.Am Go.Proofs
namespace Go.Proofs.YthfpkaidbfjcdaaDoor.netKnown
set_option maxRecDepth 10000

theorem noNumP : noNum Tryd.prog := by
  have h : Tryd.prog.funcs.all (fun fn => !(fn.name == "runtime.NumGoroutine")) = true := by kernel_rfl
  intro f fn hf
  have := (Array.all_eq_true_iff_forall_mem.1 h) fn (Array.mem_of_getElem? hf)
  simpa using this
theorem mixedP : Tryd.prog.follows .mixedOrders = true := by kernel_rfl

def GL6 : List Nat := [0, 6, 7]
noncomputable def B18 : Code := Tryd.f18.body.get!
theorem body18 : Tryd.f18.body = some B18 := by kernel_rfl

theorem within_neg (x : Int) (M : Mem) : (hexec Tryd.prog GL6 noSpecs 50 B18 ⟨initT [.int .i64 x, .int .i64 20] 0 .nil, 15, M⟩ [⟨14, .bool true, ansB true⟩] 0).map (fun r => (r.1.1, r.1.2.M, aresults Tryd.prog Tryd.f18 r.1.2, r.2.2.2)) =
    some (.ret, M, some (.int .i64 (IntKind.wrap .i64 (x.tmod 20 + 20))), [(.bool (decide (x.tmod 20 < 0)), ansB true)]) := by kernel_rfl
theorem within_pos (x : Int) (M : Mem) : (hexec Tryd.prog GL6 noSpecs 50 B18 ⟨initT [.int .i64 x, .int .i64 20] 0 .nil, 15, M⟩ [⟨14, .bool true, ansB false⟩] 0).map (fun r => (r.1.1, r.1.2.M, aresults Tryd.prog Tryd.f18 r.1.2, r.2.2.2)) =
    some (.ret, M, some (.int .i64 (x.tmod 20)), [(.bool (decide (x.tmod 20 < 0)), ansB false)]) := by kernel_rfl

theorem told {SP : Specs} {n : Nat} {f : FuncId} {fn : Func} {c : Code} {args : List Value} {M M' : Mem} {F : List Fact} {q : Col} {v : Value} {e : AExit}
    (hf : Tryd.prog.funcs[f]? = some fn) (hb : fn.body = some c) (hl : Nat.ble args.length fn.ntmps = true)
    (h : (hexec Tryd.prog GL6 SP n c ⟨initT args 0 .nil, fn.ntmps, M⟩ F 0).map (fun r => (r.1.1, r.1.2.M, aresults Tryd.prog fn r.1.2, r.2.2.2)) = some (e, M', some v, q))
    (he : e = .normal ∨ e = .ret) (hq : allHold Tryd.prog SP q) : arun Tryd.prog GL6 SP n f args M = some (v, M') := by
  cases hx : hexec Tryd.prog GL6 SP n c ⟨initT args 0 .nil, fn.ntmps, M⟩ F 0 with
  | none => rw [hx] at h; cases h
  | some r =>
    obtain ⟨⟨e1, s1⟩, F1, c1, q1⟩ := r
    rw [hx] at h
    simp only [Option.map_some, Option.some.injEq, Prod.mk.injEq] at h
    obtain ⟨rfl, rfl, hr, rfl⟩ := h
    exact arun_told hf hb hl hx hq he hr

theorem within_run (x : Int) : ∃ j : Nat, j < 20 ∧ ∀ M, arun Tryd.prog GL6 noSpecs 50 18 [.int .i64 x, .int .i64 20] M = some (.int .i64 (j : Int), M) := by
  have hlt : x.tmod 20 < 20 := Int.tmod_lt_of_pos x (by decide)
  have hgt : -20 < x.tmod 20 := Int.lt_tmod_of_pos x (by decide)
  by_cases hn : x.tmod 20 < 0
  · refine ⟨(x.tmod 20 + 20).toNat, by omega, fun M => ?_⟩
    have hw : IntKind.wrap .i64 (x.tmod 20 + 20) = ((x.tmod 20 + 20).toNat : Int) := by
      rw [IntWalk.i64_in _ (by omega)]; omega
    rw [← hw]
    refine told Tryd.func18 body18 (by kernel_rfl) (within_neg x M) (.inr rfl) ?_
    intro p hp
    simp only [List.mem_singleton] at hp
    subst hp
    simp [Qu.holds, ansB, hn]
  · refine ⟨(x.tmod 20).toNat, by omega, fun M => ?_⟩
    have hw : x.tmod 20 = ((x.tmod 20).toNat : Int) := by omega
    have h := within_pos x M
    rw [hw] at h
    rw [show (((x.tmod 20).toNat : Int)) = x.tmod 20 from hw.symm]
    refine told Tryd.func18 body18 (by kernel_rfl) (within_pos x M) (.inr rfl) ?_
    intro p hp
    simp only [List.mem_singleton] at hp
    subst hp
    simp [Qu.holds, ansB, hn]

noncomputable def B6 : Code := Tryd.f6.body.get!
theorem body6 : Tryd.f6.body = some B6 := by kernel_rfl
def clone (args : List Value) (M : Mem) : Option (Value × Mem) :=
  match args with
  | [.string s] => bif Nat.ble s.size 281474976710656 then some (.string s, M) else none
  | _ => none
noncomputable def SP6 : Specs := specs [(13, ansNone (.bool true)), (18, arun Tryd.prog GL6 noSpecs 50 18), (94, clone)]
def ints (k : IntKind) (l : List Int) : List Value := l.map (Value.int k)
def tab10 : List Value := ints .u64 [1, 10, 100, 1000, 10000, 100000, 1000000, 10000000, 100000000, 1000000000, 10000000000, 100000000000, 1000000000000, 10000000000000, 100000000000000, 1000000000000000, 10000000000000000, 100000000000000000, 1000000000000000000, 10000000000000000000]
def blks6 (e0 e6 e7 : TypeId) : List (Nat × ABlk) := [(0, ⟨tab10, e0, 1, 20, false⟩), (6, ⟨[.iface 136 (.pointer (some ⟨8, 0, none⟩))], e6, 1, 1, false⟩), (7, ⟨[.iface 136 (.pointer (some ⟨9, 0, none⟩))], e7, 1, 1, false⟩)]
def callsR : Col → Option (List (FuncId × List Value × AR))
  | [] => some []
  | (.callr f args _, a) :: l => match callsR l with | some r => some ((f, args, a.2.1) :: r) | none => none
  | _ :: _ => none
noncomputable def run6 (e0 e6 e7 : TypeId) (x : Int) (j : Nat) := (hexec Tryd.prog GL6 SP6 300 B6 ⟨initT [.int .i64 x] 0 .nil, 63, startMem (blks6 e0 e6 e7) 10⟩ [⟨22, .bool true, (1, .val (.int .i64 j), noMem)⟩] 0).map (fun r => (r.1.1, aresults Tryd.prog Tryd.f6 r.1.2, callsR r.2.2.2))

theorem run6_0 (e0 e6 e7 : TypeId) (x : Int) : run6 e0 e6 e7 x 0 = some (.ret, some (.bool true), some [(18, [.int .i64 x, .int .i64 20], .val (.int .i64 (0 : Nat)))]) := by kernel_rfl
theorem run6_1 (e0 e6 e7 : TypeId) (x : Int) : run6 e0 e6 e7 x 1 = some (.ret, some (.bool true), some [(18, [.int .i64 x, .int .i64 20], .val (.int .i64 (1 : Nat)))]) := by kernel_rfl
theorem run6_2 (e0 e6 e7 : TypeId) (x : Int) : run6 e0 e6 e7 x 2 = some (.ret, some (.bool true), some [(18, [.int .i64 x, .int .i64 20], .val (.int .i64 (2 : Nat)))]) := by kernel_rfl
theorem run6_3 (e0 e6 e7 : TypeId) (x : Int) : run6 e0 e6 e7 x 3 = some (.ret, some (.bool true), some [(18, [.int .i64 x, .int .i64 20], .val (.int .i64 (3 : Nat)))]) := by kernel_rfl
theorem run6_4 (e0 e6 e7 : TypeId) (x : Int) : run6 e0 e6 e7 x 4 = some (.ret, some (.bool true), some [(18, [.int .i64 x, .int .i64 20], .val (.int .i64 (4 : Nat)))]) := by kernel_rfl
theorem run6_5 (e0 e6 e7 : TypeId) (x : Int) : run6 e0 e6 e7 x 5 = some (.ret, some (.bool true), some [(18, [.int .i64 x, .int .i64 20], .val (.int .i64 (5 : Nat)))]) := by kernel_rfl
theorem run6_6 (e0 e6 e7 : TypeId) (x : Int) : run6 e0 e6 e7 x 6 = some (.ret, some (.bool true), some [(18, [.int .i64 x, .int .i64 20], .val (.int .i64 (6 : Nat)))]) := by kernel_rfl
theorem run6_7 (e0 e6 e7 : TypeId) (x : Int) : run6 e0 e6 e7 x 7 = some (.ret, some (.bool true), some [(18, [.int .i64 x, .int .i64 20], .val (.int .i64 (7 : Nat)))]) := by kernel_rfl
theorem run6_8 (e0 e6 e7 : TypeId) (x : Int) : run6 e0 e6 e7 x 8 = some (.ret, some (.bool true), some [(18, [.int .i64 x, .int .i64 20], .val (.int .i64 (8 : Nat)))]) := by kernel_rfl
theorem run6_9 (e0 e6 e7 : TypeId) (x : Int) : run6 e0 e6 e7 x 9 = some (.ret, some (.bool true), some [(18, [.int .i64 x, .int .i64 20], .val (.int .i64 (9 : Nat)))]) := by kernel_rfl
theorem run6_10 (e0 e6 e7 : TypeId) (x : Int) : run6 e0 e6 e7 x 10 = some (.ret, some (.bool true), some [(18, [.int .i64 x, .int .i64 20], .val (.int .i64 (10 : Nat)))]) := by kernel_rfl
theorem run6_11 (e0 e6 e7 : TypeId) (x : Int) : run6 e0 e6 e7 x 11 = some (.ret, some (.bool true), some [(18, [.int .i64 x, .int .i64 20], .val (.int .i64 (11 : Nat)))]) := by kernel_rfl
theorem run6_12 (e0 e6 e7 : TypeId) (x : Int) : run6 e0 e6 e7 x 12 = some (.ret, some (.bool true), some [(18, [.int .i64 x, .int .i64 20], .val (.int .i64 (12 : Nat)))]) := by kernel_rfl
theorem run6_13 (e0 e6 e7 : TypeId) (x : Int) : run6 e0 e6 e7 x 13 = some (.ret, some (.bool true), some [(18, [.int .i64 x, .int .i64 20], .val (.int .i64 (13 : Nat)))]) := by kernel_rfl
theorem run6_14 (e0 e6 e7 : TypeId) (x : Int) : run6 e0 e6 e7 x 14 = some (.ret, some (.bool true), some [(18, [.int .i64 x, .int .i64 20], .val (.int .i64 (14 : Nat)))]) := by kernel_rfl
theorem run6_15 (e0 e6 e7 : TypeId) (x : Int) : run6 e0 e6 e7 x 15 = some (.ret, some (.bool true), some [(18, [.int .i64 x, .int .i64 20], .val (.int .i64 (15 : Nat)))]) := by kernel_rfl
theorem run6_16 (e0 e6 e7 : TypeId) (x : Int) : run6 e0 e6 e7 x 16 = some (.ret, some (.bool true), some [(18, [.int .i64 x, .int .i64 20], .val (.int .i64 (16 : Nat)))]) := by kernel_rfl
theorem run6_17 (e0 e6 e7 : TypeId) (x : Int) : run6 e0 e6 e7 x 17 = some (.ret, some (.bool true), some [(18, [.int .i64 x, .int .i64 20], .val (.int .i64 (17 : Nat)))]) := by kernel_rfl
theorem run6_18 (e0 e6 e7 : TypeId) (x : Int) : run6 e0 e6 e7 x 18 = some (.ret, some (.bool true), some [(18, [.int .i64 x, .int .i64 20], .val (.int .i64 (18 : Nat)))]) := by kernel_rfl
theorem run6_19 (e0 e6 e7 : TypeId) (x : Int) : run6 e0 e6 e7 x 19 = some (.ret, some (.bool true), some [(18, [.int .i64 x, .int .i64 20], .val (.int .i64 (19 : Nat)))]) := by kernel_rfl
theorem runs6 (e0 e6 e7 : TypeId) (x : Int) : ∀ j : Nat, j < 20 → run6 e0 e6 e7 x j = some (.ret, some (.bool true), some [(18, [.int .i64 x, .int .i64 20], .val (.int .i64 (j : Int)))])
  | 0, _ => run6_0 e0 e6 e7 x
  | 1, _ => run6_1 e0 e6 e7 x
  | 2, _ => run6_2 e0 e6 e7 x
  | 3, _ => run6_3 e0 e6 e7 x
  | 4, _ => run6_4 e0 e6 e7 x
  | 5, _ => run6_5 e0 e6 e7 x
  | 6, _ => run6_6 e0 e6 e7 x
  | 7, _ => run6_7 e0 e6 e7 x
  | 8, _ => run6_8 e0 e6 e7 x
  | 9, _ => run6_9 e0 e6 e7 x
  | 10, _ => run6_10 e0 e6 e7 x
  | 11, _ => run6_11 e0 e6 e7 x
  | 12, _ => run6_12 e0 e6 e7 x
  | 13, _ => run6_13 e0 e6 e7 x
  | 14, _ => run6_14 e0 e6 e7 x
  | 15, _ => run6_15 e0 e6 e7 x
  | 16, _ => run6_16 e0 e6 e7 x
  | 17, _ => run6_17 e0 e6 e7 x
  | 18, _ => run6_18 e0 e6 e7 x
  | 19, _ => run6_19 e0 e6 e7 x
  | n + 20, h => absurd h (by omega)

end Go.Proofs.YthfpkaidbfjcdaaDoor.netKnown
