/-
  P101, NetChecks: for every network, every number, every row of numbers that is handed in the law answers true, and its arguments read as they did. No condition but the row's own.
-/
import Derived.Test.YtlmifmodnkhidaaDoorAmView
import Derived.IntWalk
import Derived.KernelRfl
import Derived.Test.YtlmifmodnkhidaaDoorProg
open Go Go.Am Go.Proofs
namespace Go.Proofs.YtlmifmodnkhidaaDoor
set_option maxRecDepth 10000

theorem noNumP : noNum Tryd.prog := by
  have h : Tryd.prog.funcs.all (fun fn => !(fn.name == "runtime.NumGoroutine")) = true := by kernel_rfl
  intro f fn hf
  have := (Array.all_eq_true_iff_forall_mem.1 h) fn (Array.mem_of_getElem? hf)
  simpa using this
theorem mixedP : Tryd.prog.follows .mixedOrders = true := by kernel_rfl

def noDoors : Nat → Door := fun _ => ⟨0, 0, [], [], [], []⟩
abbrev i64 (z : Int) : Value := .int .i64 z
def tru (pt : Nat) : Fact := ⟨pt, .bool true, ansB true⟩
def fls (pt : Nat) : Fact := ⟨pt, .bool true, ansB false⟩
def got (pt : Nat) (v : Value) : Fact := ⟨pt, .bool true, (1, .val v, noMem)⟩
def onto (pt : Nat) (old : List Value) : Fact := ⟨pt, .bool true, (3, .val (.agg ⟨old⟩), noMem)⟩
def madeB (pt : Nat) (v : Value) (b : ABlk) : Fact := ⟨pt, .bool true, (4, .val v, ⟨blkTree [(0, b)], 0, [], []⟩)⟩
def past (pt : Nat) (e : AExit) (s : St) : Fact := ⟨pt, .blk 0 .skip ⟨.nil, 0, noMem⟩ e s, ansB true⟩

/- below(i, count) -/
noncomputable def B38 : Code := Tryd.f38.body.get!
theorem body38 : Tryd.f38.body = some B38 := by kernel_rfl
def g38 (args : List Value) (M : Mem) : Option (Value × Mem) :=
  match args with
  | [.int .i64 i, .int .i64 c] => some (.bool (decide (0 ≤ i) && decide (i < c)), M)
  | _ => none
theorem run38a (i c : Int) (M : Mem) : (hexec Tryd.prog [] noSpecs 50 B38 ⟨initT [i64 i, i64 c] 0 .nil, Tryd.f38.ntmps, M⟩ [tru 8, tru 10, tru 12, tru 15] 0).map (fun r => (r.1.1, r.1.2.M, aresults Tryd.prog Tryd.f38 r.1.2, r.2.2.2.map (view noDoors []))) =
    some (.ret, M, some (.bool (decide (i < c))), [.b (decide (i ≥ 0)) (.val (.bool true)), .b (decide (i ≥ 0)) (.val (.bool true)), .b (decide (i ≥ 0)) (.val (.bool true)), .b (decide (i ≥ 0)) (.val (.bool true))]) := by kernel_rfl
theorem run38b (i c : Int) (M : Mem) : (hexec Tryd.prog [] noSpecs 50 B38 ⟨initT [i64 i, i64 c] 0 .nil, Tryd.f38.ntmps, M⟩ [fls 8, fls 10, fls 12, fls 15] 0).map (fun r => (r.1.1, r.1.2.M, aresults Tryd.prog Tryd.f38 r.1.2, r.2.2.2.map (view noDoors []))) =
    some (.ret, M, some (.bool false), [.b (decide (i ≥ 0)) (.val (.bool false)), .b (decide (i ≥ 0)) (.val (.bool false)), .b (decide (i ≥ 0)) (.val (.bool false)), .b (decide (i ≥ 0)) (.val (.bool false))]) := by kernel_rfl
theorem arun38 (i c : Int) (M : Mem) : arun Tryd.prog [] noSpecs 50 38 [i64 i, i64 c] M = some (.bool (decide (0 ≤ i) && decide (i < c)), M) := by
  by_cases h : i ≥ 0
  · obtain ⟨M', h1, h2⟩ := run_of (look := fun M => M) Tryd.func38 body38 (by kernel_rfl) (run38a i c M) (.inr rfl) (by
      intro p hp; simp only [List.mem_cons, List.not_mem_nil, or_false] at hp
      rcases hp with rfl | rfl | rfl | rfl <;> simp [QV.holds, h])
    rw [h1, h2]
    have : decide (0 ≤ i) = true := decide_eq_true h
    rw [this]; rfl
  · obtain ⟨M', h1, h2⟩ := run_of (look := fun M => M) Tryd.func38 body38 (by kernel_rfl) (run38b i c M) (.inr rfl) (by
      intro p hp; simp only [List.mem_cons, List.not_mem_nil, or_false] at hp
      rcases hp with rfl | rfl | rfl | rfl <;> simp [QV.holds] <;> omega)
    rw [h1, h2]
    have : decide (0 ≤ i) = false := decide_eq_false h
    rw [this]; rfl
theorem SpecOk.sub {P : Program} {GL : List Nat} {B : Nat} {f : FuncId} {g g' : List Value → Mem → Option (Value × Mem)} (h : SpecOk P GL B f g) (hs : ∀ args M r, g' args M = some r → g args M = some r) : SpecOk P GL B f g' :=
  ⟨fun args M v M' hg => h.abs args M v M' (hs _ _ _ hg), fun args M v M' hg => h.run args M v M' (hs _ _ _ hg)⟩
theorem ok38 (B : Nat) : SpecOk Tryd.prog [] B 38 g38 := SpecOk.sub (SpecOk.arun noNumP mixedP SpecsOk.none 50 38) fun args M r h => by
  unfold g38 at h
  split at h
  · rename_i i c
    cases h
    exact arun38 i c M
  · cases h
theorem call38 {SP : Specs} (hS : SP.calls 38 = some g38) (i c : Int) (b : Bool) (hb : (decide (0 ≤ i) && decide (i < c)) = b) (M : Mem) : acall (onlySpecs SP) 38 [i64 i, i64 c] M = some (1, .val (.bool b), M) := by
  subst hb
  unfold acall onlySpecs viaSpecs
  rw [hS]
  rfl

/- within(at, n) -/
noncomputable def B18 : Code := Tryd.f18.body.get!
theorem body18 : Tryd.f18.body = some B18 := by kernel_rfl
def modI (x n : Int) : Int := if x.tmod n < 0 then x.tmod n + n else x.tmod n
theorem modI_range {x n : Int} (hn : 0 < n) : 0 ≤ modI x n ∧ modI x n < n := by
  have hlt : x.tmod n < n := Int.tmod_lt_of_pos x hn
  have hgt : -n < x.tmod n := Int.lt_tmod_of_pos x hn
  unfold modI
  split <;> omega
theorem run18a (x n : Int) (M : Mem) : (hexec Tryd.prog [] noSpecs 50 B18 ⟨initT [i64 x, i64 n] 0 .nil, Tryd.f18.ntmps, M⟩ [tru 7, tru 14] 0).map (fun r => (r.1.1, r.1.2.M, aresults Tryd.prog Tryd.f18 r.1.2, r.2.2.2.map (view noDoors []))) =
    some (.ret, M, some (i64 (IntKind.wrap .i64 (x.tmod n + n))), [.nz n, .b (decide (x.tmod n < 0)) (.val (.bool true))]) := by kernel_rfl
theorem run18b (x n : Int) (M : Mem) : (hexec Tryd.prog [] noSpecs 50 B18 ⟨initT [i64 x, i64 n] 0 .nil, Tryd.f18.ntmps, M⟩ [tru 7, fls 14] 0).map (fun r => (r.1.1, r.1.2.M, aresults Tryd.prog Tryd.f18 r.1.2, r.2.2.2.map (view noDoors []))) =
    some (.ret, M, some (i64 (x.tmod n)), [.nz n, .b (decide (x.tmod n < 0)) (.val (.bool false))]) := by kernel_rfl
def g18 (args : List Value) (M : Mem) : Option (Value × Mem) :=
  match args with
  | [.int .i64 x, .int .i64 n] => bif decide (0 < n) && decide (n < 2 ^ 62) then some (i64 (modI x n), M) else none
  | _ => none
theorem arun18 (x n : Int) (M : Mem) (hn : 0 < n) (hn2 : n < 2 ^ 62) : arun Tryd.prog [] noSpecs 50 18 [i64 x, i64 n] M = some (i64 (modI x n), M) := by
  have hlt : x.tmod n < n := Int.tmod_lt_of_pos x hn
  have hgt : -n < x.tmod n := Int.lt_tmod_of_pos x hn
  have hne : n ≠ 0 := by omega
  by_cases h : x.tmod n < 0
  · obtain ⟨M', h1, h2⟩ := run_of (look := fun M => M) Tryd.func18 body18 (by kernel_rfl) (run18a x n M) (.inr rfl) (by
      intro p hp; simp only [List.mem_cons, List.not_mem_nil, or_false] at hp
      rcases hp with rfl | rfl
      · exact hne
      · simp [QV.holds, h])
    rw [h1, h2, IntWalk.i64_in _ (by omega)]
    unfold modI; rw [if_pos h]
  · obtain ⟨M', h1, h2⟩ := run_of (look := fun M => M) Tryd.func18 body18 (by kernel_rfl) (run18b x n M) (.inr rfl) (by
      intro p hp; simp only [List.mem_cons, List.not_mem_nil, or_false] at hp
      rcases hp with rfl | rfl
      · exact hne
      · simp [QV.holds, h])
    rw [h1, h2]
    unfold modI; rw [if_neg h]
theorem ok18 (B : Nat) : SpecOk Tryd.prog [] B 18 g18 := SpecOk.sub (SpecOk.arun noNumP mixedP SpecsOk.none 50 18) fun args M r h => by
  unfold g18 at h
  split at h
  · rename_i x n
    cases hb : (decide (0 < n) && decide (n < 2 ^ 62)) <;> rw [hb] at h <;> simp only [cond_true, cond_false] at h
    · cases h
    · cases h
      simp only [Bool.and_eq_true, decide_eq_true_eq] at hb
      exact arun18 x n M hb.1 hb.2
  · cases h
theorem call18 {SP : Specs} (hS : SP.calls 18 = some g18) (x n : Int) (hn : 0 < n) (hn2 : n < 2 ^ 62) (v : Int) (hv : modI x n = v) (M : Mem) : acall (onlySpecs SP) 18 [i64 x, i64 n] M = some (1, .val (i64 v), M) := by
  subst hv
  unfold acall onlySpecs viaSpecs
  rw [hS]
  have : (decide (0 < n) && decide (n < 2 ^ 62)) = true := by rw [decide_eq_true hn, decide_eq_true hn2]; rfl
  simp only [g18, this, cond_true]
  rfl
end Go.Proofs.YtlmifmodnkhidaaDoor
