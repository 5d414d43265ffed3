/-
  NetWalks: whether any edges are a walk, its cost and its word, are the document's: of any network of at most twelve vertices that is made of the numbers handed in, and of any rows of edges, of at most sixty where they are handed in; the answer is true for every argument.
-/
import Derived.Test.YtlmifmodnkhidaaDoorAmView
import Derived.IntWalk
import Derived.KernelRfl
import Derived.Test.YtlmifmodnkhidaaDoorProg
import Derived.Test.YtlmifmodnkhidaaDoorAmKit
import Derived.Test.YtlmifmodnkhidaaDoorAmStart
import Derived.Test.YtlmifmodnkhidaaDoorAmCall
open Go Go.Am Go.Proofs
namespace Go.Proofs.YtlmifmodnkhidaaDoor
set_option maxRecDepth 10000

theorem noNumP : noNum Tryd.prog := by
  have h : Tryd.prog.funcs.all (fun fn => !(fn.name == "runtime.NumGoroutine")) = true := by kernel_rfl
  intro f fn hf
  have := (Array.all_eq_true_iff_forall_mem.1 h) fn (Array.mem_of_getElem? hf)
  simpa using this
theorem mixedP : Tryd.prog.follows .mixedOrders = true := by kernel_rfl

def noDoors : Nat → Door := fun _ => ⟨0, 0, [], [], [], []⟩
abbrev i64 (z : Int) : Value := .int .i64 z
def tru (pt : Nat) : Fact := ⟨pt, .bool true, ansB true⟩
def fls (pt : Nat) : Fact := ⟨pt, .bool true, ansB false⟩
def got (pt : Nat) (v : Value) : Fact := ⟨pt, .bool true, (1, .val v, noMem)⟩
def onto (pt : Nat) (old : List Value) : Fact := ⟨pt, .bool true, (3, .val (.agg ⟨old⟩), noMem)⟩
def madeB (pt : Nat) (v : Value) (b : ABlk) : Fact := ⟨pt, .bool true, (4, .val v, ⟨blkTree [(0, b)], 0, [], []⟩)⟩
def past (pt : Nat) (e : AExit) (s : St) : Fact := ⟨pt, .blk 0 .skip ⟨.nil, 0, noMem⟩ e s, ansB true⟩

/- below(i, count) -/
noncomputable def B38 : Code := Tryd.f38.body.get!
theorem body38 : Tryd.f38.body = some B38 := by kernel_rfl
def g38 (args : List Value) (M : Mem) : Option (Value × Mem) :=
  match args with
  | [.int .i64 i, .int .i64 c] => some (.bool (decide (0 ≤ i) && decide (i < c)), M)
  | _ => none
theorem run38a (i c : Int) (M : Mem) : (hexec Tryd.prog [] noSpecs 50 B38 ⟨initT [i64 i, i64 c] 0 .nil, Tryd.f38.ntmps, M⟩ [tru 8, tru 10, tru 12, tru 15] 0).map (fun r => (r.1.1, r.1.2.M, aresults Tryd.prog Tryd.f38 r.1.2, r.2.2.2.map (view noDoors []))) =
    some (.ret, M, some (.bool (decide (i < c))), [.b (decide (i ≥ 0)) (.val (.bool true)), .b (decide (i ≥ 0)) (.val (.bool true)), .b (decide (i ≥ 0)) (.val (.bool true)), .b (decide (i ≥ 0)) (.val (.bool true))]) := by kernel_rfl
theorem run38b (i c : Int) (M : Mem) : (hexec Tryd.prog [] noSpecs 50 B38 ⟨initT [i64 i, i64 c] 0 .nil, Tryd.f38.ntmps, M⟩ [fls 8, fls 10, fls 12, fls 15] 0).map (fun r => (r.1.1, r.1.2.M, aresults Tryd.prog Tryd.f38 r.1.2, r.2.2.2.map (view noDoors []))) =
    some (.ret, M, some (.bool false), [.b (decide (i ≥ 0)) (.val (.bool false)), .b (decide (i ≥ 0)) (.val (.bool false)), .b (decide (i ≥ 0)) (.val (.bool false)), .b (decide (i ≥ 0)) (.val (.bool false))]) := by kernel_rfl
theorem arun38 (i c : Int) (M : Mem) : arun Tryd.prog [] noSpecs 50 38 [i64 i, i64 c] M = some (.bool (decide (0 ≤ i) && decide (i < c)), M) := by
  by_cases h : i ≥ 0
  · obtain ⟨M', h1, h2⟩ := run_of (look := fun M => M) Tryd.func38 body38 (by kernel_rfl) (run38a i c M) (.inr rfl) (by
      intro p hp; simp only [List.mem_cons, List.not_mem_nil, or_false] at hp
      rcases hp with rfl | rfl | rfl | rfl <;> simp [QV.holds, h])
    rw [h1, h2]
    have : decide (0 ≤ i) = true := decide_eq_true h
    rw [this]; rfl
  · obtain ⟨M', h1, h2⟩ := run_of (look := fun M => M) Tryd.func38 body38 (by kernel_rfl) (run38b i c M) (.inr rfl) (by
      intro p hp; simp only [List.mem_cons, List.not_mem_nil, or_false] at hp
      rcases hp with rfl | rfl | rfl | rfl <;> simp [QV.holds] <;> omega)
    rw [h1, h2]
    have : decide (0 ≤ i) = false := decide_eq_false h
    rw [this]; rfl
theorem SpecOk.sub {P : Program} {GL : List Nat} {B : Nat} {f : FuncId} {g g' : List Value → Mem → Option (Value × Mem)} (h : SpecOk P GL B f g) (hs : ∀ args M r, g' args M = some r → g args M = some r) : SpecOk P GL B f g' :=
  ⟨fun args M v M' hg => h.abs args M v M' (hs _ _ _ hg), fun args M v M' hg => h.run args M v M' (hs _ _ _ hg)⟩
theorem ok38 (B : Nat) : SpecOk Tryd.prog [] B 38 g38 := SpecOk.sub (SpecOk.arun noNumP mixedP SpecsOk.none 50 38) fun args M r h => by
  unfold g38 at h
  split at h
  · rename_i i c
    cases h
    exact arun38 i c M
  · cases h
theorem call38 {SP : Specs} (hS : SP.calls 38 = some g38) (i c : Int) (b : Bool) (hb : (decide (0 ≤ i) && decide (i < c)) = b) (M : Mem) : acall (onlySpecs SP) 38 [i64 i, i64 c] M = some (1, .val (.bool b), M) := by
  subst hb
  unfold acall onlySpecs viaSpecs
  rw [hS]
  rfl

/- within(at, n) -/
noncomputable def B18 : Code := Tryd.f18.body.get!
theorem body18 : Tryd.f18.body = some B18 := by kernel_rfl
def modI (x n : Int) : Int := if x.tmod n < 0 then x.tmod n + n else x.tmod n
theorem modI_range {x n : Int} (hn : 0 < n) : 0 ≤ modI x n ∧ modI x n < n := by
  have hlt : x.tmod n < n := Int.tmod_lt_of_pos x hn
  have hgt : -n < x.tmod n := Int.lt_tmod_of_pos x hn
  unfold modI
  split <;> omega
theorem run18a (x n : Int) (M : Mem) : (hexec Tryd.prog [] noSpecs 50 B18 ⟨initT [i64 x, i64 n] 0 .nil, Tryd.f18.ntmps, M⟩ [tru 7, tru 14] 0).map (fun r => (r.1.1, r.1.2.M, aresults Tryd.prog Tryd.f18 r.1.2, r.2.2.2.map (view noDoors []))) =
    some (.ret, M, some (i64 (IntKind.wrap .i64 (x.tmod n + n))), [.nz n, .b (decide (x.tmod n < 0)) (.val (.bool true))]) := by kernel_rfl
theorem run18b (x n : Int) (M : Mem) : (hexec Tryd.prog [] noSpecs 50 B18 ⟨initT [i64 x, i64 n] 0 .nil, Tryd.f18.ntmps, M⟩ [tru 7, fls 14] 0).map (fun r => (r.1.1, r.1.2.M, aresults Tryd.prog Tryd.f18 r.1.2, r.2.2.2.map (view noDoors []))) =
    some (.ret, M, some (i64 (x.tmod n)), [.nz n, .b (decide (x.tmod n < 0)) (.val (.bool false))]) := by kernel_rfl
def g18 (args : List Value) (M : Mem) : Option (Value × Mem) :=
  match args with
  | [.int .i64 x, .int .i64 n] => bif decide (0 < n) && decide (n < 2 ^ 62) then some (i64 (modI x n), M) else none
  | _ => none
theorem arun18 (x n : Int) (M : Mem) (hn : 0 < n) (hn2 : n < 2 ^ 62) : arun Tryd.prog [] noSpecs 50 18 [i64 x, i64 n] M = some (i64 (modI x n), M) := by
  have hlt : x.tmod n < n := Int.tmod_lt_of_pos x hn
  have hgt : -n < x.tmod n := Int.lt_tmod_of_pos x hn
  have hne : n ≠ 0 := by omega
  by_cases h : x.tmod n < 0
  · obtain ⟨M', h1, h2⟩ := run_of (look := fun M => M) Tryd.func18 body18 (by kernel_rfl) (run18a x n M) (.inr rfl) (by
      intro p hp; simp only [List.mem_cons, List.not_mem_nil, or_false] at hp
      rcases hp with rfl | rfl
      · exact hne
      · simp [QV.holds, h])
    rw [h1, h2, IntWalk.i64_in _ (by omega)]
    unfold modI; rw [if_pos h]
  · obtain ⟨M', h1, h2⟩ := run_of (look := fun M => M) Tryd.func18 body18 (by kernel_rfl) (run18b x n M) (.inr rfl) (by
      intro p hp; simp only [List.mem_cons, List.not_mem_nil, or_false] at hp
      rcases hp with rfl | rfl
      · exact hne
      · simp [QV.holds, h])
    rw [h1, h2]
    unfold modI; rw [if_neg h]
theorem ok18 (B : Nat) : SpecOk Tryd.prog [] B 18 g18 := SpecOk.sub (SpecOk.arun noNumP mixedP SpecsOk.none 50 18) fun args M r h => by
  unfold g18 at h
  split at h
  · rename_i x n
    cases hb : (decide (0 < n) && decide (n < 2 ^ 62)) <;> rw [hb] at h <;> simp only [cond_true, cond_false] at h
    · cases h
    · cases h
      simp only [Bool.and_eq_true, decide_eq_true_eq] at hb
      exact arun18 x n M hb.1 hb.2
  · cases h
theorem call18 {SP : Specs} (hS : SP.calls 18 = some g18) (x n : Int) (hn : 0 < n) (hn2 : n < 2 ^ 62) (v : Int) (hv : modI x n = v) (M : Mem) : acall (onlySpecs SP) 18 [i64 x, i64 n] M = some (1, .val (i64 v), M) := by
  subst hv
  unfold acall onlySpecs viaSpecs
  rw [hS]
  have : (decide (0 < n) && decide (n < 2 ^ 62)) = true := by rw [decide_eq_true hn, decide_eq_true hn2]; rfl
  simp only [g18, this, cond_true]
  rfl
end Go.Proofs.YtlmifmodnkhidaaDoor

open Go Go.Am Go.Proofs
namespace Go.Proofs.YtlmifmodnkhidaaDoor
set_option maxRecDepth 10000

/- net.Walk -/
noncomputable def B24 : Code := Tryd.f24.body.get!
theorem body24 : Tryd.f24.body = some B24 := by kernel_rfl
/- The loop of a body, as it stands in block id. -/
def inner (id : Nat) : Nat → Code → Option Code
  | 0, _ => none
  | n + 1, .seq a b => match inner id n a with | some c => some c | none => inner id n b
  | n + 1, .block i b => bif Nat.beq i id then some b else inner id n b
  | n + 1, .loop b => inner id n b
  | n + 1, .cond _ a b => match inner id n a with | some c => some c | none => inner id n b
  | _, _ => none
def unloop : Code → Code
  | .loop b => b
  | c => c
noncomputable def loop24 : Code := unloop ((inner 0 100 B24).get!)

def sl (id n : Nat) : Value := .slice (some ⟨id, 0, none⟩) n n
abbrev ro (cs : List Value) (elem esz : Nat) : ABlk := ⟨cs, elem, esz, cs.length, false⟩
abbrev own (cs : List Value) (elem esz : Nat) : ABlk := ⟨cs, elem, esz, 0, true⟩
def blks24 (N : Int) (ne e0 e1 : Nat) (ec lc : List Value) (wb : List (Nat × ABlk)) : List (Nat × ABlk) := [(0, ro ec e0 4), (1, ro lc e1 1), (2, own [i64 N, sl 0 ne] 24 2)] ++ wb
def I24 (N tt : Int) (ne nl e0 e1 : Nat) (ec lc : List Value) (at' cost iv : Int) (wv : Value) (wb : List (Nat × ABlk)) : St :=
  ⟨tabT [(2, i64 tt), (4, .pointer (some ⟨2, 0, none⟩)), (8, i64 cost), (9, wv), (10, .bool false), (11, i64 at'), (28, sl 1 nl), (29, i64 nl), (30, i64 iv)], 72, ⟨blkTree (blks24 N ne e0 e1 ec lc wb), 4, [], []⟩⟩
noncomputable def SP24 : Specs := specs [(38, g38)]
def keep24 : List Nat := [2, 4, 8, 9, 10, 11, 28, 29, 30]
def mv24 (l : Moves) : Moves := [(0, 0, true), (1, 1, true), (2, 2, true)] ++ l
def edgeV (f t m c : Int) : Value := .agg ⟨[i64 f, i64 t, i64 m, i64 c]⟩
def fin24 (N tt : Int) (ne e0 e1 : Nat) (ec lc : List Value) (at' cost : Int) (wv : Value) (wb : List (Nat × ABlk)) : St :=
  ⟨tabT [(2, i64 tt), (8, i64 cost), (9, wv), (10, .bool false), (11, i64 at')], 72, ⟨blkTree (blks24 N ne e0 e1 ec lc wb), 10, [], []⟩⟩
def bad24 (N : Int) (ne e0 e1 : Nat) (ec lc : List Value) : St :=
  ⟨tabT [(8, i64 0), (9, .slice none 0 0), (10, .bool false)], 72, ⟨blkTree (blks24 N ne e0 e1 ec lc []), 10, [], []⟩⟩
noncomputable def rnd24 (s : St) (F : List Fact) (nx : Nat) (keep : List Nat) (l : Moves) :=
  (hexec Tryd.prog [] SP24 60 loop24 s F 0).map (fun r => (r.1.1, rebase 3 nx (mv24 l) keep [] [] r.1.2, stills r.1.2.M (mv24 l), Nat.ble r.1.2.M.next 10, r.2.2.2.map (view noDoors [])))
variable (N tt at' cost iv li f t m c : Int) (ne nl nw e0 e1 : Nat) (ec lc wc : List Value)
def q1 (b : Bool) : QV := .b (decide (iv < (nl : Int))) (.val (.bool b))
def q2 : List QV := [.ib iv nl, .ld 3 (0 + iv.toNat * 1) (some (ro lc e1 1)) (.val (i64 li))]
def q3 (b : Bool) : QV := .cr 38 [i64 li, i64 ne] [] (.val (.bool b))
def q4 : List QV := [.ib li ne, .ld 3 (0 + li.toNat * 4 + 0) (some (ro ec e0 4)) (.val (i64 f))]
def q5 (b : Bool) : QV := .b (f != at') (.val (.bool b))
def q6 : List QV := [.ib li ne, .ld 31 (0 + li.toNat * 4) (some (ro ec e0 4)) (.val (edgeV f t m c))]
def boxC : List Value := [i64 N, sl 0 ne]
theorem stepA : rnd24 (I24 N tt ne nl e0 e1 ec lc at' cost iv (.slice none 0 0) []) [tru 2, tru 4, got 6 (i64 li), got 18 (.bool true), tru 30, got 34 (i64 f), fls 41, tru 49, got 51 (edgeV f t m c)] 4 keep24 [(3, 6, true)] =
    some (.normal, some (I24 N tt ne nl e0 e1 ec lc t (IntKind.wrap .i64 (cost + c)) (IntKind.wrap .i64 (iv + 1)) (sl 3 1) [(3, own [i64 m] 3 1)]), [ec, lc, boxC N ne, [i64 m]], true,
      [q1 iv nl true] ++ q2 iv li nl e1 lc ++ [q3 li ne true] ++ q4 li f ne e0 ec ++ [q5 at' f false] ++ q6 li f t m c ne e0 ec) := by kernel_rfl
theorem stepB : rnd24 (I24 N tt ne nl e0 e1 ec lc at' cost iv (sl 3 nw) [(3, own wc 3 1)]) [tru 2, tru 4, got 6 (i64 li), got 18 (.bool true), tru 30, got 34 (i64 f), fls 41, tru 49, got 51 (edgeV f t m c), onto 81 wc] 4 keep24 [(3, 6, true)] =
    some (.normal, some (I24 N tt ne nl e0 e1 ec lc t (IntKind.wrap .i64 (cost + c)) (IntKind.wrap .i64 (iv + 1)) (sl 3 (nw + 1)) [(3, own (wc ++ [i64 m]) 3 1)]), [ec, lc, boxC N ne, wc ++ [i64 m]], true,
      [q1 iv nl true] ++ q2 iv li nl e1 lc ++ [q3 li ne true] ++ q4 li f ne e0 ec ++ [q5 at' f false] ++ q6 li f t m c ne e0 ec ++ [.ap [25, 25] (sl 3 nw) (.slice (some ⟨5, 0, none⟩) 1 2) wc (own wc 3 1) [i64 m]]) := by kernel_rfl
theorem stepBad1 (wv : Value) (wb : List (Nat × ABlk)) (hw : (wv = .slice none 0 0 ∧ wb = []) ∨ (wv = sl 3 nw ∧ wb = [(3, own wc 3 1)])) : rnd24 (I24 N tt ne nl e0 e1 ec lc at' cost iv wv wb) [tru 2, tru 4, got 6 (i64 li), got 18 (.bool false)] 10 [8, 9, 10] [] =
    some (.ret, some (bad24 N ne e0 e1 ec lc), [ec, lc, boxC N ne], true, [q1 iv nl true] ++ q2 iv li nl e1 lc ++ [q3 li ne false]) := by
  rcases hw with ⟨rfl, rfl⟩ | ⟨rfl, rfl⟩ <;> kernel_rfl
theorem stepBad2 (wv : Value) (wb : List (Nat × ABlk)) (hw : (wv = .slice none 0 0 ∧ wb = []) ∨ (wv = sl 3 nw ∧ wb = [(3, own wc 3 1)])) : rnd24 (I24 N tt ne nl e0 e1 ec lc at' cost iv wv wb) [tru 2, tru 4, got 6 (i64 li), got 18 (.bool true), tru 30, got 34 (i64 f), tru 41] 10 [8, 9, 10] [] =
    some (.ret, some (bad24 N ne e0 e1 ec lc), [ec, lc, boxC N ne], true, [q1 iv nl true] ++ q2 iv li nl e1 lc ++ [q3 li ne true] ++ q4 li f ne e0 ec ++ [q5 at' f true]) := by
  rcases hw with ⟨rfl, rfl⟩ | ⟨rfl, rfl⟩ <;> kernel_rfl
theorem stepEndA : rnd24 (I24 N tt ne nl e0 e1 ec lc at' cost iv (.slice none 0 0) []) [fls 2] 10 [2, 8, 9, 10, 11] [] =
    some (.exit 0, some (fin24 N tt ne e0 e1 ec lc at' cost (.slice none 0 0) []), [ec, lc, boxC N ne], true, [q1 iv nl false]) := by kernel_rfl
theorem stepEndB : rnd24 (I24 N tt ne nl e0 e1 ec lc at' cost iv (sl 3 nw) [(3, own wc 3 1)]) [fls 2] 10 [2, 8, 9, 10, 11] [(3, 3, true)] =
    some (.exit 0, some (fin24 N tt ne e0 e1 ec lc at' cost (sl 3 nw) [(3, own wc 3 1)]), [ec, lc, boxC N ne, wc], true, [q1 iv nl false]) := by kernel_rfl
end Go.Proofs.YtlmifmodnkhidaaDoor

open Go Go.Am Go.Proofs
namespace Go.Proofs.YtlmifmodnkhidaaDoor
set_option maxRecDepth 10000

structure E where
  f : Int
  t : Int
  m : Int
  c : Int
def ecOf : List E → List Value
  | [] => []
  | e :: l => i64 e.f :: i64 e.t :: i64 e.m :: i64 e.c :: ecOf l
def ints (l : List Int) : List Value := l.map i64

theorem ints_len (l : List Int) : (ints l).length = l.length := by simp [ints]
theorem ints_flat : ∀ (l : List Int), flatL (ints l) = true
  | [] => rfl
  | _ :: l => by simp only [ints, List.map_cons, flatL, flat, Bool.true_and]; exact ints_flat l
theorem ints_get {l : List Int} {i : Nat} {z : Int} (h : l[i]? = some z) : (ints l)[i]? = some (i64 z) := by simp [ints, h]
theorem ecOf_len : ∀ (l : List E), (ecOf l).length = l.length * 4
  | [] => rfl
  | _ :: l => by simp only [ecOf, List.length_cons, ecOf_len l]; omega
theorem ecOf_flat : ∀ (l : List E), flatL (ecOf l) = true
  | [] => rfl
  | _ :: l => by simp only [ecOf, flatL, flat, Bool.true_and]; exact ecOf_flat l
theorem ecOf_drop : ∀ {l : List E} {k : Nat} {e : E}, l[k]? = some e → ∃ r, (ecOf l).drop (k * 4) = i64 e.f :: i64 e.t :: i64 e.m :: i64 e.c :: r
  | [], _, _, h => by simp at h
  | e :: l, 0, _, h => by simp at h; subst h; exact ⟨ecOf l, rfl⟩
  | e :: l, k + 1, _, h => by
    obtain ⟨r, hr⟩ := ecOf_drop (l := l) (k := k) (by simpa using h)
    refine ⟨r, ?_⟩
    rw [show (k + 1) * 4 = k * 4 + 1 + 1 + 1 + 1 by omega]
    simpa [ecOf] using hr
theorem ecOf_get {l : List E} {k : Nat} {e : E} (h : l[k]? = some e) : (ecOf l)[k * 4]? = some (i64 e.f) := by
  obtain ⟨r, hr⟩ := ecOf_drop h
  have : ((ecOf l).drop (k * 4))[0]? = some (i64 e.f) := by rw [hr]; rfl
  simpa using this

theorem ld3 (off : Nat) (b : ABlk) : aloadB Tryd.prog 3 off (some b) = b.cs[off]? := by kernel_rfl
theorem ld31 (off : Nat) (b : ABlk) : aloadB Tryd.prog 31 off (some b) = match takeN 4 (b.cs.drop off) with | some l => some (.agg l.toArray) | none => none := by kernel_rfl

/- The walk, by itself. -/
def go (es : List E) : List Int → Int → Int → List Int → Option (Int × Int × List Int)
  | [], a, c, ws => some (a, c, ws)
  | i :: l, a, c, ws => if 0 ≤ i ∧ i < es.length then match es[i.toNat]? with
      | some e => if e.f = a then go es l e.t (IntKind.wrap .i64 (c + e.c)) (ws ++ [e.m]) else none
      | none => none
    else none

def wordV (ws : List Int) : Value := match ws with | [] => .slice none 0 0 | _ :: _ => sl 3 ws.length
def wordB (ws : List Int) : List (Nat × ABlk) := match ws with | [] => [] | _ :: _ => [(3, own (ints ws) 3 1)]

theorem info3 : ∃ e, Tryd.prog.info? 3 = some e ∧ e.size = 1 ∧ e.bytes ≤ 1024 ∧ zeroOk e = true := ⟨_, rfl, by kernel_rfl, of_decide_eq_true (by kernel_rfl), by kernel_rfl⟩
theorem ap25 {id nw n : Nat} {x : Value} {ws : List Int} {new : List Value} (hx : lenV x = some n) (hn : n ≠ 0) (hl : ws.length = nw) (hroom : nw + n ≤ 2 ^ 30) (hnew : new.all isCell = true) (hlen : new.length = n) (M : Mem) (r : Nat × AR × Mem)
    (h : appIn Tryd.prog [25, 25] (sl id nw) x M (ints ws) = some (own (ints ws) 3 1, new, r)) : aappend Tryd.prog [25, 25] (sl id nw) x M = some r := by
  obtain ⟨e, h1, h2, h3, h4⟩ := info3
  exact ap_ok (P := Tryd.prog) (sT := 25) (xT := 25) (elem := 3) (xd := .slice 3) (e := e) Tryd.underlying25 Tryd.underlying25 rfl h1 hx hn rfl (by rw [h2]; exact takeN_all (by simp [ints_len, hl])) (roomy_ok (by omega) h3 h4 hroom) hnew (by rw [h2, hlen]; simp) h2.symm rfl rfl rfl M r h

abbrev D24 := Nat × Int × Int × List Int
def S24 (N tt : Int) (e0 e1 : Nat) (es : List E) (ls : List Int) (d : D24) : St :=
  I24 N tt es.length ls.length e0 e1 (ecOf es) (ints ls) d.2.1 d.2.2.1 (d.1 : Int) (wordV d.2.2.2) (wordB d.2.2.2)
def end24 (N tt : Int) (e0 e1 : Nat) (es : List E) (ls : List Int) : Option (Int × Int × List Int) → AExit × St
  | some (a, c, ws) => (.exit 0, fin24 N tt es.length e0 e1 (ecOf es) (ints ls) a c (wordV ws) (wordB ws))
  | none => (.ret, bad24 N es.length e0 e1 (ecOf es) (ints ls))

theorem still_mem {mv : Moves} {l : List (List Value)} (h : ∀ x ∈ l, flatL x = true ∨ renL mv x = some x) : ∀ x ∈ l, renL mv x = some x := fun x hx => (h x hx).elim (renL_flat mv x) id

theorem q1_ok {SP : Specs} {iv : Int} {nl : Nat} {b : Bool} (h : decide (iv < (nl : Int)) = b) : (q1 iv nl b).holds Tryd.prog SP noDoors [] := by subst h; rfl
theorem q2_ok {SP : Specs} {i : Nat} {li : Int} {ls : List Int} {e1 : Nat} (h : ls[i]? = some li) : ∀ p ∈ q2 (i : Int) li ls.length e1 (ints ls), p.holds Tryd.prog SP noDoors [] := by
  have hlt : i < ls.length := by
    by_cases hh : i < ls.length
    · exact hh
    · rw [List.getElem?_eq_none (by omega)] at h; cases h
  intro p hp
  simp only [q2, List.mem_cons, List.not_mem_nil, or_false] at hp
  rcases hp with rfl | rfl
  · simp only [QV.holds, inB, Bool.and_eq_true, decide_eq_true_eq]; omega
  · exact ⟨_, rfl, by rw [ld3]; simpa using ints_get h⟩
theorem q4_ok {SP : Specs} {li : Int} {es : List E} {e : E} {e0 : Nat} (h0 : 0 ≤ li) (h1 : li < es.length) (h : es[li.toNat]? = some e) : ∀ p ∈ q4 li e.f es.length e0 (ecOf es), p.holds Tryd.prog SP noDoors [] := by
  intro p hp
  simp only [q4, List.mem_cons, List.not_mem_nil, or_false] at hp
  rcases hp with rfl | rfl
  · simp only [QV.holds, inB, Bool.and_eq_true, decide_eq_true_eq]; omega
  · exact ⟨_, rfl, by rw [ld3]; simpa using ecOf_get h⟩
theorem q6_ok {SP : Specs} {li : Int} {es : List E} {e : E} {e0 : Nat} (h0 : 0 ≤ li) (h1 : li < es.length) (h : es[li.toNat]? = some e) : ∀ p ∈ q6 li e.f e.t e.m e.c es.length e0 (ecOf es), p.holds Tryd.prog SP noDoors [] := by
  intro p hp
  simp only [q6, List.mem_cons, List.not_mem_nil, or_false] at hp
  rcases hp with rfl | rfl
  · simp only [QV.holds, inB, Bool.and_eq_true, decide_eq_true_eq]; omega
  · obtain ⟨r, hr⟩ := ecOf_drop h
    refine ⟨_, rfl, ?_⟩
    rw [ld31, Nat.zero_add, hr]
    rfl
theorem q3_ok {li : Int} {ne : Nat} {b : Bool} (h : (decide (0 ≤ li) && decide (li < (ne : Int))) = b) : (q3 li ne b).holds Tryd.prog SP24 noDoors [] :=
  fun M _ => call38 rfl li ne b h M
theorem q5_ok {SP : Specs} {f at' : Int} {b : Bool} (h : (f != at') = b) : (q5 at' f b).holds Tryd.prog SP noDoors [] := by subst h; rfl
theorem specs24 (B : Nat) : SpecsOk Tryd.prog [] B SP24 := specs_ok fun p hp => by
  simp only [List.mem_singleton] at hp
  subst hp
  exact ok38 B

theorem box_still (mv : Moves) (N : Int) (ne : Nat) (h : toTgt mv 0 = some 0) : renL mv (boxC N ne) = some (boxC N ne) := by
  simp [boxC, renL, renV, leaf, sl, renAddr, h]

theorem step24 (N tt : Int) (e0 e1 : Nat) (es : List E) (ls : List Int) (hls : ls.length ≤ 2 ^ 30 - 1) (R : Option (Int × Int × List Int)) (B : Nat) (d : D24) (hd : d.1 ≤ ls.length ∧ go es (ls.drop d.1) d.2.1 d.2.2.1 d.2.2.2 = R ∧ d.2.2.2.length = d.1) :
    ∃ SP n s1, SpecsOk Tryd.prog [] B SP ∧ s1.M.next ≤ 10 ∧
      ((∃ nx mv keep d', aexec Tryd.prog [] SP n loop24 (S24 N tt e0 e1 es ls d) = some (.normal, s1) ∧ View 3 nx mv keep [] [] s1 (S24 N tt e0 e1 es ls d') ∧ (d'.1 ≤ ls.length ∧ go es (ls.drop d'.1) d'.2.1 d'.2.2.1 d'.2.2.2 = R ∧ d'.2.2.2.length = d'.1) ∧ ls.length - d'.1 < ls.length - d.1) ∨
        (∃ mv keep, aexec Tryd.prog [] SP n loop24 (S24 N tt e0 e1 es ls d) = some ((end24 N tt e0 e1 es ls R).1, s1) ∧ View 3 10 mv keep [] [] s1 (end24 N tt e0 e1 es ls R).2)) := by
  obtain ⟨i, a, c, ws⟩ := d
  obtain ⟨h1, h2, h3⟩ := hd
  simp only at h1 h2 h3
  have hwv : (wordV ws = .slice none 0 0 ∧ wordB ws = []) ∨ (wordV ws = sl 3 ws.length ∧ wordB ws = [(3, own (ints ws) 3 1)]) := by
    cases ws with
    | nil => exact .inl ⟨rfl, rfl⟩
    | cons x l => exact .inr ⟨rfl, rfl⟩
  have fl3 : ∀ mv : Moves, toTgt mv 0 = some 0 → ∀ l ∈ [ecOf es, ints ls, boxC N es.length], renL mv l = some l := fun mv hmv l hl => by
    simp only [List.mem_cons, List.not_mem_nil, or_false] at hl
    rcases hl with rfl | rfl | rfl
    · exact renL_flat _ _ (ecOf_flat es)
    · exact renL_flat _ _ (ints_flat ls)
    · exact box_still _ _ _ hmv
  have fl4 : ∀ (mv : Moves) (x : List Int), toTgt mv 0 = some 0 → ∀ l ∈ [ecOf es, ints ls, boxC N es.length, ints x], renL mv l = some l := fun mv x hmv l hl => by
    simp only [List.mem_cons, List.not_mem_nil, or_false] at hl
    rcases hl with rfl | rfl | rfl | rfl
    · exact renL_flat _ _ (ecOf_flat es)
    · exact renL_flat _ _ (ints_flat ls)
    · exact box_still _ _ _ hmv
    · exact renL_flat _ _ (ints_flat x)
  by_cases hi : i < ls.length
  · obtain ⟨li, hli⟩ : ∃ li, ls[i]? = some li := ⟨ls[i], List.getElem?_eq_getElem hi⟩
    have hdrop : ls.drop i = li :: ls.drop (i + 1) := by
      rw [List.drop_eq_getElem_cons hi]
      rw [List.getElem?_eq_getElem hi] at hli
      cases hli; rfl
    rw [hdrop] at h2
    unfold go at h2
    have hq1 : ∀ p ∈ [q1 (i : Int) ls.length true], p.holds Tryd.prog SP24 noDoors [] := fun p hp => by
      rw [List.mem_singleton.1 hp]; exact q1_ok (by simp; omega)
    by_cases hr : 0 ≤ li ∧ li < es.length
    · rw [if_pos hr] at h2
      have hq3 : ∀ p ∈ [q3 li es.length true], p.holds Tryd.prog SP24 noDoors [] := fun p hp => by
        rw [List.mem_singleton.1 hp]; exact q3_ok (by simp [hr.1, hr.2])
      obtain ⟨e, he⟩ : ∃ e, es[li.toNat]? = some e := ⟨es[li.toNat]'(by omega), List.getElem?_eq_getElem (by omega)⟩
      rw [he] at h2
      simp only at h2
      by_cases hf : e.f = a
      · rw [if_pos hf] at h2
        have hq5 : ∀ p ∈ [q5 a e.f false], p.holds Tryd.prog SP24 noDoors [] := fun p hp => by
          rw [List.mem_singleton.1 hp]; exact q5_ok (by simp [hf])
        have hiv : IntKind.wrap .i64 ((i : Int) + 1) = ((i + 1 : Nat) : Int) := by rw [IntWalk.i64_in _ (by omega)]; omega
        have hw' : wordV (ws ++ [e.m]) = sl 3 (ws.length + 1) ∧ wordB (ws ++ [e.m]) = [(3, own (ints ws ++ [i64 e.m]) 3 1)] := by
          cases ws <;> simp [wordV, wordB, ints]
        rcases hwv with ⟨v1, v2⟩ | ⟨v1, v2⟩
        · have hnil : ws = [] := by cases ws with
            | nil => rfl
            | cons x l => simp [wordV, sl] at v1
          subst hnil
          have hs := stepA N tt a c i li e.f e.t e.m e.c es.length ls.length e0 e1 (ecOf es) (ints ls)
          unfold rnd24 at hs
          obtain ⟨s1, k1, k2, k3⟩ := round_of (doors := noDoors) (ids := []) hs (by
            intro p hp
            simp only [List.mem_append] at hp
            rcases hp with ((((hp | hp) | hp) | hp) | hp) | hp
            · exact hq1 p hp
            · exact q2_ok hli p hp
            · exact hq3 p hp
            · exact q4_ok hr.1 hr.2 he p hp
            · exact hq5 p hp
            · exact q6_ok hr.1 hr.2 he p hp) (fl4 _ [e.m] rfl)
          rw [hiv] at k3
          exact ⟨SP24, 60, s1, specs24 B, k1, .inl ⟨4, _, keep24, (i + 1, e.t, IntKind.wrap .i64 (c + e.c), [e.m]), k2, k3, ⟨by simp only; omega, h2, by simp at h3; simp; omega⟩, by simp only; omega⟩⟩
        · have hs := stepB N tt a c i li e.f e.t e.m e.c es.length ls.length ws.length e0 e1 (ecOf es) (ints ls) (ints ws)
          unfold rnd24 at hs
          obtain ⟨s1, k1, k2, k3⟩ := round_of (doors := noDoors) (ids := []) hs (by
            intro p hp
            simp only [List.mem_append] at hp
            rcases hp with (((((hp | hp) | hp) | hp) | hp) | hp) | hp
            · exact hq1 p hp
            · exact q2_ok hli p hp
            · exact hq3 p hp
            · exact q4_ok hr.1 hr.2 he p hp
            · exact hq5 p hp
            · exact q6_ok hr.1 hr.2 he p hp
            · rw [List.mem_singleton.1 hp]
              exact fun M r hM => ap25 (n := 1) rfl (by decide) rfl (by omega) rfl rfl M r hM) (by
            have := fl4 (mv24 [(3, 6, true)]) (ws ++ [e.m]) rfl
            simpa [ints] using this)
          rw [hiv] at k3
          rw [← v1, ← v2] at k2
          rw [← hw'.1, ← hw'.2] at k3
          exact ⟨SP24, 60, s1, specs24 B, k1, .inl ⟨4, _, keep24, (i + 1, e.t, IntKind.wrap .i64 (c + e.c), ws ++ [e.m]), k2, k3, ⟨by simp only; omega, h2, by simp; omega⟩, by simp only; omega⟩⟩
      · rw [if_neg hf] at h2
        subst h2
        have hs := stepBad2 N tt a c i li e.f es.length ls.length ws.length e0 e1 (ecOf es) (ints ls) (ints ws) (wordV ws) (wordB ws) hwv
        unfold rnd24 at hs
        obtain ⟨s1, k1, k2, k3⟩ := round_of (doors := noDoors) (ids := []) hs (by
            intro p hp
            simp only [List.mem_append] at hp
            rcases hp with (((hp | hp) | hp) | hp) | hp
            · exact hq1 p hp
            · exact q2_ok hli p hp
            · exact hq3 p hp
            · exact q4_ok hr.1 hr.2 he p hp
            · rw [List.mem_singleton.1 hp]; exact q5_ok (by simp [hf])) (fl3 _ rfl)
        exact ⟨SP24, 60, s1, specs24 B, k1, .inr ⟨_, _, k2, k3⟩⟩
    · rw [if_neg hr] at h2
      subst h2
      have hs := stepBad1 N tt a c i li es.length ls.length ws.length e0 e1 (ecOf es) (ints ls) (ints ws) (wordV ws) (wordB ws) hwv
      unfold rnd24 at hs
      obtain ⟨s1, k1, k2, k3⟩ := round_of (doors := noDoors) (ids := []) hs (by
          intro p hp
          simp only [List.mem_append] at hp
          rcases hp with (hp | hp) | hp
          · exact hq1 p hp
          · exact q2_ok hli p hp
          · rw [List.mem_singleton.1 hp]
            refine q3_ok ?_
            rw [Bool.and_eq_false_iff]
            simp only [decide_eq_false_iff_not]
            omega) (fl3 _ rfl)
      exact ⟨SP24, 60, s1, specs24 B, k1, .inr ⟨_, _, k2, k3⟩⟩
  · have hd0 : ls.drop i = [] := List.drop_eq_nil_of_le (by omega)
    rw [hd0] at h2
    unfold go at h2
    subst h2
    have hq1 : ∀ p ∈ [q1 (i : Int) ls.length false], p.holds Tryd.prog SP24 noDoors [] := fun p hp => by
      rw [List.mem_singleton.1 hp]; exact q1_ok (by simp; omega)
    rcases hwv with ⟨v1, v2⟩ | ⟨v1, v2⟩
    · have hs := stepEndA N tt a c i es.length ls.length e0 e1 (ecOf es) (ints ls)
      unfold rnd24 at hs
      obtain ⟨s1, k1, k2, k3⟩ := round_of (doors := noDoors) (ids := []) hs hq1 (fl3 _ rfl)
      rw [← v1, ← v2] at k2 k3
      exact ⟨SP24, 60, s1, specs24 B, k1, .inr ⟨_, _, k2, k3⟩⟩
    · have hs := stepEndB N tt a c i es.length ls.length ws.length e0 e1 (ecOf es) (ints ls) (ints ws)
      unfold rnd24 at hs
      obtain ⟨s1, k1, k2, k3⟩ := round_of (doors := noDoors) (ids := []) hs hq1 (fl4 _ ws rfl)
      rw [← v1, ← v2] at k2 k3
      exact ⟨SP24, 60, s1, specs24 B, k1, .inr ⟨_, _, k2, k3⟩⟩

end Go.Proofs.YtlmifmodnkhidaaDoor

open Go Go.Am Go.Proofs
namespace Go.Proofs.YtlmifmodnkhidaaDoor
set_option maxRecDepth 10000

def door24 : Door := ⟨3, 4, mv24 [], keep24, [], []⟩
noncomputable def SPb24 (t : St) (r : AExit × St) : Specs := specsB [(38, g38)] [(0, loopG (.loop loop24) door24 t r)]
def args24 (N fr tt : Int) (ne nl : Nat) : List Value := [.agg ⟨[i64 N, sl 0 ne]⟩, i64 fr, i64 tt, sl 1 nl]
def mem24 (e0 e1 : Nat) (ec lc : List Value) : Mem := startMem [(0, ro ec e0 4), (1, ro lc e1 1)] 2
noncomputable def run24 (SP : Specs) (N fr tt : Int) (ne nl e0 e1 : Nat) (ec lc : List Value) (F : List Fact) (k : Nat) :=
  (hexec Tryd.prog [] SP 60 B24 ⟨initT (args24 N fr tt ne nl) 0 .nil, Tryd.f24.ntmps, mem24 e0 e1 ec lc⟩ F 0).map (fun r => (r.1.1, r.1.2.M.get k, aresults Tryd.prog Tryd.f24 r.1.2, r.2.2.2.map (view (fun _ => door24) [])))
def noWalk : Value := .tuple ⟨[i64 0, .slice none 0 0, .bool false]⟩
variable (N fr tt at' cost : Int) (ne nl nw e0 e1 : Nat) (ec lc wc : List Value) (t : St) (r : AExit × St)
theorem run24a : run24 (SPb24 t r) N fr tt ne nl e0 e1 ec lc [got 15 (.bool false)] 3 = some (.ret, none, some noWalk, [.cr 38 [i64 fr, i64 N] [] (.val (.bool false))]) := by kernel_rfl
theorem run24b : run24 (SPb24 t r) N fr tt ne nl e0 e1 ec lc [got 15 (.bool true), got 27 (.bool false)] 3 = some (.ret, none, some noWalk, [.cr 38 [i64 fr, i64 N] [] (.val (.bool true)), .cr 38 [i64 tt, i64 N] [] (.val (.bool false))]) := by kernel_rfl
noncomputable def qIn (e : AExit) (s : St) : List QV := [.cr 38 [i64 fr, i64 N] [] (.val (.bool true)), .cr 38 [i64 tt, i64 N] [] (.val (.bool true)), .bk 0 (.loop loop24) 3 [] (some (I24 N tt ne nl e0 e1 ec lc fr 0 0 (.slice none 0 0) [])) [ec, lc, boxC N ne] true e s]
theorem run24c : run24 (SPb24 t r) N fr tt ne nl e0 e1 ec lc [got 15 (.bool true), got 27 (.bool true), past 43 .ret (bad24 N ne e0 e1 ec lc)] 3 =
    some (.ret, none, some noWalk, qIn N fr tt ne nl e0 e1 ec lc .ret (bad24 N ne e0 e1 ec lc)) := by kernel_rfl
theorem run24d (wv : Value) (wb : List (Nat × ABlk)) (hw : (wv = .slice none 0 0 ∧ wb = []) ∨ (wv = sl 3 nw ∧ wb = [(3, own wc 3 1)])) : run24 (SPb24 t r) N fr tt ne nl e0 e1 ec lc [got 15 (.bool true), got 27 (.bool true), past 43 .normal (fin24 N tt ne e0 e1 ec lc at' cost wv wb), tru 50] 4 =
    some (.ret, none, some noWalk, qIn N fr tt ne nl e0 e1 ec lc .normal (fin24 N tt ne e0 e1 ec lc at' cost wv wb) ++ [.b (at' != tt) (.val (.bool true))]) := by
  rcases hw with ⟨rfl, rfl⟩ | ⟨rfl, rfl⟩ <;> kernel_rfl
theorem run24e : run24 (SPb24 t r) N fr tt ne nl e0 e1 ec lc [got 15 (.bool true), got 27 (.bool true), past 43 .normal (fin24 N tt ne e0 e1 ec lc at' cost (.slice none 0 0) []), fls 50] 3 =
    some (.ret, none, some (.tuple ⟨[i64 cost, .slice none 0 0, .bool true]⟩), qIn N fr tt ne nl e0 e1 ec lc .normal (fin24 N tt ne e0 e1 ec lc at' cost (.slice none 0 0) []) ++ [.b (at' != tt) (.val (.bool false))]) := by kernel_rfl
theorem run24f : run24 (SPb24 t r) N fr tt ne nl e0 e1 ec lc [got 15 (.bool true), got 27 (.bool true), past 43 .normal (fin24 N tt ne e0 e1 ec lc at' cost (sl 3 nw) [(3, own wc 3 1)]), fls 50] 3 =
    some (.ret, some (own wc 3 1), some (.tuple ⟨[i64 cost, sl 3 nw, .bool true]⟩), qIn N fr tt ne nl e0 e1 ec lc .normal (fin24 N tt ne e0 e1 ec lc at' cost (sl 3 nw) [(3, own wc 3 1)]) ++ [.b (at' != tt) (.val (.bool false))]) := by kernel_rfl
end Go.Proofs.YtlmifmodnkhidaaDoor

open Go Go.Am Go.Proofs
namespace Go.Proofs.YtlmifmodnkhidaaDoor
set_option maxRecDepth 10000

def walkR (N : Int) (es : List E) (fr tt : Int) (ls : List Int) : Option (Int × List Int) :=
  if (0 ≤ fr ∧ fr < N) ∧ 0 ≤ tt ∧ tt < N then match go es ls fr 0 [] with
    | some (a, c, ws) => if a = tt then some (c, ws) else none
    | none => none
  else none
def walkV (id : Nat) : Option (Int × List Int) → Value
  | none => noWalk
  | some (c, []) => .tuple ⟨[i64 c, .slice none 0 0, .bool true]⟩
  | some (c, w :: ws) => .tuple ⟨[i64 c, sl id (ws.length + 1), .bool true]⟩

theorem blk24 (N tt fr : Int) (e0 e1 : Nat) (es : List E) (ls : List Int) (hls : ls.length ≤ 2 ^ 30 - 1) (B : Nat) :
    BlkOk Tryd.prog [] B 0 (loopG (.loop loop24) door24 (S24 N tt e0 e1 es ls (0, fr, 0, [])) (blkEnd 0 (end24 N tt e0 e1 es ls (go es ls fr 0 [])).1, (end24 N tt e0 e1 es ls (go es ls fr 0 [])).2)) := by
  refine loopG_ok noNumP mixedP (S24 N tt e0 e1 es ls) (fun d => d.1 ≤ ls.length ∧ go es (ls.drop d.1) d.2.1 d.2.2.1 d.2.2.2 = go es ls fr 0 [] ∧ d.2.2.2.length = d.1) (fun d => ls.length - d.1) (K := 10) ?_ ⟨Nat.zero_le _, rfl, rfl⟩ (by decide) ?_ ?_ ?_ ?_ (step24 N tt e0 e1 es ls hls _ B)
  · cases go es ls fr 0 [] <;> simp [end24]
  · cases go es ls fr 0 [] <;> rfl
  · cases go es ls fr 0 [] <;> rfl
  · cases go es ls fr 0 [] <;> rfl
  · intro id hid _
    have h0 : (S24 N tt e0 e1 es ls (0, fr, 0, [])).M.blks = blkTree (blks24 N es.length e0 e1 (ecOf es) (ints ls) []) := rfl
    rw [h0]
    have hall : ∀ wb, (wb = [] ∨ ∃ b, wb = [(3, b)]) → (blkTree (blks24 N es.length e0 e1 (ecOf es) (ints ls) wb)).get id = (blkTree (blks24 N es.length e0 e1 (ecOf es) (ints ls) [])).get id := by
      intro wb hwb
      have h3 : id = 0 ∨ id = 1 ∨ id = 2 := by have : id < 3 := hid; omega
      rcases hwb with rfl | ⟨b, rfl⟩
      · rfl
      · rcases h3 with rfl | rfl | rfl <;> rfl
    cases hg : go es ls fr 0 [] with
    | none => exact hall [] (.inl rfl)
    | some x =>
      obtain ⟨a, c, ws⟩ := x
      refine hall (wordB ws) ?_
      cases ws with
      | nil => exact .inl rfl
      | cons x l => exact .inr ⟨_, rfl⟩

theorem below_bool (i c : Int) : (decide (0 ≤ i) && decide (i < c)) = decide (0 ≤ i ∧ i < c) := by rw [Bool.decide_and]

theorem arun24 (N fr tt : Int) (e0 e1 : Nat) (es : List E) (ls : List Int) (hls : ls.length ≤ 2 ^ 30 - 1) : ∃ SP M', (∀ B, SpecsOk Tryd.prog [] B SP) ∧
    arun Tryd.prog [] SP 60 24 (args24 N fr tt es.length ls.length) (mem24 e0 e1 (ecOf es) (ints ls)) = some (walkV 3 (walkR N es fr tt ls), M') ∧
    ∀ c w ws, walkR N es fr tt ls = some (c, w :: ws) → M'.get 3 = some (own (ints (w :: ws)) 3 1) := by
  let t := S24 N tt e0 e1 es ls (0, fr, 0, [])
  let R := go es ls fr 0 []
  let r := (blkEnd 0 (end24 N tt e0 e1 es ls R).1, (end24 N tt e0 e1 es ls R).2)
  have hSP : ∀ B, SpecsOk Tryd.prog [] B (SPb24 t r) := fun B => specsB_ok (fun p hp => by
      simp only [List.mem_singleton] at hp; subst hp; exact ok38 B) (fun p hp => by
      simp only [List.mem_singleton] at hp; subst hp; exact blk24 N tt fr e0 e1 es ls hls B)
  have q38 : ∀ (i : Int) b, (decide (0 ≤ i) && decide (i < N)) = b → (QV.cr 38 [i64 i, i64 N] [] (.val (.bool b))).holds Tryd.prog (SPb24 t r) (fun _ => door24) [] := fun i b h M _ => call38 rfl i N b h M
  refine ⟨SPb24 t r, ?_⟩
  by_cases h1 : 0 ≤ fr ∧ fr < N
  · by_cases h2 : 0 ≤ tt ∧ tt < N
    · have hin : ∀ (e : AExit) (s : St), r = (e, s) → ∀ p ∈ qIn N fr tt es.length ls.length e0 e1 (ecOf es) (ints ls) e s, p.holds Tryd.prog (SPb24 t r) (fun _ => door24) [] := fun e s he p hp => by
        simp only [qIn, List.mem_cons, List.not_mem_nil, or_false] at hp
        rcases hp with rfl | rfl | rfl
        · exact q38 fr true (by rw [below_bool]; exact decide_eq_true h1)
        · exact q38 tt true (by rw [below_bool]; exact decide_eq_true h2)
        · refine ⟨t, by rw [← he]; rfl, rfl, rfl, rfl, fun l hl => ?_, rfl⟩
          simp only [List.mem_cons, List.not_mem_nil, or_false] at hl
          rcases hl with rfl | rfl | rfl
          · exact renL_flat _ _ (ecOf_flat es)
          · exact renL_flat _ _ (ints_flat ls)
          · exact box_still _ _ _ rfl
      cases hR : R with
      | none =>
        have hw : walkR N es fr tt ls = none := by unfold walkR; rw [if_pos ⟨h1, h2⟩]; show (match R with | some (a, c, ws) => _ | none => none) = none; rw [hR]
        have hx := run24c N fr tt es.length ls.length e0 e1 (ecOf es) (ints ls) t r
        unfold run24 at hx
        obtain ⟨M', k1, k2⟩ := run_of (look := fun M => M.get 3) Tryd.func24 body24 (by kernel_rfl) hx (.inr rfl) (hin _ _ (by show (blkEnd 0 (end24 N tt e0 e1 es ls R).1, (end24 N tt e0 e1 es ls R).2) = _; rw [hR]; rfl))
        exact ⟨M', hSP, by rw [hw]; exact k1, fun c w ws h => by rw [hw] at h; cases h⟩
      | some x =>
        obtain ⟨a, c, ws⟩ := x
        have hr : r = (.normal, fin24 N tt es.length e0 e1 (ecOf es) (ints ls) a c (wordV ws) (wordB ws)) := by show (blkEnd 0 (end24 N tt e0 e1 es ls R).1, (end24 N tt e0 e1 es ls R).2) = _; rw [hR]; rfl
        have hw : walkR N es fr tt ls = if a = tt then some (c, ws) else none := by unfold walkR; rw [if_pos ⟨h1, h2⟩]; show (match R with | some (a, c, ws) => if a = tt then some (c, ws) else none | none => none) = _; rw [hR]
        by_cases ha : a = tt
        · rw [if_pos ha] at hw
          have hb : (QV.b (a != tt) (.val (.bool false))).holds Tryd.prog (SPb24 t r) (fun _ => door24) [] := by simp [QV.holds, ha]
          cases ws with
          | nil =>
            have hx := run24e N fr tt a c es.length ls.length e0 e1 (ecOf es) (ints ls) t r
            unfold run24 at hx
            obtain ⟨M', k1, k2⟩ := run_of (look := fun M => M.get 3) Tryd.func24 body24 (by kernel_rfl) hx (.inr rfl) (fun p hp => by
              rcases List.mem_append.1 hp with hp | hp
              · exact hin _ _ hr p hp
              · rw [List.mem_singleton.1 hp]; exact hb)
            exact ⟨M', hSP, by rw [hw]; exact k1, fun c w ws h => by rw [hw] at h; cases h⟩
          | cons w ws =>
            have hx := run24f N fr tt a c es.length ls.length (ws.length + 1) e0 e1 (ecOf es) (ints ls) (ints (w :: ws)) t r
            unfold run24 at hx
            obtain ⟨M', k1, k2⟩ := run_of (look := fun M => M.get 3) Tryd.func24 body24 (by kernel_rfl) hx (.inr rfl) (fun p hp => by
              rcases List.mem_append.1 hp with hp | hp
              · exact hin _ _ hr p hp
              · rw [List.mem_singleton.1 hp]; exact hb)
            refine ⟨M', hSP, by rw [hw]; exact k1, fun c' w' ws' h => ?_⟩
            rw [hw] at h
            cases h
            exact k2
        · rw [if_neg ha] at hw
          have hb : (QV.b (a != tt) (.val (.bool true))).holds Tryd.prog (SPb24 t r) (fun _ => door24) [] := by simp [QV.holds, ha]
          have hwv : (wordV ws = .slice none 0 0 ∧ wordB ws = []) ∨ (wordV ws = sl 3 ws.length ∧ wordB ws = [(3, own (ints ws) 3 1)]) := by
            cases ws with
            | nil => exact .inl ⟨rfl, rfl⟩
            | cons x l => exact .inr ⟨rfl, rfl⟩
          have hx := run24d N fr tt a c es.length ls.length ws.length e0 e1 (ecOf es) (ints ls) (ints ws) t r (wordV ws) (wordB ws) hwv
          unfold run24 at hx
          obtain ⟨M', k1, k2⟩ := run_of (look := fun M => M.get 4) Tryd.func24 body24 (by kernel_rfl) hx (.inr rfl) (fun p hp => by
            rcases List.mem_append.1 hp with hp | hp
            · exact hin _ _ hr p hp
            · rw [List.mem_singleton.1 hp]; exact hb)
          exact ⟨M', hSP, by rw [hw]; exact k1, fun c w ws h => by rw [hw] at h; cases h⟩
    · have hw : walkR N es fr tt ls = none := by unfold walkR; rw [if_neg (fun h => h2 h.2)]
      have hx := run24b N fr tt es.length ls.length e0 e1 (ecOf es) (ints ls) t r
      unfold run24 at hx
      obtain ⟨M', k1, k2⟩ := run_of (look := fun M => M.get 3) Tryd.func24 body24 (by kernel_rfl) hx (.inr rfl) (fun p hp => by
        simp only [List.mem_cons, List.not_mem_nil, or_false] at hp
        rcases hp with rfl | rfl
        · exact q38 fr true (by rw [below_bool]; exact decide_eq_true h1)
        · exact q38 tt false (by rw [below_bool]; exact decide_eq_false h2))
      exact ⟨M', hSP, by rw [hw]; exact k1, fun c w ws h => by rw [hw] at h; cases h⟩
  · have hw : walkR N es fr tt ls = none := by unfold walkR; rw [if_neg (fun h => h1 h.1)]
    have hx := run24a N fr tt es.length ls.length e0 e1 (ecOf es) (ints ls) t r
    unfold run24 at hx
    obtain ⟨M', k1, k2⟩ := run_of (look := fun M => M.get 3) Tryd.func24 body24 (by kernel_rfl) hx (.inr rfl) (fun p hp => by
      simp only [List.mem_cons, List.not_mem_nil, or_false] at hp
      subst hp
      exact q38 fr false (by rw [below_bool]; exact decide_eq_false h1))
    exact ⟨M', hSP, by rw [hw]; exact k1, fun c w ws h => by rw [hw] at h; cases h⟩

end Go.Proofs.YtlmifmodnkhidaaDoor

open Go Go.Am Go.Proofs
namespace Go.Proofs.YtlmifmodnkhidaaDoor
set_option maxRecDepth 10000

def ints? : List Value → Option (List Int)
  | [] => some []
  | .int .i64 z :: l => match ints? l with | some r => some (z :: r) | none => none
  | _ :: _ => none
def edges? : List Value → Option (List E)
  | [] => some []
  | .int .i64 f :: .int .i64 t :: .int .i64 m :: .int .i64 c :: l => match edges? l with | some r => some ((⟨f, t, m, c⟩ : E) :: r) | none => none
  | _ :: _ => none
theorem ints?_ints : ∀ (l : List Int), ints? (ints l) = some l
  | [] => rfl
  | z :: l => by show (match ints? (ints l) with | some r => some (z :: r) | none => none) = _; rw [ints?_ints l]
theorem edges?_ecOf : ∀ (l : List E), edges? (ecOf l) = some l
  | [] => rfl
  | e :: l => by show (match edges? (ecOf l) with | some r => some ((⟨e.f, e.t, e.m, e.c⟩ : E) :: r) | none => none) = _; rw [edges?_ecOf l]
theorem of_ints? : ∀ {l : List Value} {r : List Int}, ints? l = some r → l = ints r
  | [], r, h => by simp [ints?] at h; subst h; rfl
  | v :: l, r, h => by
    unfold ints? at h
    split at h
    · rename_i heq; cases heq
    · rename_i z l' heq
      cases heq
      split at h
      · rename_i r' hr
        cases h
        rw [of_ints? hr]; rfl
      · cases h
    · cases h
theorem of_edges? : ∀ {l : List Value} {r : List E}, edges? l = some r → l = ecOf r
  | [], r, h => by simp [edges?] at h; subst h; rfl
  | v :: l, r, h => by
    unfold edges? at h
    split at h
    · rename_i heq; cases heq
    · rename_i f t m c l' heq
      cases heq
      split at h
      · rename_i r' hr
        cases h
        rw [of_edges? hr]; rfl
      · cases h
    · cases h

def ok24b (A Bk : ABlk) (oa ob ne nl : Nat) (es : List E) (ls : List Int) : Bool :=
  Nat.beq es.length ne && Nat.beq ls.length nl && Nat.ble (oa + ne * 4) A.cs.length && Nat.ble (ob + nl) Bk.cs.length && Nat.ble nl (2 ^ 30 - 1) && Nat.beq A.esz 4 && Nat.beq Bk.esz 1
def out24 (M : Mem) : Option (Int × List Int) → Value × Mem
  | none => (noWalk, M)
  | some (c, []) => (.tuple ⟨[i64 c, .slice none 0 0, .bool true]⟩, M)
  | some (c, w :: ws) => (.tuple ⟨[i64 c, sl M.next (ws.length + 1), .bool true]⟩, M.alloc (own (ints (w :: ws)) 3 1))
def g24 (args : List Value) (M : Mem) : Option (Value × Mem) :=
  match args with
  | [.agg ⟨[.int .i64 N, .slice (some ⟨a, oa, none⟩) ne _]⟩, .int .i64 fr, .int .i64 tt, .slice (some ⟨b, ob, none⟩) nl _] =>
    match M.get a, M.get b with
    | some A, some Bk => match edges? ((A.cs.drop oa).take (ne * 4)), ints? ((Bk.cs.drop ob).take nl) with
      | some es, some ls => bif ok24b A Bk oa ob ne nl es ls then some (out24 M (walkR N es fr tt ls)) else none
      | _, _ => none
    | _, _ => none
  | _ => none

theorem take_get {l : List Value} {o n j : Nat} {u : Value} (h : ((l.drop o).take n)[j]? = some u) : l[o + j]? = some u := by
  rw [List.getElem?_take] at h
  split at h
  · rw [List.getElem?_drop] at h; exact h
  · cases h

theorem ok24 (B : Nat) : SpecOk Tryd.prog [] B 24 g24 := by
  refine SpecOk.ofStart noNumP mixedP fun args M v M' h => ?_
  unfold g24 at h
  split at h <;> try (cases h; done)
  rename_i N a oa ne ca fr tt b ob nl cb
  split at h <;> try (cases h; done)
  rename_i A Bk hA hB
  split at h <;> try (cases h; done)
  rename_i es ls hes hls
  cases hk : ok24b A Bk oa ob ne nl es ls <;> rw [hk] at h <;> simp only [cond_true, cond_false] at h
  · cases h
  unfold ok24b at hk
  simp only [Bool.and_eq_true] at hk
  obtain ⟨⟨⟨⟨⟨⟨k1, k2⟩, k3⟩, k4⟩, k5⟩, k6⟩, k7⟩ := hk
  have k1 := Nat.eq_of_beq_eq_true k1
  have k2 := Nat.eq_of_beq_eq_true k2
  have k3 := Nat.le_of_ble_eq_true k3
  have k4 := Nat.le_of_ble_eq_true k4
  have k5 := Nat.le_of_ble_eq_true k5
  have k6 := Nat.eq_of_beq_eq_true k6
  have k7 := Nat.eq_of_beq_eq_true k7
  have hA' := of_edges? hes
  have hB' := of_ints? hls
  subst k1; subst k2
  obtain ⟨SP, M0, hSP, hrun, hres⟩ := arun24 N fr tt A.elem Bk.elem es ls k5
  have hsh : ∃ v M', some (v, M') = some (out24 M (walkR N es fr tt ls)) ∧ ∃ res, (match res with
    | none => flat (walkV 3 (walkR N es fr tt ls)) = true ∧ v = walkV 3 (walkR N es fr tt ls) ∧ M' = M
    | some (i, rb) => 2 ≤ i ∧ M0.get i = some rb ∧ rb.app = true ∧ flatL rb.cs = true ∧ renV [(M.next, i, true)] (walkV 3 (walkR N es fr tt ls)) = some v ∧ M' = M.alloc rb) := by
    cases hw : walkR N es fr tt ls with
    | none => exact ⟨_, _, rfl, none, rfl, rfl, rfl⟩
    | some x =>
      obtain ⟨c, ws⟩ := x
      cases ws with
      | nil => exact ⟨_, _, rfl, none, rfl, rfl, rfl⟩
      | cons w ws => exact ⟨_, _, rfl, some (3, own (ints (w :: ws)) 3 1), by decide, hres c w ws hw, rfl, ints_flat _, rfl, rfl⟩
  obtain ⟨v1, M1, h1, res, h2⟩ := hsh
  rw [h] at h1
  cases h1
  refine ⟨[(0, ro (ecOf es) A.elem 4), (1, ro (ints ls) Bk.elem 1)], 60, SP, _, _, M0, [(a, oa), (b, ob)], res, hSP, hrun, fun p hp => ?_, fun φ φ0 args' hl ha => ?_, h2⟩
  · simp only [List.mem_cons, List.not_mem_nil, or_false] at hp
    rcases hp with rfl | rfl
    · refine ⟨rfl, rfl, ecOf_flat es, a, oa, A, rfl, hA, rfl, k6, by simp only [ecOf_len]; exact k3, fun j u hu => ?_⟩
      rw [show ecOf es = _ from hA'.symm] at hu
      exact take_get hu
    · refine ⟨rfl, rfl, ints_flat ls, b, ob, Bk, rfl, hB, rfl, k7, by simp only [ints_len]; exact k4, fun j u hu => ?_⟩
      rw [show ints ls = _ from hB'.symm] at hu
      exact take_get hu
  · cases ha with
    | cons h0 ha =>
      obtain ⟨x', rfl, g⟩ := h0.agg_inv
      cases ha with
      | cons h1 ha =>
        cases ha with
        | cons h2 ha =>
          cases ha with
          | cons h3 ha =>
            cases ha
            obtain rfl := h1.int_inv
            obtain rfl := h2.int_inv
            refine .cons ?_ (.cons (VRel.refl_flat _ _ rfl) (.cons (VRel.refl_flat _ _ rfl) (.cons (slice_lies hl rfl h3) .nil)))
            obtain ⟨x'⟩ := x'
            cases g with
            | cons g0 g =>
              cases g with
              | cons g1 g =>
                cases g
                obtain rfl := g0.int_inv
                exact .agg (.cons (VRel.refl_flat _ _ rfl) (.cons (slice_lies hl rfl g1) .nil))

theorem call24 {SP : Specs} (hS : SP.calls 24 = some g24) {N fr tt : Int} {a b ne nl ca cb : Nat} {A Bk : ABlk} {es : List E} {ls : List Int} (hA : A.cs = ecOf es) (hB : Bk.cs = ints ls) (h1 : es.length = ne) (h2 : ls.length = nl) (h3 : nl ≤ 2 ^ 30 - 1)
    (h4 : A.esz = 4) (h5 : Bk.esz = 1) {M : Mem} (hM : M.get a = some A) (hM2 : M.get b = some Bk) : onlySpecs SP 24 [.agg ⟨[i64 N, .slice (some ⟨a, 0, none⟩) ne ca]⟩, i64 fr, i64 tt, .slice (some ⟨b, 0, none⟩) nl cb] M = some (out24 M (walkR N es fr tt ls)) := by
  subst h1; subst h2
  unfold onlySpecs viaSpecs
  rw [hS]
  have e1 : edges? ((A.cs.drop 0).take (es.length * 4)) = some es := by
    rw [List.drop_zero, hA, ← ecOf_len, List.take_length]; exact edges?_ecOf es
  have e2 : ints? ((Bk.cs.drop 0).take ls.length) = some ls := by
    rw [List.drop_zero, hB, ← ints_len, List.take_length]; exact ints?_ints ls
  have e3 : ok24b A Bk 0 0 es.length ls.length es ls = true := by
    unfold ok24b
    rw [hA, hB, h4, h5, ecOf_len, ints_len, Nat.ble_eq_true_of_le h3, Nat.ble_eq_true_of_le (show 0 + es.length * 4 ≤ es.length * 4 by omega), Nat.ble_eq_true_of_le (show 0 + ls.length ≤ ls.length by omega), Nat.beq_refl, Nat.beq_refl]
    rfl
  show g24 _ M = _
  unfold g24
  simp only [hM, hM2, e1, e2, e3, cond_true]
end Go.Proofs.YtlmifmodnkhidaaDoor
