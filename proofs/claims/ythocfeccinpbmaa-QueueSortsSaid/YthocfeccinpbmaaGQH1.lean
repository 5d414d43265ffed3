/-
  QueueSorts: whatever the two rows, the call returns true, and its arguments read as they did.
-/
import Derived.Test.YthocfeccinpbmaaGSB
import Derived.Test.YthocfeccinpbmaaAmLib2
import Derived.Test.YthocfeccinpbmaaAmMut
open Go Go.Am Go.Proofs
namespace Go.Proofs.Ythocfeccinpbmaa
set_option maxRecDepth 100000

/- Entries: of each its id, its key. -/
abbrev En := Int × Int
def ents : List En → List Value
  | [] => []
  | e :: l => i64 e.1 :: i64 e.2 :: ents l
theorem ents_len : ∀ l : List En, (ents l).length = l.length * 2
  | [] => rfl
  | _ :: l => by simp only [ents, List.length_cons, ents_len l]; omega
theorem ents_flat : ∀ l : List En, flatL (ents l) = true
  | [] => rfl
  | _ :: l => by simp only [ents, flatL, flat, Bool.true_and]; exact ents_flat l
theorem ents_cells : ∀ l : List En, (ents l).all isCell = true
  | [] => rfl
  | _ :: l => by simp only [ents, List.all_cons, isCell, Bool.true_and]; exact ents_cells l
theorem ents_append : ∀ a b : List En, ents (a ++ b) = ents a ++ ents b
  | [], b => rfl
  | e :: a, b => by simp only [List.cons_append, ents, ents_append a b]
theorem ents_inj : ∀ {a b : List En}, ents a = ents b → a = b
  | [], [], _ => rfl
  | [], _ :: _, h => by simp [ents] at h
  | _ :: _, [], h => by simp [ents] at h
  | (x, y) :: a, (z, w) :: b, h => by
    simp only [ents, List.cons.injEq, Value.int.injEq, true_and] at h
    rw [h.1, h.2.1, ents_inj h.2.2]
theorem ints_inj {a b : List Int} (h : ints a = ints b) : a = b := by
  induction a generalizing b with
  | nil => cases b with
    | nil => rfl
    | cons y b => simp [ints] at h
  | cons x a ih => cases b with
    | nil => simp [ints] at h
    | cons y b =>
      simp only [ints, List.map_cons, List.cons.injEq, Value.int.injEq, true_and] at h
      rw [h.1, ih h.2]
theorem ents_drop : ∀ {l : List En} {k : Nat} {e : En}, l[k]? = some e → ∃ r, (ents l).drop (k * 2) = i64 e.1 :: i64 e.2 :: r
  | [], _, _, h => by simp at h
  | e :: l, 0, _, h => by simp at h; subst h; exact ⟨ents l, rfl⟩
  | e :: l, k + 1, _, h => by
    obtain ⟨r, hr⟩ := ents_drop (l := l) (k := k) (by simpa using h)
    refine ⟨r, ?_⟩
    rw [show (k + 1) * 2 = k * 2 + 1 + 1 by omega]
    simpa [ents] using hr
theorem ents_get0 {l : List En} {k : Nat} {e : En} (h : l[k]? = some e) : (ents l)[k * 2]? = some (i64 e.1) := by
  obtain ⟨r, hr⟩ := ents_drop h
  have : ((ents l).drop (k * 2))[0]? = some (i64 e.1) := by rw [hr]; rfl
  simpa using this
theorem ents_get1 {l : List En} {k : Nat} {e : En} (h : l[k]? = some e) : (ents l)[k * 2 + 1]? = some (i64 e.2) := by
  obtain ⟨r, hr⟩ := ents_drop h
  have : ((ents l).drop (k * 2))[1]? = some (i64 e.2) := by rw [hr]; rfl
  simpa using this
theorem ents_set : ∀ {l : List En} {k : Nat} {a b : Int}, k < l.length → splice (ents l) (k * 2) [i64 a, i64 b] = ents (l.set k (a, b))
  | [], _, _, _, h => absurd h (Nat.not_lt_zero _)
  | e :: l, 0, a, b, _ => by
    show splice (i64 e.1 :: i64 e.2 :: ents l) 0 [i64 a, i64 b] = i64 a :: i64 b :: ents l
    simp only [splice]
  | e :: l, k + 1, a, b, h => by
    rw [show (k + 1) * 2 = k * 2 + 1 + 1 by omega]
    show i64 e.1 :: i64 e.2 :: splice (ents l) (k * 2) [i64 a, i64 b] = i64 e.1 :: i64 e.2 :: ents (l.set k (a, b))
    rw [ents_set (by simpa using h)]
theorem ents_set1 : ∀ {l : List En} {k : Nat} {e : En} {b : Int}, l[k]? = some e → splice (ents l) (k * 2 + 1) [i64 b] = ents (l.set k (e.1, b))
  | [], _, _, _, h => by simp at h
  | e :: l, 0, _, b, h => by
    simp at h; subst h
    show i64 e.1 :: splice (i64 e.2 :: ents l) 0 [i64 b] = i64 e.1 :: i64 b :: ents l
    simp only [splice]
  | e :: l, k + 1, x, b, h => by
    rw [show (k + 1) * 2 + 1 = (k * 2 + 1) + 1 + 1 by omega]
    show i64 e.1 :: i64 e.2 :: splice (ents l) (k * 2 + 1) [i64 b] = i64 e.1 :: i64 e.2 :: ents (l.set k (x.1, b))
    rw [ents_set1 (by simpa using h)]

def fns : List Value := [.func (.func 24) ⟨[]⟩ ⟨[]⟩, .func (.func 25) ⟨[]⟩ ⟨[]⟩]
def lineB (r e pl n m : Nat) : ABlk := own [.iface 45 (.slice (some ⟨r, 0, none⟩) 2 3), sl e n, .slice (some ⟨pl, 0, none⟩) m (m + 1)] 52 3

/- A queue in the memory: whose entries are E, whose places are Pl. -/
structure QM (M : Mem) (p r e pl : Nat) (E : List En) (Pl : List Int) : Prop where
  line : M.get p = some (lineB r e pl E.length Pl.length)
  fn : M.get r = some (own fns 41 1)
  ent : M.get e = some (own (ents E) 43 2)
  plc : M.get pl = some (own (ints Pl) 3 1)
  dist : Go.Am.distinct [p, r, e, pl] = true

structure QX where
  p : Nat
  r : Nat
  e : Nat
  pl : Nat
  E : List En
  Pl : List Int
def QX.At (x : QX) (M : Mem) : Prop := QM M x.p x.r x.e x.pl x.E x.Pl

theorem QX.inj {x y : QX} {M : Mem} (hp : x.p = y.p) (hx : x.At M) (hy : y.At M) : x = y := by
  obtain ⟨p, r, e, pl, E, Pl⟩ := x
  obtain ⟨p', r', e', pl', E', Pl'⟩ := y
  simp only at hp
  subst hp
  have h1 : M.get p = _ := hx.line
  have h2 : M.get p = _ := hy.line
  rw [h1] at h2
  simp only [lineB, own, Option.some.injEq, ABlk.mk.injEq, List.cons.injEq, Value.iface.injEq, Value.slice.injEq, Addr.mk.injEq, and_true, true_and] at h2
  obtain ⟨rfl, ⟨rfl, _⟩, rfl, _⟩ := h2
  have h3 : M.get e = _ := hx.ent
  have h4 : M.get e = _ := hy.ent
  rw [h3] at h4
  simp only [own, Option.some.injEq, ABlk.mk.injEq, and_true] at h4
  have h5 : M.get pl = _ := hx.plc
  have h6 : M.get pl = _ := hy.plc
  rw [h5] at h6
  simp only [own, Option.some.injEq, ABlk.mk.injEq, and_true] at h6
  rw [ents_inj h4, ints_inj h6]

/- The same, by small numbers. -/
def small (E : List En) (Pl : List Int) : List (Nat × ABlk) := [(0, lineB 1 2 3 E.length Pl.length), (1, own fns 41 1), (2, own (ents E) 43 2), (3, own (ints Pl) 3 1)]

theorem fns_ren (mv : Moves) : renL mv fns = some fns := by rfl
theorem small_in {M : Mem} {x : QX} (h : x.At M) : ∀ q ∈ small x.E x.Pl, ∃ (a : Nat) (c : ABlk), [x.p, x.r, x.e, x.pl][q.1]? = some a ∧ M.get a = some c ∧ renL (mvIn 0 [x.p, x.r, x.e, x.pl]) c.cs = some q.2.cs ∧ c = { q.2 with cs := c.cs } := fun q hq => by
  simp only [small, List.mem_cons, List.not_mem_nil, or_false] at hq
  have t1 : toTgt (mvIn 0 [x.p, x.r, x.e, x.pl]) x.r = some 1 := toTgt_in (t := 1) h.dist rfl
  have t2 : toTgt (mvIn 0 [x.p, x.r, x.e, x.pl]) x.e = some 2 := toTgt_in (t := 2) h.dist rfl
  have t3 : toTgt (mvIn 0 [x.p, x.r, x.e, x.pl]) x.pl = some 3 := toTgt_in (t := 3) h.dist rfl
  rcases hq with rfl | rfl | rfl | rfl
  · refine ⟨_, _, rfl, h.line, ?_, rfl⟩
    simp only [lineB, own, renL, renV, renAddr, t1, t2, t3]
  · exact ⟨_, _, rfl, h.fn, fns_ren _, rfl⟩
  · exact ⟨_, _, rfl, h.ent, renL_flat _ _ (ents_flat _), rfl⟩
  · exact ⟨_, _, rfl, h.plc, renL_flat _ _ (ints_flat _), rfl⟩
theorem small_lt {M : Mem} {x : QX} (h : x.At M) : ∀ (j a : Nat), [x.p, x.r, x.e, x.pl][j]? = some a → a < M.next := fun j a hj => by
  match j, hj with
  | 0, hj => simp at hj; subst hj; exact (get_spec.1 h.line).1
  | 1, hj => simp at hj; subst hj; exact (get_spec.1 h.fn).1
  | 2, hj => simp at hj; subst hj; exact (get_spec.1 h.ent).1
  | 3, hj => simp at hj; subst hj; exact (get_spec.1 h.plc).1
  | n + 4, hj => simp at hj

/- Which of two entries is first. -/
def lessB (a b : En) : Bool := if a.2 = b.2 then decide (a.1 < b.1) else decide (a.2 < b.2)
end Go.Proofs.Ythocfeccinpbmaa

open Go Go.Am Go.Proofs
namespace Go.Proofs.Ythocfeccinpbmaa
set_option maxRecDepth 100000

/- Less(i, j) -/
noncomputable def B51 : Code := Try.f51.body.get!
theorem body51 : Try.f51.body = some B51 := by kernel_rfl
noncomputable def run51 (E : List En) (Pl : List Int) (i j : Nat) (F : List Fact) :=
  (xexec Try.prog [] noSpecs 100 B51 ⟨initT [pt 0 0, i64 (i : Int), i64 (j : Int)] 0 .nil, Try.f51.ntmps, startMem (small E Pl) 4⟩ F 0).map (fun r => (r.1.1, r.1.2.M.log, aresults Try.prog Try.f51 r.1.2, r.2.2.2.map (view noDoors [])))

theorem r510 (E : List En) (Pl : List Int) (i j : Nat) (a1 a2 b1 b2 : Int) : run51 E Pl i j [tru 21, got 23 (.agg ⟨[(i64 a1), (i64 a2)]⟩), tru 35, got 37 (.agg ⟨[(i64 b1), (i64 b2)]⟩), fls 107, fls 163] = some (.ret, [], some (.bool false), [.ib (((i : Nat) : Int)) E.length, .ld 43 (0 + (((i : Nat) : Int) : Int).toNat * 2) (some ⟨ents (E), 43, 2, 0, true⟩) (.val (.agg ⟨[(i64 a1), (i64 a2)]⟩)), .ib (((j : Nat) : Int)) E.length, .ld 43 (0 + (((j : Nat) : Int) : Int).toNat * 2) (some ⟨ents (E), 43, 2, 0, true⟩) (.val (.agg ⟨[(i64 b1), (i64 b2)]⟩)), .b (!(a2 == b2)) (.val (.bool false)), .b (!(a1 == b1)) (.val (.bool false))]) := by kernel_rfl
theorem r511 (E : List En) (Pl : List Int) (i j : Nat) (a1 a2 b1 b2 : Int) : run51 E Pl i j [tru 21, got 23 (.agg ⟨[(i64 a1), (i64 a2)]⟩), tru 35, got 37 (.agg ⟨[(i64 b1), (i64 b2)]⟩), fls 107, tru 163] = some (.ret, [], some (.bool (decide (a1 < b1))), [.ib (((i : Nat) : Int)) E.length, .ld 43 (0 + (((i : Nat) : Int) : Int).toNat * 2) (some ⟨ents (E), 43, 2, 0, true⟩) (.val (.agg ⟨[(i64 a1), (i64 a2)]⟩)), .ib (((j : Nat) : Int)) E.length, .ld 43 (0 + (((j : Nat) : Int) : Int).toNat * 2) (some ⟨ents (E), 43, 2, 0, true⟩) (.val (.agg ⟨[(i64 b1), (i64 b2)]⟩)), .b (!(a2 == b2)) (.val (.bool false)), .b (!(a1 == b1)) (.val (.bool true))]) := by kernel_rfl
theorem r512 (E : List En) (Pl : List Int) (i j : Nat) (a1 a2 b1 b2 : Int) : run51 E Pl i j [tru 21, got 23 (.agg ⟨[(i64 a1), (i64 a2)]⟩), tru 35, got 37 (.agg ⟨[(i64 b1), (i64 b2)]⟩), tru 107] = some (.ret, [], some (.bool (decide (a2 < b2))), [.ib (((i : Nat) : Int)) E.length, .ld 43 (0 + (((i : Nat) : Int) : Int).toNat * 2) (some ⟨ents (E), 43, 2, 0, true⟩) (.val (.agg ⟨[(i64 a1), (i64 a2)]⟩)), .ib (((j : Nat) : Int)) E.length, .ld 43 (0 + (((j : Nat) : Int) : Int).toNat * 2) (some ⟨ents (E), 43, 2, 0, true⟩) (.val (.agg ⟨[(i64 b1), (i64 b2)]⟩)), .b (!(a2 == b2)) (.val (.bool true))]) := by kernel_rfl
theorem ldE {SP : Specs} {D : Nat → Door} {ids : List Nat} {E : List En} {k : Nat} {e : En} (h : E[k]? = some e) : (QV.ld 43 (0 + ((k : Nat) : Int).toNat * 2) (some (own (ents E) 43 2)) (.val (.agg ⟨[i64 e.1, i64 e.2]⟩))).holds Try.prog SP D ids := by
  refine ⟨_, rfl, ?_⟩
  obtain ⟨r, hr⟩ := ents_drop h
  have ht : aloadB Try.prog 43 (0 + ((k : Nat) : Int).toNat * 2) (some (own (ents E) 43 2)) = match takeN 2 ((ents E).drop (0 + ((k : Nat) : Int).toNat * 2)) with | some l => some (.agg l.toArray) | none => none := by kernel_rfl
  rw [ht, Nat.zero_add, Int.toNat_natCast, hr]
  rfl
theorem arun51 (E : List En) (Pl : List Int) (i j : Nat) (a b : En) (hi : E[i]? = some a) (hj : E[j]? = some b) : ∃ M', Go.Am.arun Try.prog [] noSpecs 100 51 [pt 0 0, i64 (i : Int), i64 (j : Int)] (startMem (small E Pl) 4) = some (.bool (lessB a b), M') ∧ M'.log = [] := by
  have hn : Nat.ble 3 Try.f51.ntmps = true := by kernel_rfl
  have li : i < E.length := (List.getElem?_eq_some_iff.1 hi).1
  have lj : j < E.length := (List.getElem?_eq_some_iff.1 hj).1
  unfold lessB
  by_cases h2 : a.2 = b.2
  · rw [if_pos h2]
    by_cases h1 : a.1 = b.1
    · rw [decide_eq_false (by omega : ¬ a.1 < b.1)]
      have h := r510 E Pl i j a.1 a.2 b.1 b.2
      unfold run51 at h
      obtain ⟨M', h1, h2⟩ := xrun_of (look := fun M => M.log) Try.func51 body51 (by exact hn) h (.inr rfl) (hold_cons (qib (by omega)) (hold_cons (ldE hi) (hold_cons (qib (by omega)) (hold_cons (ldE hj) (hold_cons (qb (by simp <;> omega)) (hold_cons (qb (by simp <;> omega)) hold_nil))))))
      exact ⟨M', h1, h2⟩
    · have h := r511 E Pl i j a.1 a.2 b.1 b.2
      unfold run51 at h
      obtain ⟨M', h1, h2⟩ := xrun_of (look := fun M => M.log) Try.func51 body51 (by exact hn) h (.inr rfl) (hold_cons (qib (by omega)) (hold_cons (ldE hi) (hold_cons (qib (by omega)) (hold_cons (ldE hj) (hold_cons (qb (by simp <;> omega)) (hold_cons (qb (by simp <;> omega)) hold_nil))))))
      exact ⟨M', h1, h2⟩
  · rw [if_neg h2]
    have h := r512 E Pl i j a.1 a.2 b.1 b.2
    unfold run51 at h
    obtain ⟨M', h1, h2⟩ := xrun_of (look := fun M => M.log) Try.func51 body51 (by exact hn) h (.inr rfl) (hold_cons (qib (by omega)) (hold_cons (ldE hi) (hold_cons (qib (by omega)) (hold_cons (ldE hj) (hold_cons (qb (by simp <;> omega)) hold_nil)))))
    exact ⟨M', h1, h2⟩
structure LX where
  q : QX
  i : Nat
  j : Nat
def LD (x : LX) (args : List Value) (M : Mem) : Prop := x.q.At M ∧ args = [pt x.q.p 0, i64 (x.i : Int), i64 (x.j : Int)] ∧ x.i < x.q.E.length ∧ x.j < x.q.E.length
def lessOf (E : List En) (i j : Nat) : Bool := lessB (E.getD i (0, 0)) (E.getD j (0, 0))
def LR (x : LX) (_ : Mem) : Value × List (Nat × Option ABlk) × List ABlk := (.bool (lessOf x.q.E x.i x.j), [], [])
theorem LD.inj : ∀ args M (x y : LX), LD x args M → LD y args M → x = y := fun args M x y ⟨h1, h2, _, _⟩ ⟨k1, k2, _, _⟩ => by
  subst h2
  obtain ⟨q, i, j⟩ := x
  obtain ⟨q', i', j'⟩ := y
  simp only [List.cons.injEq, Value.pointer.injEq, Option.some.injEq, Addr.mk.injEq, Value.int.injEq, and_true, true_and] at k2
  obtain ⟨e1, e2, e3⟩ := k2
  obtain rfl := QX.inj e1 h1 k1
  congr 1 <;> omega
theorem ok51 (B : Nat) : SpecOk Try.prog [] B 51 (gOf LD LR) := SpecOk.gOf noNumP mixedP fun x args M h => by
  obtain ⟨⟨q, i, j⟩, rfl⟩ : ∃ y, x = y := ⟨x, rfl⟩
  obtain ⟨h1, rfl, h3, h4⟩ := h
  simp only at h1 h3 h4
  obtain ⟨M0, k1, k2⟩ := arun51 q.E q.Pl i j q.E[i] q.E[j] (List.getElem?_eq_getElem h3) (List.getElem?_eq_getElem h4)
  have hl : lessOf q.E i j = lessB q.E[i] q.E[j] := by
    unfold lessOf
    rw [List.getD_eq_getElem?_getD, List.getD_eq_getElem?_getD, List.getElem?_eq_getElem h3, List.getElem?_eq_getElem h4]; rfl
  have t0 : toTgt (mvIn 0 [q.p, q.r, q.e, q.pl]) q.p = some 0 := toTgt_in (t := 0) h1.dist rfl
  refine ⟨[q.p, q.r, q.e, q.pl], small q.E q.Pl, 100, noSpecs, _, _, M0, [], [], fun B => SpecsOk.none, k1, h1.dist, small_in h1, ?_, fun t ht => ?_, small_lt h1, fun a ha => (by cases ha), fun j hj => (by cases hj), fun a b hab => (by cases hab), fun i b hb => (by simp [LR] at hb), rfl, rfl, fun s hs => (by cases hs), ?_⟩
  · simp only [renL, renV, renAddr, t0, leaf, cond_true]
  · rw [k2] at ht; cases ht
  · simp only [LR, hl]; rfl
end Go.Proofs.Ythocfeccinpbmaa

open Go Go.Am Go.Proofs
namespace Go.Proofs.Ythocfeccinpbmaa
set_option maxRecDepth 100000

section
variable {SP : Specs} {D : Nat → Door} {ids : List Nat}
theorem info43 : ∃ e, Try.prog.info? 43 = some e ∧ e.size = 2 := ⟨_, rfl, by kernel_rfl⟩
theorem info3 : ∃ e, Try.prog.info? 3 = some e ∧ e.size = 1 := ⟨_, rfl, by kernel_rfl⟩
theorem ldE' {E : List En} {k : Nat} {e : En} (h : E[k]? = some e) : (QV.ld 43 (0 + k * 2) (some (own (ents E) 43 2)) (.val (.agg ⟨[i64 e.1, i64 e.2]⟩))).holds Try.prog SP D ids := by
  have := ldE (SP := SP) (D := D) (ids := ids) h
  rw [Int.toNat_natCast] at this
  exact this
theorem ldE0 {E : List En} {k : Nat} {e : En} (h : E[k]? = some e) : (QV.ld 3 (0 + k * 2) (some (own (ents E) 43 2)) (.val (i64 e.1))).holds Try.prog SP D ids :=
  qld uInt rfl (by rw [Nat.zero_add]; exact ents_get0 h)
theorem ldE1 {E : List En} {k : Nat} {e : En} (h : E[k]? = some e) : (QV.ld 3 (0 + k * 2 + 1) (some (own (ents E) 43 2)) (.val (i64 e.2))).holds Try.prog SP D ids :=
  qld uInt rfl (by rw [Nat.zero_add]; exact ents_get1 h)
theorem ldI {l : List Int} {k : Nat} {z : Int} (h : l[k]? = some z) : (QV.ld 3 (0 + k * 1) (some (own (ints l) 3 1)) (.val (i64 z))).holds Try.prog SP D ids :=
  qld uInt rfl (by rw [Nat.zero_add, Nat.mul_one]; exact ints_get h)
theorem stE {E : List En} {k : Nat} {a b : Int} (h : k < E.length) : (QV.st 43 (0 + k * 2) (.agg ⟨[i64 a, i64 b]⟩) (ents (E.set k (a, b))) (own (ents E) 43 2)).holds Try.prog SP D ids := fun M id hM => by
  obtain ⟨e, h1, h2⟩ := info43
  exact st_ok h1 (by rw [h2]; rfl) rfl rfl (by rw [h2, ents_len]; omega) (by rw [Nat.zero_add]; exact ents_set h) M id hM
theorem stE1 {E : List En} {k : Nat} {e : En} {b : Int} (h : E[k]? = some e) : (QV.st 3 (0 + k * 2 + 1) (i64 b) (ents (E.set k (e.1, b))) (own (ents E) 43 2)).holds Try.prog SP D ids := fun M id hM => by
  obtain ⟨i, h1, h2⟩ := info3
  have hk : k < E.length := (List.getElem?_eq_some_iff.1 h).1
  exact st_ok h1 (by rw [h2]; rfl) rfl rfl (by rw [h2, ents_len]; omega) (by rw [Nat.zero_add]; exact ents_set1 h) M id hM
theorem stI {l : List Int} {k : Nat} {z : Int} (h : k < l.length) : (QV.st 3 (0 + k * 1) (i64 z) (ints (l.set k z)) (own (ints l) 3 1)).holds Try.prog SP D ids := fun M id hM => by
  obtain ⟨i, h1, h2⟩ := info3
  exact st_ok h1 (by rw [h2]; rfl) rfl rfl (by rw [h2, ints_len]; omega) (by
    rw [Nat.zero_add, Nat.mul_one, ints_set]
    exact splice_one _ _ _ (by rw [ints_len]; exact h)) M id hM
end
theorem get_set_hit {α : Type} {l : List α} {k : Nat} {a : α} (h : k < l.length) : (l.set k a)[k]? = some a := by rw [List.getElem?_set, if_pos rfl, if_pos h]
theorem get_set_miss {α : Type} {l : List α} {k j : Nat} {a b : α} (h : k ≠ j) (hj : l[j]? = some b) : (l.set k a)[j]? = some b := by rw [List.getElem?_set, if_neg h, hj]
theorem get_set2 {α : Type} {l : List α} {k j : Nat} {a b : α} (h : k < l.length) (hne : j ≠ k) : ((l.set k a).set j b)[k]? = some a := get_set_miss hne (get_set_hit h)

/- A queue's entries and places go together. -/
structure WF (E : List En) (Pl : List Int) : Prop where
  lo : ∀ (k : Nat) (e : En), E[k]? = some e → 0 ≤ e.1 ∧ e.1 < (Pl.length : Int)
  at' : ∀ (k : Nat) (e : En), E[k]? = some e → Pl[e.1.toNat]? = some ((k : Int) + 1)
  no : ∀ (i : Nat) (z : Int), Pl[i]? = some z → z = 0 ∨ ∃ (k : Nat) (e : En), E[k]? = some e ∧ e.1 = (i : Int) ∧ z = (k : Int) + 1
  big : Pl.length ≤ 2 ^ 30

theorem pigeon : ∀ (m n : Nat) (f : Nat → Nat), (∀ i, i < n → f i < m) → (∀ i, i < n → ∀ j, j < n → f i = f j → i = j) → n ≤ m
  | m, 0, _, _, _ => Nat.zero_le m
  | 0, n + 1, f, h, _ => absurd (h 0 (by omega)) (Nat.not_lt_zero _)
  | m + 1, n + 1, f, h, inj => by
    have hv := h n (by omega)
    have ih := pigeon m n (fun i => if f i = m then f n else f i) (fun i hi => by
      have := h i (by omega)
      have hne : f i = f n → False := fun he => by have := inj i (by omega) n (by omega) he; omega
      split
      · rename_i he
        have : f n ≠ m := fun h2 => hne (by omega)
        omega
      · omega) (fun i hi j hj he => by
      have i1 := inj i (by omega) n (by omega)
      have j1 := inj j (by omega) n (by omega)
      have ij := inj i (by omega) j (by omega)
      split at he <;> split at he
      · exact ij (by omega)
      · have := j1 (by omega); omega
      · have := i1 (by omega); omega
      · exact ij he)
    omega
theorem WF.few {E : List En} {Pl : List Int} (h : WF E Pl) : E.length ≤ Pl.length := by
  have get : ∀ k, k < E.length → E[k]? = some (E.getD k (0, 0)) := fun k hk => by rw [List.getD_eq_getElem?_getD, List.getElem?_eq_getElem hk]; rfl
  refine pigeon _ _ (fun k => (E.getD k (0, 0)).1.toNat) (fun k hk => ?_) (fun i hi j hj he => ?_)
  · have := h.lo _ _ (get k hk)
    omega
  · have h1 := h.at' _ _ (get i hi)
    have h2 := h.at' _ _ (get j hj)
    rw [he, h2] at h1
    cases h1
    omega

def smallN (n m : Nat) (E : List En) (Pl : List Int) : List (Nat × ABlk) := [(0, lineB 1 2 3 n m), (1, own fns 41 1), (2, own (ents E) 43 2), (3, own (ints Pl) 3 1)]
end Go.Proofs.Ythocfeccinpbmaa
