/-
  Package hier: each of its laws for every argument; no conditions. The last text states which.
-/
import Derived.Test.YtdaglldahidmbaaGAmPw
set_option linter.unusedVariables false
set_option linter.unusedSimpArgs false
noncomputable section
namespace Go.Am
open Go
def offS (c : Nat → Nat) : Nat → Nat
  | 0 => 0
  | v + 1 => offS c v + c v
theorem offS_mono (c : Nat → Nat) : ∀ {u v : Nat}, u ≤ v → offS c u ≤ offS c v
  | u, 0, h => by have : u = 0 := by omega
                  subst this; exact Nat.le_refl _
  | u, v + 1, h => by
    by_cases e : u = v + 1
    · subst e; exact Nat.le_refl _
    · have := offS_mono c (show u ≤ v by omega)
      show offS c u ≤ offS c v + c v
      omega
theorem offS_next (c : Nat → Nat) {u v : Nat} (h : u < v) : offS c u + c u ≤ offS c v := offS_mono c (show u + 1 ≤ v from h)
def bk {α : Type} (key : Nat → Nat) (item : Nat → α) (i v : Nat) : List α := (List.range i).filterMap fun j => if key j = v then some (item j) else none
def cnt (key : Nat → Nat) (i v : Nat) : Nat := (bk key (fun _ => ()) i v).length
def cellR (m : Nat) (c ln : Nat → Nat) (v : Nat) : Value := sli m (offS c v) (ln v) (c v + 1)
def rowCells (m : Nat) (c ln : Nat → Nat) (n : Nat) : List Value := (List.range n).map (cellR m c ln)
theorem rowCells_len (m : Nat) (c ln : Nat → Nat) (n : Nat) : (rowCells m c ln n).length = n := by simp [rowCells]
theorem rowCells_get (m : Nat) (c ln : Nat → Nat) {n v : Nat} (h : v < n) : (rowCells m c ln n)[v]? = some (cellR m c ln v) := by simp [rowCells, h]
def pRowss (rs : List (List Int)) (v : Value) (M : Mem) : Prop := ∃ E c blk, v = sli E 0 rs.length c ∧ M.get E = some blk ∧ blk.esz = 1 ∧ blk.cs.length = rs.length ∧ ∀ (u : Nat) (r : List Int), rs[u]? = some r → ∃ x, blk.cs[u]? = some x ∧ pInts r x M
instance : AP pRowss := ⟨fun {x y _ _} ⟨E, c, blk, h1, h2, _, _, h5⟩ ⟨E', c', blk', k1, k2, _, _, k5⟩ => by
  rw [h1] at k1
  simp only [Value.slice.injEq, Option.some.injEq, Addr.mk.injEq, and_true] at k1
  obtain ⟨rfl, hl, _⟩ := k1
  rw [h2] at k2; cases k2
  apply List.ext_getElem?
  intro u
  by_cases hu : u < x.length
  · obtain ⟨a, a1, a2⟩ := h5 u x[u] (List.getElem?_eq_getElem hu)
    obtain ⟨b, b1, b2⟩ := k5 u y[u] (List.getElem?_eq_getElem (by omega))
    rw [a1] at b1; cases b1
    rw [List.getElem?_eq_getElem hu, List.getElem?_eq_getElem (by omega), AP.uniq (R := pInts) a2 b2]
  · rw [List.getElem?_eq_none (by omega), List.getElem?_eq_none (by omega)],
  fun hE ⟨E, c, blk, h1, h2, h3, h4, h5⟩ => ⟨E, c, blk, h1, hE _ _ h2, h3, h4, fun u r hr => let ⟨x, a, b⟩ := h5 u r hr; ⟨x, a, AP.ext (R := pInts) hE b⟩⟩⟩
def keyE (ends : List Int) (j : Nat) : Nat := ((ends[j]?).getD 0).toNat
theorem wrap_nat {i : Nat} (h : i < 1099511627776) : IntKind.wrap .i64 ((i : Nat) : Int) = ((i : Nat) : Int) := Go.Am.wrap_small (by omega) (by omega)
theorem wrap_add {i j : Nat} (h : i + j < 1099511627776) : IntKind.wrap .i64 (((i : Nat) : Int) + ((j : Nat) : Int)) = ((i + j : Nat) : Int) := by
  rw [← wrap_nat h]; congr 1
def pRoom (x : Nat × List Int) (nx : Nat) (v : Value) (M : Mem) : Prop := ∃ E D, v = sli E 0 x.1 (x.1 + 1) ∧ nx ≤ E ∧ nx ≤ D ∧ D ≠ E ∧ M.get E = some ⟨rowCells D (cnt (keyE x.2) x.2.length) (fun _ => 0) x.1, 22, 1, 0, true⟩ ∧ M.get D = some ⟨List.replicate x.2.length (i64 0), 3, 1, 0, true⟩
instance : AQ pRoom := ⟨fun hE ⟨E, D, h1, h2, h3, h4, h5, h6⟩ => ⟨E, D, h1, h2, h3, h4, hE _ _ h5, hE _ _ h6⟩⟩
structure AdjM where
  out : List (List Int)
  inn : List (List Int)
  to : List Int
  set : List Int
def pAdj (ty : TypeId) (a : AdjM) (v : Value) (M : Mem) : Prop := ∃ b o i t s, v = pt b 0 ∧ M.get b = some ⟨[o, i, t, s], ty, 4, 0, true⟩ ∧ pRowss a.out o M ∧ pRowss a.inn i M ∧ pInts a.to t M ∧ pInts a.set s M
instance (ty : TypeId) : AP (pAdj ty) := ⟨fun {x y _ _} ⟨b, o, i, t, s, h1, h2, h3, h4, h5, h6⟩ ⟨b', o', i', t', s', k1, k2, k3, k4, k5, k6⟩ => by
  rw [h1] at k1
  simp only [Value.pointer.injEq, Option.some.injEq, Addr.mk.injEq, and_true] at k1
  subst k1
  rw [h2] at k2
  simp only [Option.some.injEq, ABlk.mk.injEq, List.cons.injEq, and_true, true_and] at k2
  obtain ⟨rfl, rfl, rfl, rfl⟩ := k2
  have e1 := AP.uniq (R := pRowss) h3 k3; have e2 := AP.uniq (R := pRowss) h4 k4; have e3 := AP.uniq (R := pInts) h5 k5; have e4 := AP.uniq (R := pInts) h6 k6
  cases x; cases y; simp_all,
  fun hE ⟨b, o, i, t, s, h1, h2, h3, h4, h5, h6⟩ => ⟨b, o, i, t, s, h1, hE _ _ h2, AP.ext (R := pRowss) hE h3, AP.ext (R := pRowss) hE h4, AP.ext (R := pInts) hE h5, AP.ext (R := pInts) hE h6⟩⟩
def pSight (ty : TypeId) (x : Nat × AdjM) (v : Value) (M : Mem) : Prop := ∃ p, v = .agg ⟨[i64 ((x.1 : Nat) : Int), p]⟩ ∧ pAdj ty x.2 p M
instance (ty : TypeId) : AP (pSight ty) := ⟨fun {x y _ _} ⟨p, h1, h2⟩ ⟨q, k1, k2⟩ => by
  rw [h1] at k1
  simp only [Value.agg.injEq, Array.mk.injEq, List.cons.injEq, and_true] at k1
  obtain ⟨e1, rfl⟩ := k1
  have e2 := AP.uniq (R := pAdj ty) h2 k2
  obtain ⟨a, b⟩ := x; obtain ⟨c, d⟩ := y
  have h3 : a = c := by have : ((a : Nat) : Int) = ((c : Nat) : Int) := by simpa [i64] using e1
                        omega
  have h4 : b = d := e2
  rw [h3, h4], fun hE ⟨p, h1, h2⟩ => ⟨p, h1, AP.ext (R := pAdj ty) hE h2⟩⟩
def pU (k : Nat) (v : Value) (_ : Mem) : Prop := v = .int .u64 ((k : Nat) : Int)
instance : AP pU := ⟨fun h k => by unfold pU at h k; rw [h] at k; simp at k; omega, fun _ h => h⟩
def pCount (f : FuncId) (ty : TypeId) (x : Nat × AdjM) (v : Value) (M : Mem) : Prop := ∃ s, v = .func (.func f) ⟨[s]⟩ ⟨[]⟩ ∧ pSight ty x s M
instance (f : FuncId) (ty : TypeId) : AP (pCount f ty) := ⟨fun {x y _ _} ⟨p, h1, h2⟩ ⟨q, k1, k2⟩ => by
  rw [h1] at k1
  simp only [Value.func.injEq, true_and, Array.mk.injEq, List.cons.injEq, and_true] at k1
  subst k1
  exact AP.uniq (R := pSight ty) h2 k2, fun hE ⟨p, h1, h2⟩ => ⟨p, h1, AP.ext (R := pSight ty) hE h2⟩⟩
def pNats (sz : List Nat) (v : Value) (M : Mem) : Prop := pInts (sz.map fun k => ((k : Nat) : Int)) v M
theorem map_nat_inj : ∀ {a b : List Nat}, a.map (fun k => ((k : Nat) : Int)) = b.map (fun k => ((k : Nat) : Int)) → a = b
  | [], [], _ => rfl
  | [], _ :: _, h => by simp at h
  | _ :: _, [], h => by simp at h
  | x :: a, y :: b, h => by
    simp only [List.map_cons, List.cons.injEq] at h
    have : x = y := by omega
    rw [this, map_nat_inj h.2]
instance : AP pNats := ⟨fun h k => map_nat_inj (AP.uniq (R := pInts) h k), fun hE h => AP.ext (R := pInts) hE h⟩
def pMem (x : Nat × Nat) (v : Value) (M : Mem) : Prop := v = sli x.1 0 x.2 (x.2 + 1) ∧ ∃ cd, M.get x.1 = some ⟨cd, 3, 1, 0, true⟩
instance : AP pMem := ⟨fun {x y _ _} ⟨h, _⟩ ⟨k, _⟩ => by
  rw [h] at k
  simp only [Value.slice.injEq, Option.some.injEq, Addr.mk.injEq, and_true] at k
  obtain ⟨a, b⟩ := x; obtain ⟨c, d⟩ := y
  have h1 : a = c := k.1
  have h2 : b = d := k.2.1
  rw [h1, h2], fun hE ⟨h, cd, k⟩ => ⟨h, cd, hE _ _ k⟩⟩
def cOf (sz : List Nat) (d : Nat) : Nat := (sz[d]?).getD 0
def pShare (x : (Nat × Nat) × List Nat) (nx : Nat) (v : Value) (M : Mem) : Prop := ∃ E, v = sli E 0 x.2.length (x.2.length + 1) ∧ nx ≤ E ∧ M.get E = some ⟨rowCells x.1.1 (cOf x.2) (fun _ => 0) x.2.length, 22, 1, 0, true⟩
instance : AQ pShare := ⟨fun hE ⟨E, h1, h2, h3⟩ => ⟨E, h1, h2, hE _ _ h3⟩⟩
end Go.Am
end
