/-
  NetWalks: whether any edges are a walk, its cost and its word, are the document's: of any network of at most twelve vertices that is made of the numbers handed in, and of any rows of edges, of at most sixty where they are handed in; the answer is true for every argument.
-/
import Derived.Test.YtlmifmodnkhidaaDoorGW16
import Derived.Test.YtlmifmodnkhidaaDoorAmArgs
import Derived.Deep.DeepHandedRow
import Derived.OpenShut
import Derived.ProofKit
open Go Go.Am Go.Proofs
namespace Go.Proofs.YtlmifmodnkhidaaDoor
set_option maxRecDepth 100000
open Go.ChangeShapes Go.WideShapes Go.ChangeAt Go.RowKit

theorem cells3' : Tryd.prog.cellsOf 3 = 1 := by kernel_rfl
theorem cells22' : Tryd.prog.cellsOf 22 = 1 := by kernel_rfl
theorem cells31' : Tryd.prog.cellsOf 31 = 4 := by kernel_rfl
theorem cells24' : Tryd.prog.cellsOf 24 = 2 := by kernel_rfl
theorem types24' : Tryd.prog.cellTypes Tryd.prog.depth 24 = some [3, 22] := by kernel_rfl

section
variable {H : Type} {enc : TypeId × Value → H} {w : World} {sp : Nat → Bool} {held : Bool}

theorem open_edge {fuel : Nat} {cs : List Value} {x : DataW H × List MemPlace} (h : DataW.trod enc Tryd.prog w 0 sp held fuel 31 cs = some x) : ∃ e : E, cs = [i64 e.f, i64 e.t, i64 e.m, i64 e.c] := by
  obtain ⟨xs, n, _, _, hl, hlen, hf⟩ := DataW.trod_struct Tryd.underlying31 h
  rw [cells31'] at hl
  match cs, hl with
  | [a, b, c, d], _ =>
    have h4 : xs.length = 4 := hlen
    match xs, h4 with
    | [y0, y1, y2, y3], _ =>
      have e0 : DataW.trod enc Tryd.prog w 0 sp held n 3 (([a, b, c, d].drop 0).take (Tryd.prog.cellsOf 3)) = some y0 := hf 0 _ rfl
      rw [cells3'] at e0
      have e1 : DataW.trod enc Tryd.prog w 0 sp held n 3 (([a, b, c, d].drop 1).take (Tryd.prog.cellsOf 3)) = some y1 := hf 1 _ rfl
      rw [cells3'] at e1
      have e2 : DataW.trod enc Tryd.prog w 0 sp held n 3 (([a, b, c, d].drop 2).take (Tryd.prog.cellsOf 3)) = some y2 := hf 2 _ rfl
      rw [cells3'] at e2
      have e3 : DataW.trod enc Tryd.prog w 0 sp held n 3 (([a, b, c, d].drop 3).take (Tryd.prog.cellsOf 3)) = some y3 := hf 3 _ rfl
      rw [cells3'] at e3
      obtain ⟨f, k0, _⟩ := DataW.trod_int Tryd.underlying3 (show DataW.trod enc Tryd.prog w 0 sp held n 3 [a] = some y0 from e0)
      obtain ⟨t, k1, _⟩ := DataW.trod_int Tryd.underlying3 (show DataW.trod enc Tryd.prog w 0 sp held n 3 [b] = some y1 from e1)
      obtain ⟨m, k2, _⟩ := DataW.trod_int Tryd.underlying3 (show DataW.trod enc Tryd.prog w 0 sp held n 3 [c] = some y2 from e2)
      obtain ⟨z, k3, _⟩ := DataW.trod_int Tryd.underlying3 (show DataW.trod enc Tryd.prog w 0 sp held n 3 [d] = some y3 from e3)
      cases k0; cases k1; cases k2; cases k3
      exact ⟨⟨f, t, m, z⟩, rfl⟩

theorem ecOf_idx : ∀ {es : List E} {j : Nat} {u : Value}, (ecOf es)[j]? = some u → ∃ i r e, r < 4 ∧ j = i * 4 + r ∧ es[i]? = some e ∧ [i64 e.f, i64 e.t, i64 e.m, i64 e.c][r]? = some u
  | [], j, u, h => by simp [ecOf] at h
  | e :: es, 0, u, h => ⟨0, 0, e, by decide, rfl, rfl, h⟩
  | e :: es, 1, u, h => ⟨0, 1, e, by decide, rfl, rfl, h⟩
  | e :: es, 2, u, h => ⟨0, 2, e, by decide, rfl, rfl, h⟩
  | e :: es, 3, u, h => ⟨0, 3, e, by decide, rfl, rfl, h⟩
  | e :: es, j + 4, u, h => by
    obtain ⟨i, r, e', h1, h2, h3, h4⟩ := ecOf_idx (es := es) (j := j) (u := u) (by simpa [ecOf] using h)
    exact ⟨i + 1, r, e', h1, by omega, by simpa using h3, h4⟩

theorem open_edges {fuel : Nat} {cs : List Value} {x : DataW H × List MemPlace} (h : DataW.trod enc Tryd.prog w 0 (fun _ => true) held fuel 22 cs = some x) :
    cs = [.slice none 0 0] ∨ ∃ (a : Addr) (len cap : Nat) (es : List E), cs = [.slice (some a) len cap] ∧ len ≤ cap ∧ es.length = cap ∧ (a.spot = none → ∀ j u, (ecOf es)[j]? = some u → w.cell? ⟨a.block, a.off + j, none⟩ = some u) := by
  rcases DataW.trod_slice Tryd.underlying22 h with ⟨h0, _⟩ | ⟨a, len, cap, elems, rest, n, _, hcs, _, _, hl, _, hlen, hel, hsp, _⟩
  · exact .inl h0
  · right
    obtain ⟨hr1, hr2⟩ := hsp rfl
    rw [cells31'] at hel hr2
    have each : ∀ i, i < cap → ∃ e : E, w.cells? 0 (a.add (i * 4)) 4 = some [i64 e.f, i64 e.t, i64 e.m, i64 e.c] := fun i hi => by
      have : ∃ y, (w.cells? 0 (a.add (i * 4)) 4).bind (DataW.trod enc Tryd.prog w 0 (fun _ => true) held n 31) = some y := by
        by_cases h1 : i < len
        · exact ⟨elems[i]'(by omega), by rw [hel i h1]; exact List.getElem?_eq_getElem (by omega)⟩
        · have := hr2 (i - len) (by omega)
          rw [show len + (i - len) = i by omega] at this
          exact ⟨rest[i - len]'(by omega), by rw [this]; exact List.getElem?_eq_getElem (by omega)⟩
      obtain ⟨y, hy⟩ := this
      obtain ⟨cs', h1, h2⟩ := Option.bind_eq_some_iff.1 hy
      obtain ⟨e, rfl⟩ := open_edge h2
      exact ⟨e, h1⟩
    have build : ∀ k, k ≤ cap → ∃ es : List E, es.length = k ∧ ∀ i e, es[i]? = some e → w.cells? 0 (a.add (i * 4)) 4 = some [i64 e.f, i64 e.t, i64 e.m, i64 e.c] := by
      intro k
      induction k with
      | zero => intro _; exact ⟨[], rfl, fun i e h => by simp at h⟩
      | succ k ih =>
        intro hk
        obtain ⟨es, h1, h2⟩ := ih (by omega)
        obtain ⟨e, he⟩ := each k (by omega)
        refine ⟨es ++ [e], by simp [h1], fun i e' hi => ?_⟩
        by_cases hik : i < es.length
        · rw [List.getElem?_append_left hik] at hi
          exact h2 i e' hi
        · rw [List.getElem?_append_right (by omega)] at hi
          have : i = k := by
            by_cases hh : i - es.length = 0
            · omega
            · obtain ⟨m, hm⟩ : ∃ m, i - es.length = m + 1 := ⟨i - es.length - 1, by omega⟩
              rw [hm] at hi; simp at hi
          subst this
          rw [h1, Nat.sub_self] at hi
          simp at hi
          subst hi
          exact he
    obtain ⟨es, h1, h2⟩ := build cap (Nat.le_refl _)
    refine ⟨a, len, cap, es, hcs, hl, h1, fun hs j u hu => ?_⟩
    obtain ⟨i, r, e, h3, h4, h5, h6⟩ := ecOf_idx hu
    have := (World.cells?_some (h2 i e h5)).2.2 r h3
    rw [h6] at this
    rw [addr_eta hs, add_norm, add_norm] at this
    rw [h4, ← Nat.add_assoc]
    exact this

theorem ecOf_take : ∀ (es : List E) (n : Nat), (ecOf es).take (n * 4) = ecOf (es.take n)
  | _, 0 => by simp [ecOf]
  | [], n + 1 => by simp [ecOf]
  | e :: es, n + 1 => by
    rw [show (n + 1) * 4 = n * 4 + 1 + 1 + 1 + 1 by omega]
    simp only [ecOf, List.take_succ_cons, ecOf_take es n]

/- A network that was handed in. -/
theorem arg_net {r : Reach} {base : Nat} {v : Value} {d : DataW H} {ps : List MemPlace} (hval : Value.okWide Tryd.prog w r base 24 v) (h : DataW.Trod enc Tryd.prog w 0 (fun _ => true) held 24 v d ps) :
    ∃ N : Int, v = .agg ⟨[i64 N, .slice none 0 0]⟩ ∨ ∃ (a : Addr) (len cap : Nat) (es : List E) (ent : Ent) (elem : TypeId), v = .agg ⟨[i64 N, .slice (some a) len cap]⟩ ∧ es.length = len ∧ (∀ φ, BRel Tryd.prog w.heap.size φ w ent (ro (ecOf es) elem 4)) ∧
      ∀ φ id, φ id = some ent → VRel φ (sl id len) (.slice (some a) len cap) := by
  obtain ⟨fuel, h⟩ := h
  unfold Value.okWide at hval
  rw [Tryd.underlying24] at hval
  simp only at hval
  obtain ⟨cs, rfl, hsz, ts, hts, _, hrow⟩ := hval
  rw [types24'] at hts
  cases hts
  obtain ⟨y0, y1, n, _, hl, h0, h1⟩ := trod_struct2 Tryd.underlying24 h
  rw [cells24'] at hl
  obtain ⟨cs⟩ := cs
  match cs, hl with
  | [c0, c1], _ =>
    replace h0 : DataW.trod enc Tryd.prog w 0 (fun _ => true) held n 3 (([c0, c1].drop 0).take (Tryd.prog.cellsOf 3)) = some y0 := h0
    replace h1 : DataW.trod enc Tryd.prog w 0 (fun _ => true) held n 22 (([c0, c1].drop 1).take (Tryd.prog.cellsOf 22)) = some y1 := h1
    rw [cells3'] at h0
    rw [cells22'] at h1
    obtain ⟨N, k0, _⟩ := DataW.trod_int Tryd.underlying3 (show DataW.trod enc Tryd.prog w 0 (fun _ => true) held n 3 [c0] = some y0 from h0)
    cases k0
    refine ⟨N, ?_⟩
    rcases open_edges (show DataW.trod enc Tryd.prog w 0 (fun _ => true) held n 22 [c1] = some y1 from h1) with k1 | ⟨a, len, cap, es, k1, k2, k3, k4⟩
    · cases k1; exact .inl rfl
    · cases k1
      right
      obtain ⟨u, hu, hc⟩ := hrow 1 _ rfl
      cases hu
      obtain ⟨hs, hsh⟩ := ok_slice Tryd.underlying22 hc
      obtain ⟨ent, elem, q1, q2⟩ := arg_slice (esz := 4) (cs := ecOf es) hs hsh k2 (by decide) (k4 hs) (ecOf_flat es) (by rw [ecOf_len, k3])
      exact ⟨a, len, cap, es.take len, ent, elem, rfl, by simp; omega, fun φ => by have := q1 φ; rw [ecOf_take] at this; exact this, q2⟩

theorem arg_ints {r : Reach} {base : Nat} {v : Value} {d : DataW H} {ps : List MemPlace} (hval : Value.okWide Tryd.prog w r base 25 v) (h : DataW.Trod enc Tryd.prog w 0 (fun _ => true) held 25 v d ps) :
    v = .slice none 0 0 ∨ ∃ (a : Addr) (len cap : Nat) (zs : List Int) (ent : Ent) (elem : TypeId), v = .slice (some a) len cap ∧ zs.length = len ∧ (∀ φ, BRel Tryd.prog w.heap.size φ w ent (ro (ints zs) elem 1)) ∧
      ∀ φ id, φ id = some ent → VRel φ (sl id len) (.slice (some a) len cap) := by
  obtain ⟨fuel, h⟩ := h
  unfold Value.okWide at hval
  rw [Tryd.underlying25] at hval
  simp only at hval
  have hone : ∀ x, v.cells.toList = [x] → (∀ cs, x ≠ .agg cs) → v = x := fun x hx hn => by
    cases v with
    | agg cs =>
      exfalso
      unfold Cell.okWide at hval
      rw [Tryd.underlying25] at hval
      simp only at hval
      unfold Cell.ok at hval
      rw [Tryd.underlying25] at hval
      exact hval
    | _ => simp [Value.cells] at hx; exact hx
  rcases open_ints Tryd.underlying25 Tryd.underlying3 cells3' h with ⟨k1, _⟩ | ⟨a, len, cap, zs, k1, _, k2, _, k3, _, k4, _⟩
  · exact .inl (hone _ k1 (fun cs h => by cases h))
  · right
    obtain rfl := hone _ k1 (fun cs h => by cases h)
    obtain ⟨hs, hsh⟩ := ok_slice Tryd.underlying25 hval
    simp only [if_true] at k3
    obtain ⟨ent, elem, q1, q2⟩ := arg_slice (esz := 1) (cs := ints zs) hs hsh k2 (by decide) (fun j u hu => by
      have hj : j < zs.length := by
        by_cases hh : j < zs.length
        · exact hh
        · rw [List.getElem?_eq_none (by rw [ints_len]; omega)] at hu; cases hu
      have := k4 j hj
      rw [addr_eta hs, add_norm] at this
      rw [this]
      simp only [ints, List.getElem?_map, List.getElem?_eq_getElem hj, Option.map_some] at hu
      rw [List.getD_eq_getElem?_getD, List.getElem?_eq_getElem hj]
      exact hu) (ints_flat zs) (by rw [ints_len, k3]; omega)
    exact ⟨a, len, cap, zs.take len, ent, elem, rfl, by simp; omega, fun φ => by have := q1 φ; rw [show (ints zs).take (len * 1) = ints (zs.take len) by simp [ints, List.map_take]] at this; exact this, q2⟩
end
end Go.Proofs.YtlmifmodnkhidaaDoor
