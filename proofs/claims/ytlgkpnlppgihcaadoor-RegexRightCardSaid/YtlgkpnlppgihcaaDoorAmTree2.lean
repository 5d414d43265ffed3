/-
  What is proved: RegexRight: whether any expression is right is what the document's own reading says, and so is one of which one thing was turned. For every argument; the tables are as the program lays them.
-/
import Derived.Test.YtlgkpnlppgihcaaDoorAmTree
noncomputable section
namespace Go.Am
open Go
variable {P : Program}
theorem rows_len {w : Nat} : ∀ {rows : List (List Value)}, (∀ r ∈ rows, r.length = w) → rows.flatten.length = rows.length * w
  | [], _ => by simp
  | r :: rows, h => by
    rw [List.flatten_cons, List.length_append, rows_len fun r h' => h r (List.mem_cons_of_mem _ h'), h r (List.mem_cons_self ..), List.length_cons, Nat.succ_mul]
    omega
theorem append_rows {sT xT elem : TypeId} {M : Mem} {b o n c a w y : Nat} {rows : List (List Value)} (hs : P.underlying sT = some (.slice elem)) (hx : P.underlying xT = some (.slice elem)) (he : elemOf P elem = some (w, y, true)) (hw : 0 < w) (hy : y ≤ 1024)
    (hl : SlAt M (.slice (some ⟨b, o, none⟩) n c) n rows) (hn : rows.length = n) (hwd : ∀ r ∈ rows, r.length = w) (h0 : 0 < n) (hn2 : n ≤ 1073741824) (hc : ∀ r ∈ rows, r.all isCell = true)
    (ha : M.get a = some ⟨[], elem, w, 0, true⟩) :
    aappend P [sT, xT] (.slice (some ⟨a, 0, none⟩) 0 1) (.slice (some ⟨b, o, none⟩) n c) M = some (1, .val (.slice (some ⟨M.next, 0, none⟩) n n), M.alloc ⟨rows.flatten, elem, w, 0, true⟩) := by
  rcases hl with ⟨_, _, h⟩ | ⟨b', o', c', blk, pre, post, h1, h2, h3, h4, _⟩
  · omega
  · simp only [Value.slice.injEq, Option.some.injEq, Addr.mk.injEq] at h1
    obtain ⟨⟨rfl, rfl, _⟩, _, rfl⟩ := h1
    unfold elemOf at he
    cases hi : P.info? elem with
    | none => rw [hi] at he; cases he
    | some e =>
      rw [hi] at he
      simp only [Option.map_some, Option.some.injEq] at he
      have hr := roomy_of (n := 0 + n) he hw hy (by omega)
      simp only [Prod.mk.injEq] at he
      obtain ⟨rfl, rfl, _⟩ := he
      have hf : takeN (n * e.size) (blk.cs.drop o) = some rows.flatten := by
        rw [h3, ← h4, List.append_assoc, List.drop_left, show n * e.size = rows.flatten.length by rw [rows_len hwd, hn]]
        exact takeN_app _ _
      have hall : rows.flatten.all isCell = true := by
        rw [List.all_eq_true]
        intro x hx
        obtain ⟨r, k1, k2⟩ := List.mem_flatten.1 hx
        exact List.all_eq_true.1 (hc r k1) x k2
      have hlen : rows.flatten.length = n * e.size := by rw [rows_len hwd, hn]
      unfold aappend
      simp only [hs, hx, hi, lenV, isIntD, firsts, h2, range, hf, ha, Nat.zero_mul, List.drop_nil, takeN, hr, hall, hlen, List.nil_append]
      have h5 : n.beq 0 = false := by
        cases hb : n.beq 0
        · rfl
        · have := Nat.eq_of_beq_eq_true hb; omega
      simp [h5, made, anew]
theorem slice_tail {t elem : TypeId} {M : Mem} {b o n c w : Nat} {r : List Value} {rows : List (List Value)} (ht : P.underlying t = some (.slice elem)) (he : (P.info? elem).map (·.size) = some w)
    (hl : SlAt M (.slice (some ⟨b, o, none⟩) (n + 1) c) (n + 1) (r :: rows)) (hr : r.length = w) :
    ∃ c', aslice P t (.slice (some ⟨b, o, none⟩) (n + 1) c) (some (.int .i64 1)) none none M = some (.slice (some ⟨b, o + w, none⟩) n c') ∧ SlAt M (.slice (some ⟨b, o + w, none⟩) n c') n rows := by
  rcases hl with ⟨_, _, h⟩ | ⟨b', o', c', blk, pre, post, h1, h2, h3, h4, h5⟩
  · omega
  · simp only [Value.slice.injEq, Option.some.injEq, Addr.mk.injEq] at h1
    obtain ⟨⟨rfl, rfl, _⟩, _, rfl⟩ := h1
    cases hi : P.info? elem with
    | none => rw [hi] at he; cases he
    | some e =>
      rw [hi] at he
      simp only [Option.map_some, Option.some.injEq] at he
      subst he
      have hz : blk.esz = e.size := by rw [← h5 r (List.mem_cons_self ..), hr]
      refine ⟨bif Nat.beq c (n + 2) then n + 1 else n, ?_, .inr ⟨b, _, _, blk, pre ++ r, post, rfl, h2, by rw [h3]; simp [List.flatten_cons], by simp [h4, hr], fun x hx => h5 x (List.mem_cons_of_mem _ hx)⟩⟩
      unfold aslice
      have h1 : decide ((1 : Int) ≤ (n : Int) + 1) = true := by simp; omega
      simp [ht, hi, h2, abound, hz, Addr.add, h1]
theorem splice_front : ∀ (a b : List Value) (o : Nat) (v : List Value), splice (a ++ b) (a.length + o) v = a ++ splice b o v
  | [], b, o, v => by simp
  | x :: a, b, o, [] => by
    cases hb : a.length + 1 + o <;> simp [splice]
    all_goals (cases b <;> simp [splice])
  | x :: a, b, o, u :: v => by
    rw [List.cons_append, List.length_cons, show a.length + 1 + o = (a.length + o) + 1 by omega]
    simp only [splice, List.cons_append]
    rw [splice_front a b o (u :: v)]
theorem splice_over : ∀ (v old b : List Value), v.length = old.length → splice (old ++ b) 0 v = v ++ b
  | [], [], b, _ => by cases b <;> simp [splice]
  | [], _ :: _, _, h => by simp at h
  | _ :: _, [], _, h => by simp at h
  | u :: v, x :: old, b, h => by
    simp only [List.cons_append, splice]
    rw [splice_over v old b (by simpa using h)]
theorem splice_row {w : Nat} {v : List Value} (hv : v.length = w) : ∀ {rows : List (List Value)} {k : Nat}, (∀ r ∈ rows, r.length = w) → k < rows.length → splice rows.flatten (k * w) v = (rows.set k v).flatten
  | [], k, _, h => by simp at h
  | r :: rows, 0, hw, _ => by
    simp only [List.flatten_cons, Nat.zero_mul, List.set_cons_zero]
    exact splice_over v r _ (by rw [hv, hw r (List.mem_cons_self ..)])
  | r :: rows, k + 1, hw, h => by
    simp only [List.flatten_cons, List.set_cons_succ]
    have := splice_row hv (rows := rows) (k := k) (fun r h => hw r (List.mem_cons_of_mem _ h)) (by simpa using h)
    rw [← this, Nat.succ_mul, Nat.add_comm, ← hw r (List.mem_cons_self ..)]
    exact splice_front r rows.flatten _ v
theorem RowsAt.set {w : Nat} {M : Mem} : ∀ {l : List DT} {rows : List (List Value)} {k : Nat} {t : DT} {r : List Value}, RowsAt w M l rows → NodeAt w M t (.agg ⟨r⟩) → RowsAt w M (l.set k t) (rows.set k r)
  | [], rows, k, t, r, h, _ => by simp only [RowsAt] at h; subst h; simp [RowsAt]
  | t0 :: l, rows, k, t, r, h, hN => by
    simp only [RowsAt] at h
    obtain ⟨r0, rest, rfl, h2, h3⟩ := h
    cases k with
    | zero =>
      simp only [List.set_cons_zero, RowsAt]
      exact ⟨r, rest, rfl, hN, h3⟩
    | succ k =>
      simp only [List.set_cons_succ, RowsAt]
      exact ⟨r0, _, rfl, h2, RowsAt.set h3 hN⟩
theorem RowsAt.tail {w : Nat} {M : Mem} {t : DT} {l : List DT} {rows : List (List Value)} (h : RowsAt w M (t :: l) rows) : ∃ r rest, rows = r :: rest ∧ r.length = w ∧ RowsAt w M l rest := by
  simp only [RowsAt] at h
  obtain ⟨r, rest, h1, h2, h3⟩ := h
  exact ⟨r, rest, h1, h2.row, h3⟩
theorem RowsAt.app {w : Nat} {M : Mem} : ∀ {l l2 : List DT} {rows rows2 : List (List Value)}, RowsAt w M l rows → RowsAt w M l2 rows2 → RowsAt w M (l ++ l2) (rows ++ rows2)
  | [], l2, rows, rows2, h, h2 => by simp only [RowsAt] at h; subst h; simpa using h2
  | t :: l, l2, rows, rows2, h, h2 => by
    simp only [RowsAt] at h
    obtain ⟨r, rest, rfl, h3, h4⟩ := h
    simp only [List.cons_append, RowsAt]
    exact ⟨r, _, rfl, h3, RowsAt.app h4 h2⟩
theorem NodeAt.cells {w : Nat} {M : Mem} {t : DT} {r : List Value} (h : NodeAt w M t (.agg ⟨r⟩)) : r.all isCell = true := by
  obtain ⟨xs, l⟩ := t
  simp only [NodeAt] at h
  obtain ⟨L, rows, h1, _, _, h4, _⟩ := h
  simp only [Value.agg.injEq, Array.mk.injEq] at h1
  obtain ⟨a, c, rfl⟩ := h4.form
  rw [h1, List.all_append]
  have : (xs.map i64).all isCell = true := by
    rw [List.all_eq_true]
    intro x hx
    obtain ⟨z, _, rfl⟩ := List.mem_map.1 hx
    rfl
  rw [this]
  rfl
theorem RowsAt.cells {w : Nat} {M : Mem} : ∀ {l : List DT} {rows : List (List Value)}, RowsAt w M l rows → ∀ r ∈ rows, r.all isCell = true
  | [], rows, h => by simp only [RowsAt] at h; subst h; intro r hr; cases hr
  | t :: l, rows, h => by
    simp only [RowsAt] at h
    obtain ⟨r, rest, rfl, h2, h3⟩ := h
    intro x hx
    rcases List.mem_cons.1 hx with rfl | hx
    · exact h2.cells
    · exact RowsAt.cells h3 x hx
end Go.Am
end
