/-
  What is proved: RegexRight: whether any expression is right is what the document's own reading says, and so is one of which one thing was turned. For every argument; the tables are as the program lays them.
-/
import Derived.Test.YtlgkpnlppgihcaaDoorAmT
import Derived.Test.YtlgkpnlppgihcaaDoorAmLib
noncomputable section
namespace Go.Am
open Go
variable {P : Program} {GL : List Nat}
abbrev nd5 (k s lo hi : Int) (L : Value) : Value := .agg ⟨[i64 k, i64 s, i64 lo, i64 hi, L]⟩
abbrev nd3 (k n : Int) (L : Value) : Value := .agg ⟨[i64 k, i64 n, L]⟩
inductive DT where
  | mk (xs : List Int) (l : List DT)
theorem DT.lt_of_mem {xs : List Int} {l : List DT} {t : DT} (h : t ∈ l) : SizeOf.sizeOf t < SizeOf.sizeOf (DT.mk xs l) := by
  have := List.sizeOf_lt_of_mem h
  simp
  omega
def SlAt (M : Mem) (L : Value) (n : Nat) (rows : List (List Value)) : Prop :=
  ((∃ a, L = .slice a 0 0 ∧ n = 0) : Prop) ∨ ∃ b o c blk pre post, L = .slice (some ⟨b, o, none⟩) n c ∧ M.get b = some blk ∧ blk.cs = pre ++ rows.flatten ++ post ∧ pre.length = o ∧ ∀ r ∈ rows, r.length = blk.esz
mutual
def NodeAt (w : Nat) (M : Mem) : DT → Value → Prop
  | .mk xs l, v => ∃ L rows, v = .agg ⟨xs.map i64 ++ [L]⟩ ∧ xs.length + 1 = w ∧ RowsAt w M l rows ∧ SlAt M L l.length rows ∧ l.length ≤ 9223372036854775807
def RowsAt (w : Nat) (M : Mem) : List DT → List (List Value) → Prop
  | [], rows => rows = []
  | t :: l, rows => ∃ r rest, rows = r :: rest ∧ NodeAt w M t (.agg ⟨r⟩) ∧ RowsAt w M l rest
end
theorem SlAt.ext {M M' : Mem} (hE : ∀ id b, M.get id = some b → M'.get id = some b) {L : Value} {n : Nat} {rows : List (List Value)} (h : SlAt M L n rows) : SlAt M' L n rows := by
  rcases h with h | ⟨b, o, c, blk, pre, post, h1, h2, h3, h4⟩
  · exact .inl h
  · exact .inr ⟨b, o, c, blk, pre, post, h1, hE _ _ h2, h3, h4⟩
mutual
theorem NodeAt.ext {w : Nat} {M M' : Mem} (hE : ∀ id b, M.get id = some b → M'.get id = some b) : ∀ (t : DT) (v : Value), NodeAt w M t v → NodeAt w M' t v
  | .mk xs l, v, h => by
    simp only [NodeAt] at h ⊢
    obtain ⟨L, rows, h1, h2, h3, h4, h5⟩ := h
    exact ⟨L, rows, h1, h2, RowsAt.ext hE l rows h3, h4.ext hE, h5⟩
theorem RowsAt.ext {w : Nat} {M M' : Mem} (hE : ∀ id b, M.get id = some b → M'.get id = some b) : ∀ (l : List DT) (rows : List (List Value)), RowsAt w M l rows → RowsAt w M' l rows
  | [], rows, h => by simp only [RowsAt] at h ⊢; exact h
  | t :: l, rows, h => by
    simp only [RowsAt] at h ⊢
    obtain ⟨r, rest, h1, h2, h3⟩ := h
    exact ⟨r, rest, h1, NodeAt.ext hE t _ h2, RowsAt.ext hE l rest h3⟩
end
theorem NodeAt.row {w : Nat} {M : Mem} {t : DT} {r : List Value} (h : NodeAt w M t (.agg ⟨r⟩)) : r.length = w := by
  obtain ⟨xs, l⟩ := t
  simp only [NodeAt] at h
  obtain ⟨L, rows, h1, h2, _⟩ := h
  cases h1
  simp [h2]
theorem RowsAt.len {w : Nat} {M : Mem} : ∀ {l : List DT} {rows : List (List Value)}, RowsAt w M l rows → rows.length = l.length
  | [], rows, h => by simp only [RowsAt] at h; subst h; rfl
  | t :: l, rows, h => by
    simp only [RowsAt] at h
    obtain ⟨r, rest, rfl, _, h3⟩ := h
    simp [RowsAt.len h3]
theorem RowsAt.wide {w : Nat} {M : Mem} : ∀ {l : List DT} {rows : List (List Value)}, RowsAt w M l rows → ∀ r ∈ rows, r.length = w
  | [], rows, h => by simp only [RowsAt] at h; subst h; intro r hr; cases hr
  | t :: l, rows, h => by
    simp only [RowsAt] at h
    obtain ⟨r, rest, rfl, h2, h3⟩ := h
    intro x hx
    rcases List.mem_cons.1 hx with rfl | hx
    · exact h2.row
    · exact RowsAt.wide h3 x hx
theorem RowsAt.at {w : Nat} {M : Mem} : ∀ {l : List DT} {rows : List (List Value)} {i : Nat} {t : DT}, RowsAt w M l rows → l[i]? = some t → ∃ r, rows[i]? = some r ∧ NodeAt w M t (.agg ⟨r⟩)
  | [], rows, i, t, h, hi => by simp at hi
  | t0 :: l, rows, i, t, h, hi => by
    simp only [RowsAt] at h
    obtain ⟨r, rest, rfl, h2, h3⟩ := h
    cases i with
    | zero => simp at hi; subst hi; exact ⟨r, rfl, h2⟩
    | succ i =>
      simp at hi
      obtain ⟨r', k1, k2⟩ := RowsAt.at h3 hi
      exact ⟨r', by simpa using k1, k2⟩
theorem take_row {n i : Nat} {rows : List (List Value)} {l : List Value} (hr : ∀ r ∈ rows, r.length = n) (hk : rows[i]? = some l) (post : List Value) : takeN n ((rows.flatten ++ post).drop (i * n)) = some l := by
  induction rows generalizing i with
  | nil => simp at hk
  | cons r rows ih =>
    have hl : r.length = n := hr r (List.mem_cons_self ..)
    cases i with
    | zero =>
      simp at hk
      subst hk
      subst hl
      simp only [Nat.zero_mul, List.drop_zero, List.flatten_cons, List.append_assoc]
      exact takeN_append _ _
    | succ i =>
      simp at hk
      rw [List.flatten_cons, Nat.succ_mul, Nat.add_comm, ← List.drop_drop, List.append_assoc]
      rw [show (r ++ (rows.flatten ++ post)).drop n = rows.flatten ++ post by rw [← hl, List.drop_left]]
      exact ih (fun r h => hr r (List.mem_cons_of_mem _ h)) hk
theorem load_elem {w : Nat} {M : Mem} {b o c n i : Nat} {l : List DT} {rows : List (List Value)} {t : DT} {ty : TypeId} (hr : RowsAt w M l rows) (hs : SlAt M (.slice (some ⟨b, o, none⟩) n c) l.length rows) (hi : l[i]? = some t)
    (hd : (P.underlying ty).map isAggD = some true) (hz : (P.info? ty).map (·.size) = some w) : ∃ r, NodeAt w M t (.agg ⟨r⟩) ∧ aload P ty ⟨b, o + i * w, none⟩ M = some (.agg ⟨r⟩) := by
  obtain ⟨r, k1, k2⟩ := hr.at hi
  rcases hs with ⟨_, _, h0⟩ | ⟨b', o', c', blk, pre, post, h1, h2, h3, h4, _⟩
  · rw [List.eq_nil_of_length_eq_zero h0] at hi
    simp at hi
  · simp only [Value.slice.injEq, Option.some.injEq, Addr.mk.injEq] at h1
    obtain ⟨⟨rfl, rfl, _⟩, _, rfl⟩ := h1
    refine ⟨r, k2, aload_agg (a := ⟨b, o + i * w, none⟩) hd hz h2 ?_⟩
    show takeN w (blk.cs.drop (o + i * w)) = some r
    rw [h3, ← h4, ← List.drop_drop, List.append_assoc, List.drop_left]
    exact take_row hr.wide k1 post
theorem rows_unique {n : Nat} : ∀ {r1 r2 : List (List Value)} {p1 p2 : List Value}, (∀ r ∈ r1, r.length = n) → (∀ r ∈ r2, r.length = n) → r1.length = r2.length → r1.flatten ++ p1 = r2.flatten ++ p2 → r1 = r2
  | [], [], _, _, _, _, _, _ => rfl
  | [], _ :: _, _, _, _, _, h, _ => by simp at h
  | _ :: _, [], _, _, _, _, h, _ => by simp at h
  | a :: r1, b :: r2, p1, p2, h1, h2, hl, he => by
    simp only [List.flatten_cons, List.append_assoc] at he
    obtain ⟨rfl, he'⟩ := List.append_inj he (by rw [h1 a (List.mem_cons_self ..), h2 b (List.mem_cons_self ..)])
    rw [rows_unique (fun r h => h1 r (List.mem_cons_of_mem _ h)) (fun r h => h2 r (List.mem_cons_of_mem _ h)) (by simpa using hl) he']
theorem SlAt.unique {w : Nat} {M : Mem} {L : Value} {n1 n2 : Nat} {r1 r2 : List (List Value)} (h1 : SlAt M L n1 r1) (h2 : SlAt M L n2 r2) (l1 : r1.length = n1) (l2 : r2.length = n2) (w1 : ∀ r ∈ r1, r.length = w) (w2 : ∀ r ∈ r2, r.length = w) : n1 = n2 ∧ r1 = r2 := by
  rcases h1 with ⟨a, rfl, rfl⟩ | ⟨b, o, c, blk, pre, post, rfl, k2, k3, k4, _⟩
  · have h0 : n2 = 0 := by
      rcases h2 with ⟨_, _, h0⟩ | ⟨b, o, c, blk, pre, post, k1, _⟩
      · exact h0
      · simp only [Value.slice.injEq] at k1
        exact k1.2.1.symm
    subst h0
    exact ⟨rfl, by rw [List.eq_nil_of_length_eq_zero l1, List.eq_nil_of_length_eq_zero l2]⟩
  · rcases h2 with ⟨_, k1, h0⟩ | ⟨b', o', c', blk', pre', post', k1, q2, q3, q4, _⟩
    · simp only [Value.slice.injEq] at k1
      obtain ⟨_, h1, _⟩ := k1
      subst h0
      subst h1
      exact ⟨rfl, by rw [List.eq_nil_of_length_eq_zero l1, List.eq_nil_of_length_eq_zero l2]⟩
    · simp only [Value.slice.injEq, Option.some.injEq, Addr.mk.injEq] at k1
      obtain ⟨⟨rfl, rfl, _⟩, rfl, rfl⟩ := k1
      rw [k2] at q2
      cases q2
      refine ⟨rfl, ?_⟩
      rw [k3] at q3
      rw [List.append_assoc, List.append_assoc] at q3
      obtain ⟨_, q5⟩ := List.append_inj q3 (by rw [k4, q4])
      exact rows_unique w1 w2 (by rw [l1, l2]) q5
mutual
theorem NodeAt.unique {w : Nat} {M : Mem} : ∀ (t1 t2 : DT) (v : Value), NodeAt w M t1 v → NodeAt w M t2 v → t1 = t2
  | .mk xs1 l1, .mk xs2 l2, v, h1, h2 => by
    simp only [NodeAt] at h1 h2
    obtain ⟨L1, r1, rfl, e1, k1, s1, _⟩ := h1
    obtain ⟨L2, r2, hv, e2, k2, s2, _⟩ := h2
    simp only [Value.agg.injEq, Array.mk.injEq] at hv
    obtain ⟨hx, hL⟩ := List.append_inj hv (by simp; omega)
    cases hL
    obtain ⟨hn, rfl⟩ := s1.unique s2 k1.len k2.len k1.wide k2.wide
    have hxs : xs1 = xs2 := by
      clear s1 s2 k1 k2 hv e1 e2
      induction xs1 generalizing xs2 with
      | nil => cases xs2 with
        | nil => rfl
        | cons b l => simp at hx
      | cons a l ih => cases xs2 with
        | nil => simp at hx
        | cons b l' =>
          simp only [List.map_cons, List.cons.injEq] at hx
          have hab : a = b := by have := hx.1; simp [i64] at this; exact this
          rw [hab, ih l' hx.2]
    rw [hxs, RowsAt.unique l1 l2 r1 k1 k2]
theorem RowsAt.unique {w : Nat} {M : Mem} : ∀ (l1 l2 : List DT) (rows : List (List Value)), RowsAt w M l1 rows → RowsAt w M l2 rows → l1 = l2
  | [], [], _, _, _ => rfl
  | [], _ :: _, rows, h1, h2 => by
    simp only [RowsAt] at h1 h2
    obtain ⟨r, rest, h, _⟩ := h2
    rw [h1] at h; cases h
  | _ :: _, [], rows, h1, h2 => by
    simp only [RowsAt] at h1 h2
    obtain ⟨r, rest, h, _⟩ := h1
    rw [h2] at h; cases h
  | t1 :: l1, t2 :: l2, rows, h1, h2 => by
    simp only [RowsAt] at h1 h2
    obtain ⟨r, rest, rfl, a1, b1⟩ := h1
    obtain ⟨r', rest', hr, a2, b2⟩ := h2
    cases hr
    rw [NodeAt.unique t1 t2 _ a1 a2, RowsAt.unique l1 l2 _ b1 b2]
end
theorem NodeAt.log {w : Nat} {M : Mem} {l : List Nat} {t : DT} {v : Value} (h : NodeAt w M t v) : NodeAt w { M with log := l } t v := NodeAt.ext (M := M) (M' := { M with log := l }) (fun _ _ h => h) t v h
theorem NodeAt.Ext {w : Nat} {M M' : Mem} (hE : Go.Am.Ext M M') {t : DT} {v : Value} (h : NodeAt w M t v) : NodeAt w M' t v := NodeAt.ext (fun _ _ hg => hE.old hg) t v h
theorem aload_ext {M M' : Mem} (hE : Go.Am.Ext M M') {t : TypeId} {a : Addr} {v : Value} (h : aload P t a M = some v) : aload P t a M' = some v := by
  unfold aload at h ⊢
  split at h
  · rename_i d b hd hb
    simp only [hd, hE.old hb]
    exact h
  · cases h
theorem SlAt.form {M : Mem} {L : Value} {n : Nat} {rows : List (List Value)} (h : SlAt M L n rows) : ∃ a c, L = .slice a n c := by
  rcases h with ⟨a, rfl, rfl⟩ | ⟨b, o, c, blk, pre, post, rfl, _⟩
  · exact ⟨_, _, rfl⟩
  · exact ⟨_, _, rfl⟩
theorem SlAt.ln {M : Mem} {a : Option Addr} {n c m : Nat} {rows : List (List Value)} (h : SlAt M (.slice a n c) m rows) : a.isNone = true → n = 0 ∧ c = 0 := by
  intro ha
  rcases h with ⟨a', h, _⟩ | ⟨b, o, c', blk, pre, post, h, _⟩
  · simp only [Value.slice.injEq] at h
    exact ⟨h.2.1, h.2.2⟩
  · simp only [Value.slice.injEq] at h
    obtain ⟨rfl, _⟩ := h
    cases ha
theorem NodeAt.five {M : Mem} {t : DT} {v : Value} (h : NodeAt 5 M t v) : ∃ k s lo hi l a c rows, t = .mk [k, s, lo, hi] l ∧ v = .agg ⟨[i64 k, i64 s, i64 lo, i64 hi, .slice a l.length c]⟩ ∧ RowsAt 5 M l rows ∧ SlAt M (.slice a l.length c) l.length rows ∧ l.length ≤ 9223372036854775807 := by
  obtain ⟨xs, l⟩ := t
  simp only [NodeAt] at h
  obtain ⟨L, rows, rfl, hl, h3, h4, h5⟩ := h
  obtain ⟨a, c, rfl⟩ := h4.form
  match xs, hl with
  | [k, s, lo, hi], _ => exact ⟨k, s, lo, hi, l, a, c, rows, rfl, rfl, h3, h4, h5⟩
theorem NodeAt.three {M : Mem} {t : DT} {v : Value} (h : NodeAt 3 M t v) : ∃ k n l a c rows, t = .mk [k, n] l ∧ v = .agg ⟨[i64 k, i64 n, .slice a l.length c]⟩ ∧ RowsAt 3 M l rows ∧ SlAt M (.slice a l.length c) l.length rows ∧ l.length ≤ 9223372036854775807 := by
  obtain ⟨xs, l⟩ := t
  simp only [NodeAt] at h
  obtain ⟨L, rows, rfl, hl, h3, h4, h5⟩ := h
  obtain ⟨a, c, rfl⟩ := h4.form
  match xs, hl with
  | [k, n], _ => exact ⟨k, n, l, a, c, rows, rfl, rfl, h3, h4, h5⟩
def Qt (w : Nat) (r : DT → List Value → Value) : List Value → Mem → Value → Mem → Prop := fun args M v _ => ∃ x t rest, args = x :: rest ∧ NodeAt w M t x ∧ v = r t rest
theorem Qt.val {w : Nat} {r : DT → List Value → Value} {x : Value} {rest : List Value} {M M' : Mem} {v : Value} {t : DT} (h : NodeAt w M t x) (hq : Qt w r (x :: rest) M v M') : v = r t rest := by
  obtain ⟨x', t', rest', h1, h2, h3⟩ := hq
  cases h1
  rw [h3, NodeAt.unique t' t x h2 h]
theorem Con.qt {f : FuncId} {w : Nat} {r : DT → List Value → Value} {x : Value} {rest : List Value} {M : Mem} {v : Value} {t : DT} (h : NodeAt w M t x) (hv : v = r t rest) (he : ∃ M', Ev P GL f (x :: rest) M v M' ∧ Go.Am.Ext M M') : ∃ v M', Con P GL f (Qt w r) (x :: rest) M v M' := by
  obtain ⟨M', h1, h2⟩ := he
  exact ⟨v, M', h1, h2, x, t, rest, rfl, h, hv⟩
theorem wrap_succ {i : Nat} (h : i < 9223372036854775807) : IntKind.wrap .i64 (((i : Nat) : Int) + 1) = (((i + 1 : Nat)) : Int) := by
  have h2 : ((i : Int) + 1 + 9223372036854775808) % 18446744073709551616 = (i : Int) + 1 + 9223372036854775808 := Int.emod_eq_of_lt (by omega) (by omega)
  simp only [IntKind.wrap, IntKind.bits, IntKind.signed]
  simp
  omega
theorem takeN_get : ∀ {n j : Nat} {l r : List Value}, takeN n l = some r → j < n → l[j]? = r[j]?
  | 0, _, _, _, _, h => absurd h (Nat.not_lt_zero _)
  | n + 1, j, [], r, h, _ => by simp [takeN] at h
  | n + 1, j, v :: l, r, h, hj => by
    simp only [takeN] at h
    split at h
    · rename_i r' hr
      cases h
      cases j with
      | zero => rfl
      | succ j => simpa using takeN_get hr (by omega)
    · cases h
theorem load_part {w : Nat} {M : Mem} {b o c n i j : Nat} {l : List DT} {rows : List (List Value)} {ty : TypeId} {r : List Value} {v : Value} (hr : RowsAt w M l rows) (hs : SlAt M (.slice (some ⟨b, o, none⟩) n c) l.length rows) (hi : rows[i]? = some r)
    (hd : (P.underlying ty).map isAggD = some false) (hv : r[j]? = some v) : aload P ty ⟨b, o + i * w + j, none⟩ M = some v := by
  rcases hs with ⟨_, _, h0⟩ | ⟨b', o', c', blk, pre, post, h1, h2, h3, h4, _⟩
  · have := hr.len
    rw [h0] at this
    rw [List.eq_nil_of_length_eq_zero this] at hi
    simp at hi
  · simp only [Value.slice.injEq, Option.some.injEq, Addr.mk.injEq] at h1
    obtain ⟨⟨rfl, rfl, _⟩, _, rfl⟩ := h1
    refine aload_cell (a := ⟨b, o + i * w + j, none⟩) hd h2 ?_
    show blk.cs[o + i * w + j]? = some v
    have hw : r.length = w := hr.wide _ (List.mem_of_getElem? hi)
    have hj : j < w := by
      rw [← hw]
      by_cases hh : j < r.length
      · exact hh
      · rw [List.getElem?_eq_none (by omega)] at hv; cases hv
    have ht : takeN w (blk.cs.drop (o + i * w)) = some r := by
      rw [h3, ← h4, ← List.drop_drop, List.append_assoc, List.drop_left]
      exact take_row hr.wide hi post
    have := takeN_get ht hj
    rw [List.getElem?_drop] at this
    rw [this, hv]
def Qs (w : Nat) (r : List DT → List Value → Value) : List Value → Mem → Value → Mem → Prop := fun args M v _ => ∃ L l rows rest, args = L :: rest ∧ RowsAt w M l rows ∧ SlAt M L l.length rows ∧ v = r l rest
theorem Qs.val {w : Nat} {r : List DT → List Value → Value} {L : Value} {rest : List Value} {M M' : Mem} {v : Value} {l : List DT} {rows : List (List Value)} (h : RowsAt w M l rows) (hs : SlAt M L l.length rows) (hq : Qs w r (L :: rest) M v M') : v = r l rest := by
  obtain ⟨L', l', rows', rest', h1, h2, h3, h4⟩ := hq
  cases h1
  obtain ⟨_, rfl⟩ := h3.unique hs h2.len h.len h2.wide h.wide
  rw [h4, RowsAt.unique l' l _ h2 h]
theorem Con.qs {f : FuncId} {w : Nat} {r : List DT → List Value → Value} {L : Value} {rest : List Value} {M : Mem} {v : Value} {l : List DT} {rows : List (List Value)} (h : RowsAt w M l rows) (hs : SlAt M L l.length rows) (hv : v = r l rest) (he : ∃ M', Ev P GL f (L :: rest) M v M' ∧ Go.Am.Ext M M') : ∃ v M', Con P GL f (Qs w r) (L :: rest) M v M' := by
  obtain ⟨M', h1, h2⟩ := he
  exact ⟨v, M', h1, h2, L, l, rows, rest, rfl, h, hs, hv⟩
theorem DT.l_lt {xs : List Int} {l l' : List DT} (h : DT.mk xs l' ∈ l) : SizeOf.sizeOf l' < SizeOf.sizeOf l := by
  have := List.sizeOf_lt_of_mem h
  simp at this
  omega
theorem RowsAt.log {w : Nat} {M : Mem} {lg : List Nat} {l : List DT} {rows : List (List Value)} (h : RowsAt w M l rows) : RowsAt w { M with log := lg } l rows := RowsAt.ext (M := M) (M' := { M with log := lg }) (fun _ _ h => h) l rows h
theorem SlAt.log {M : Mem} {lg : List Nat} {L : Value} {n : Nat} {rows : List (List Value)} (h : SlAt M L n rows) : SlAt { M with log := lg } L n rows := SlAt.ext (M := M) (M' := { M with log := lg }) (fun _ _ h => h) h
theorem RowsAt.Ext {w : Nat} {M M' : Mem} (hE : Go.Am.Ext M M') {l : List DT} {rows : List (List Value)} (h : RowsAt w M l rows) : RowsAt w M' l rows := RowsAt.ext (fun _ _ hg => hE.old hg) l rows h
theorem SlAt.Ext {M M' : Mem} (hE : Go.Am.Ext M M') {L : Value} {n : Nat} {rows : List (List Value)} (h : SlAt M L n rows) : SlAt M' L n rows := h.ext (fun _ _ hg => hE.old hg)
def hid (n : Nat) (M : Mem) : Mem := { M with hide := (0, n) :: M.hide }
theorem hid_get {n : Nat} {M : Mem} {id : Nat} {b : ABlk} : (hid n M).get id = some b ↔ n ≤ id ∧ M.get id = some b := by
  rw [get_spec, get_spec]
  simp only [hid, hidden]
  have h0 : Nat.ble 0 id = true := Nat.ble_eq_true_of_le (Nat.zero_le _)
  rw [h0]
  simp only [Bool.true_and, Bool.or_eq_false_iff]
  constructor
  · rintro ⟨h1, ⟨h2, h3⟩, h4⟩
    refine ⟨?_, h1, h3, h4⟩
    by_cases hh : n ≤ id
    · exact hh
    · have : Nat.blt id n = true := Nat.ble_eq_true_of_le (by omega)
      rw [this] at h2; cases h2
  · rintro ⟨h1, h2, h3, h4⟩
    refine ⟨h2, ⟨?_, h3⟩, h4⟩
    cases hb : Nat.blt id n
    · rfl
    · have := Nat.le_of_ble_eq_true hb
      omega
theorem hid_same {n : Nat} {M M' : Mem} (hE : ∀ id, M'.get id = M.get id) {id : Nat} {b : ABlk} (h : (hid n M).get id = some b) : (hid n M').get id = some b := by
  rw [hid_get] at h ⊢
  exact ⟨h.1, (hE id).trans h.2⟩
theorem hid_out {n : Nat} {M : Mem} {id : Nat} {b : ABlk} (h : (hid n M).get id = some b) : M.get id = some b := (hid_get.1 h).2
inductive Small : DT → Prop where
  | mk {xs : List Int} {l : List DT} (h : l.length ≤ 1000) (hl : ∀ t ∈ l, Small t) : Small (.mk xs l)
theorem Small.n0 : ∀ t ∈ ([] : List DT), Small t := fun t h => by cases h
theorem Small.c {t : DT} {l : List DT} (h : Small t) (hl : ∀ x ∈ l, Small x) : ∀ x ∈ t :: l, Small x := fun x hx => by
  rcases List.mem_cons.1 hx with rfl | hx
  · exact h
  · exact hl x hx
theorem Small.inv {xs : List Int} {l : List DT} (h : Small (.mk xs l)) : l.length ≤ 1000 ∧ ∀ t ∈ l, Small t := by
  cases h with
  | mk h hl => exact ⟨h, hl⟩
def Qn (w : Nat) : List Value → Mem → Value → Mem → Prop := fun _ M v M' => ∃ t, Small t ∧ NodeAt w (hid M.next M') t v
theorem Con.qn {f : FuncId} {w : Nat} {args : List Value} {M : Mem} {v : Value} {M' : Mem} (h1 : Ev P GL f args M v M') (h2 : Go.Am.Ext M M') {t : DT} (h3 : NodeAt w (hid M.next M') t v) (h4 : Small t) : ∃ v M', Con P GL f (Qn w) args M v M' := ⟨v, M', h1, h2, t, h4, h3⟩
theorem NodeAt.flat5 {M : Mem} (k s lo hi : Int) : NodeAt 5 M (.mk [k, s, lo, hi] []) (.agg ⟨[i64 k, i64 s, i64 lo, i64 hi, .slice none 0 0]⟩) := by
  simp only [NodeAt]
  exact ⟨.slice none 0 0, [], rfl, rfl, by simp [RowsAt], .inl ⟨none, rfl, rfl⟩, by simp⟩
theorem NodeAt.mk5 {M : Mem} {b c : Nat} {blk : ABlk} {l : List DT} {rows : List (List Value)} (k s lo hi : Int) (hg : M.get b = some blk) (hc : blk.cs = rows.flatten) (he : blk.esz = 5) (hr : RowsAt 5 M l rows) (hl : l.length ≤ 9223372036854775807) : NodeAt 5 M (.mk [k, s, lo, hi] l) (.agg ⟨[i64 k, i64 s, i64 lo, i64 hi, .slice (some ⟨b, 0, none⟩) l.length c]⟩) := by
  simp only [NodeAt]
  exact ⟨_, rows, rfl, rfl, hr, .inr ⟨b, 0, c, blk, [], [], rfl, hg, by simp [hc], rfl, fun r h => (hr.wide r h).trans he.symm⟩, hl⟩
theorem RowsAt.one {w : Nat} {M : Mem} {t : DT} {r : List Value} (h : NodeAt w M t (.agg ⟨r⟩)) : RowsAt w M [t] [r] := by
  simp only [RowsAt]
  exact ⟨r, [], rfl, h, rfl⟩
def hidx (H : List (Nat × Nat)) (M : Mem) : Mem := { M with hide := H ++ M.hide }
theorem hidden_cons {a b n : Nat} {l : List (Nat × Nat)} : hidden ((a, b) :: l) n = true ↔ (a ≤ n ∧ n < b) ∨ hidden l n = true := by
  simp only [hidden, Bool.or_eq_true, Bool.and_eq_true]
  constructor
  · rintro (⟨h1, h2⟩ | h)
    · exact .inl ⟨Nat.le_of_ble_eq_true h1, Nat.le_of_ble_eq_true h2⟩
    · exact .inr h
  · rintro (⟨h1, h2⟩ | h)
    · exact .inl ⟨Nat.ble_eq_true_of_le h1, Nat.ble_eq_true_of_le h2⟩
    · exact .inr h
theorem hidden_none {n : Nat} : hidden [] n = true ↔ False := by simp [hidden]
theorem hidden_app {l r : List (Nat × Nat)} {n : Nat} : hidden (l ++ r) n = true ↔ hidden l n = true ∨ hidden r n = true := by
  induction l with
  | nil => simp [hidden]
  | cons p l ih =>
    obtain ⟨a, b⟩ := p
    rw [List.cons_append, hidden_cons, hidden_cons, ih, or_assoc]
theorem hidx_get {H : List (Nat × Nat)} {M : Mem} {id : Nat} {b : ABlk} : (hidx H M).get id = some b ↔ ¬ hidden H id = true ∧ M.get id = some b := by
  rw [get_spec, get_spec]
  have h1 : hidden (hidx H M).hide id = false ↔ ¬ hidden H id = true ∧ hidden M.hide id = false := by
    show hidden (H ++ M.hide) id = false ↔ _
    cases hb : hidden (H ++ M.hide) id
    · have : ¬ (hidden H id = true ∨ hidden M.hide id = true) := fun h => by rw [hidden_app.2 h] at hb; cases hb
      simp only [not_or] at this
      simp [this.1, this.2]
    · have := hidden_app.1 hb
      simp
      intro h
      rcases this with h2 | h2
      · rw [h] at h2; cases h2
      · exact h2
  constructor
  · rintro ⟨a, b, c⟩; exact ⟨(h1.1 b).1, a, (h1.1 b).2, c⟩
  · rintro ⟨a, b, c, d⟩; exact ⟨b, h1.2 ⟨a, c⟩, d⟩
theorem hidx_ext {H : List (Nat × Nat)} {M M' : Mem} (hE : Go.Am.Ext M M') {id : Nat} {b : ABlk} (h : (hidx H M).get id = some b) : (hidx H M').get id = some b := by
  rw [hidx_get] at h ⊢
  exact ⟨h.1, hE.old h.2⟩
theorem hidx_new {H : List (Nat × Nat)} {M M' : Mem} {x : Nat} (hx : M.next = x) (hE : Go.Am.Ext M M') {id : Nat} {b : ABlk} (h : (hidx H M).get id = some b) : (hidx ((x, x + 1) :: H) M').get id = some b := by
  rw [hidx_get] at h ⊢
  refine ⟨fun hh => ?_, hE.old h.2⟩
  have := Mem.lt_of_get h.2
  rcases hidden_cons.1 hh with hh | hh
  · omega
  · exact h.1 hh
theorem hidx_keep {H : List (Nat × Nat)} {M M' : Mem} {x : Nat} (hk : ∀ id, id ≠ x → id < M.next → M'.get id = M.get id) (hx : ∀ id, ¬ hidden H id = true → id ≠ x) {id : Nat} {b : ABlk} (h : (hidx H M).get id = some b) : (hidx H M').get id = some b := by
  rw [hidx_get] at h ⊢
  exact ⟨h.1, (hk id (hx id h.1) (Mem.lt_of_get h.2)).trans h.2⟩
theorem hidx_mono {H H' : List (Nat × Nat)} {M : Mem} (hh : ∀ id, hidden H' id = true → hidden H id = true) {id : Nat} {b : ABlk} (h : (hidx H M).get id = some b) : (hidx H' M).get id = some b := by
  rw [hidx_get] at h ⊢
  exact ⟨fun k => h.1 (hh id k), h.2⟩
theorem hidx_out {H : List (Nat × Nat)} {M : Mem} {id : Nat} {b : ABlk} (h : (hidx H M).get id = some b) : M.get id = some b := (hidx_get.1 h).2
theorem grow_t {M M0 : Mem} {a : Nat} (hE : Go.Am.Ext M0 M) (ha : M0.next ≤ a) (hM : MemOk M) (blk : ABlk) : ∃ b M1, M.next = b ∧ (M.put a none).alloc blk = M1 ∧ M1.get b = some blk ∧ Go.Am.Ext M0 M1 ∧ MemOk M1 ∧ (∀ id, id ≠ a → id < M.next → M1.get id = M.get id) := by
  have hM' : MemOk (M.put a none) := hM
  refine ⟨_, _, rfl, rfl, alloc_new hM' blk, (hE.put none ha).trans (Go.Am.Ext.alloc _ _), hM'.ext (Go.Am.Ext.alloc _ _), fun id h1 h2 => ?_⟩
  rw [alloc_old blk (show id < (M.put a none).next from h2), put_other none h1]
theorem hidx_grow {H : List (Nat × Nat)} {M M' : Mem} {x y : Nat} (hk : ∀ id, id ≠ x → id < M.next → M'.get id = M.get id) (hy : M.next = y) (hx : ∀ id, ¬ hidden H id = true → id ≠ x) {id : Nat} {b : ABlk} (h : (hidx H M).get id = some b) : (hidx ((y, y + 1) :: H) M').get id = some b := by
  rw [hidx_get] at h ⊢
  have hl := Mem.lt_of_get h.2
  refine ⟨fun hh => ?_, (hk id (hx id h.1) hl).trans h.2⟩
  rcases hidden_cons.1 hh with hh | hh
  · omega
  · exact h.1 hh
theorem RowsAt.cons {w : Nat} {M : Mem} {t : DT} {l : List DT} {r : List Value} {rows : List (List Value)} (h : NodeAt w M t (.agg ⟨r⟩)) (hl : RowsAt w M l rows) : RowsAt w M (t :: l) (r :: rows) := by
  simp only [RowsAt]
  exact ⟨r, rows, rfl, h, hl⟩
theorem hides_low {deps id : Nat} : ∀ {dn : List Done}, (∀ d ∈ dn, d.loud ≠ 0 → id < d.lo) → ¬ hidden (hides deps dn) id = true
  | [], _ => by simp [hides, hidden]
  | x :: dn, h => by
    have ih := hides_low (deps := deps) (dn := dn) fun d hd => h d (List.mem_cons_of_mem _ hd)
    unfold hides
    cases hq : (Nat.beq x.loud 0 || deps.testBit x.ix || Nat.beq x.lo x.hi) <;> simp only [cond_true, cond_false]
    · rw [hidden_cons]
      rintro (h1 | h1)
      · have hl : x.loud ≠ 0 := fun h0 => by rw [h0] at hq; simp at hq
        have := h x (List.mem_cons_self ..) hl
        omega
      · exact ih h1
    · exact ih
end Go.Am
end
