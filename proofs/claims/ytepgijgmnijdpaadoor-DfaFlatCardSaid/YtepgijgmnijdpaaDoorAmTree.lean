/-
  DfaFlat: with all states turned to accept what they did not a machine takes just what it did not
-/
import Derived.Test.YtepgijgmnijdpaaDoorAmT
import Derived.Test.YtepgijgmnijdpaaDoorAmLib
noncomputable section
namespace Go.Am
open Go
variable {P : Program} {GL : List Nat}
inductive DT where
  | mk (xs : List Int) (l : List DT)
def DT.l : DT → List DT
  | .mk _ l => l
def SlAt (M : Mem) (L : Value) (n : Nat) (rows : List (List Value)) : Prop :=
  ((∃ a, L = .slice a 0 0 ∧ n = 0) : Prop) ∨ ∃ b o c blk pre post, L = .slice (some ⟨b, o, none⟩) n c ∧ M.get b = some blk ∧ blk.cs = pre ++ rows.flatten ++ post ∧ pre.length = o ∧ ∀ r ∈ rows, r.length = blk.esz
theorem SlAt.ext {M M' : Mem} (hE : ∀ id b, M.get id = some b → M'.get id = some b) {L : Value} {n : Nat} {rows : List (List Value)} (h : SlAt M L n rows) : SlAt M' L n rows := by
  rcases h with h | ⟨b, o, c, blk, pre, post, h1, h2, h3, h4⟩
  · exact .inl h
  · exact .inr ⟨b, o, c, blk, pre, post, h1, hE _ _ h2, h3, h4⟩
theorem take_row {n i : Nat} {rows : List (List Value)} {l : List Value} (hr : ∀ r ∈ rows, r.length = n) (hk : rows[i]? = some l) (post : List Value) : takeN n ((rows.flatten ++ post).drop (i * n)) = some l := by
  induction rows generalizing i with
  | nil => simp at hk
  | cons r rows ih =>
    have hl : r.length = n := hr r (List.mem_cons_self ..)
    cases i with
    | zero =>
      simp at hk
      subst hk
      subst hl
      simp only [Nat.zero_mul, List.drop_zero, List.flatten_cons, List.append_assoc]
      exact takeN_append _ _
    | succ i =>
      simp at hk
      rw [List.flatten_cons, Nat.succ_mul, Nat.add_comm, ← List.drop_drop, List.append_assoc]
      rw [show (r ++ (rows.flatten ++ post)).drop n = rows.flatten ++ post by rw [← hl, List.drop_left]]
      exact ih (fun r h => hr r (List.mem_cons_of_mem _ h)) hk
theorem rows_unique {n : Nat} : ∀ {r1 r2 : List (List Value)} {p1 p2 : List Value}, (∀ r ∈ r1, r.length = n) → (∀ r ∈ r2, r.length = n) → r1.length = r2.length → r1.flatten ++ p1 = r2.flatten ++ p2 → r1 = r2
  | [], [], _, _, _, _, _, _ => rfl
  | [], _ :: _, _, _, _, _, h, _ => by simp at h
  | _ :: _, [], _, _, _, _, h, _ => by simp at h
  | a :: r1, b :: r2, p1, p2, h1, h2, hl, he => by
    simp only [List.flatten_cons, List.append_assoc] at he
    obtain ⟨rfl, he'⟩ := List.append_inj he (by rw [h1 a (List.mem_cons_self ..), h2 b (List.mem_cons_self ..)])
    rw [rows_unique (fun r h => h1 r (List.mem_cons_of_mem _ h)) (fun r h => h2 r (List.mem_cons_of_mem _ h)) (by simpa using hl) he']
theorem SlAt.unique {w : Nat} {M : Mem} {L : Value} {n1 n2 : Nat} {r1 r2 : List (List Value)} (h1 : SlAt M L n1 r1) (h2 : SlAt M L n2 r2) (l1 : r1.length = n1) (l2 : r2.length = n2) (w1 : ∀ r ∈ r1, r.length = w) (w2 : ∀ r ∈ r2, r.length = w) : n1 = n2 ∧ r1 = r2 := by
  rcases h1 with ⟨a, rfl, rfl⟩ | ⟨b, o, c, blk, pre, post, rfl, k2, k3, k4, _⟩
  · have h0 : n2 = 0 := by
      rcases h2 with ⟨_, _, h0⟩ | ⟨b, o, c, blk, pre, post, k1, _⟩
      · exact h0
      · simp only [Value.slice.injEq] at k1
        exact k1.2.1.symm
    subst h0
    exact ⟨rfl, by rw [List.eq_nil_of_length_eq_zero l1, List.eq_nil_of_length_eq_zero l2]⟩
  · rcases h2 with ⟨_, k1, h0⟩ | ⟨b', o', c', blk', pre', post', k1, q2, q3, q4, _⟩
    · simp only [Value.slice.injEq] at k1
      obtain ⟨_, h1, _⟩ := k1
      subst h0
      subst h1
      exact ⟨rfl, by rw [List.eq_nil_of_length_eq_zero l1, List.eq_nil_of_length_eq_zero l2]⟩
    · simp only [Value.slice.injEq, Option.some.injEq, Addr.mk.injEq] at k1
      obtain ⟨⟨rfl, rfl, _⟩, rfl, rfl⟩ := k1
      rw [k2] at q2
      cases q2
      refine ⟨rfl, ?_⟩
      rw [k3] at q3
      rw [List.append_assoc, List.append_assoc] at q3
      obtain ⟨_, q5⟩ := List.append_inj q3 (by rw [k4, q4])
      exact rows_unique w1 w2 (by rw [l1, l2]) q5
theorem aload_ext {M M' : Mem} (hE : Go.Am.Ext M M') {t : TypeId} {a : Addr} {v : Value} (h : aload P t a M = some v) : aload P t a M' = some v := by
  unfold aload at h ⊢
  split at h
  · rename_i d b hd hb
    simp only [hd, hE.old hb]
    exact h
  · cases h
theorem SlAt.form {M : Mem} {L : Value} {n : Nat} {rows : List (List Value)} (h : SlAt M L n rows) : ∃ a c, L = .slice a n c := by
  rcases h with ⟨a, rfl, rfl⟩ | ⟨b, o, c, blk, pre, post, rfl, _⟩
  · exact ⟨_, _, rfl⟩
  · exact ⟨_, _, rfl⟩
theorem SlAt.ln {M : Mem} {a : Option Addr} {n c m : Nat} {rows : List (List Value)} (h : SlAt M (.slice a n c) m rows) : a.isNone = true → n = 0 ∧ c = 0 := by
  intro ha
  rcases h with ⟨a', h, _⟩ | ⟨b, o, c', blk, pre, post, h, _⟩
  · simp only [Value.slice.injEq] at h
    exact ⟨h.2.1, h.2.2⟩
  · simp only [Value.slice.injEq] at h
    obtain ⟨rfl, _⟩ := h
    cases ha
theorem wrap_succ {i : Nat} (h : i < 9223372036854775807) : IntKind.wrap .i64 (((i : Nat) : Int) + 1) = (((i + 1 : Nat)) : Int) := by
  have h2 : ((i : Int) + 1 + 9223372036854775808) % 18446744073709551616 = (i : Int) + 1 + 9223372036854775808 := Int.emod_eq_of_lt (by omega) (by omega)
  simp only [IntKind.wrap, IntKind.bits, IntKind.signed]
  simp
  omega
theorem takeN_get : ∀ {n j : Nat} {l r : List Value}, takeN n l = some r → j < n → l[j]? = r[j]?
  | 0, _, _, _, _, h => absurd h (Nat.not_lt_zero _)
  | n + 1, j, [], r, h, _ => by simp [takeN] at h
  | n + 1, j, v :: l, r, h, hj => by
    simp only [takeN] at h
    split at h
    · rename_i r' hr
      cases h
      cases j with
      | zero => rfl
      | succ j => simpa using takeN_get hr (by omega)
    · cases h
theorem SlAt.log {M : Mem} {lg : List Nat} {L : Value} {n : Nat} {rows : List (List Value)} (h : SlAt M L n rows) : SlAt { M with log := lg } L n rows := SlAt.ext (M := M) (M' := { M with log := lg }) (fun _ _ h => h) h
theorem SlAt.Ext {M M' : Mem} (hE : Go.Am.Ext M M') {L : Value} {n : Nat} {rows : List (List Value)} (h : SlAt M L n rows) : SlAt M' L n rows := h.ext (fun _ _ hg => hE.old hg)
def hid (n : Nat) (M : Mem) : Mem := { M with hide := (0, n) :: M.hide }
def hidx (H : List (Nat × Nat)) (M : Mem) : Mem := { M with hide := H ++ M.hide }
theorem hidden_cons {a b n : Nat} {l : List (Nat × Nat)} : hidden ((a, b) :: l) n = true ↔ (a ≤ n ∧ n < b) ∨ hidden l n = true := by
  simp only [hidden, Bool.or_eq_true, Bool.and_eq_true]
  constructor
  · rintro (⟨h1, h2⟩ | h)
    · exact .inl ⟨Nat.le_of_ble_eq_true h1, Nat.le_of_ble_eq_true h2⟩
    · exact .inr h
  · rintro (⟨h1, h2⟩ | h)
    · exact .inl ⟨Nat.ble_eq_true_of_le h1, Nat.ble_eq_true_of_le h2⟩
    · exact .inr h
theorem hidden_app {l r : List (Nat × Nat)} {n : Nat} : hidden (l ++ r) n = true ↔ hidden l n = true ∨ hidden r n = true := by
  induction l with
  | nil => simp [hidden]
  | cons p l ih =>
    obtain ⟨a, b⟩ := p
    rw [List.cons_append, hidden_cons, hidden_cons, ih, or_assoc]
theorem hidx_get {H : List (Nat × Nat)} {M : Mem} {id : Nat} {b : ABlk} : (hidx H M).get id = some b ↔ ¬ hidden H id = true ∧ M.get id = some b := by
  rw [get_spec, get_spec]
  have h1 : hidden (hidx H M).hide id = false ↔ ¬ hidden H id = true ∧ hidden M.hide id = false := by
    show hidden (H ++ M.hide) id = false ↔ _
    cases hb : hidden (H ++ M.hide) id
    · have : ¬ (hidden H id = true ∨ hidden M.hide id = true) := fun h => by rw [hidden_app.2 h] at hb; cases hb
      simp only [not_or] at this
      simp [this.1, this.2]
    · have := hidden_app.1 hb
      simp
      intro h
      rcases this with h2 | h2
      · rw [h] at h2; cases h2
      · exact h2
  constructor
  · rintro ⟨a, b, c⟩; exact ⟨(h1.1 b).1, a, (h1.1 b).2, c⟩
  · rintro ⟨a, b, c, d⟩; exact ⟨b, h1.2 ⟨a, c⟩, d⟩
theorem grow_t {M M0 : Mem} {a : Nat} (hE : Go.Am.Ext M0 M) (ha : M0.next ≤ a) (hM : MemOk M) (blk : ABlk) : ∃ b M1, M.next = b ∧ (M.put a none).alloc blk = M1 ∧ M1.get b = some blk ∧ Go.Am.Ext M0 M1 ∧ MemOk M1 ∧ (∀ id, id ≠ a → id < M.next → M1.get id = M.get id) := by
  have hM' : MemOk (M.put a none) := hM
  refine ⟨_, _, rfl, rfl, alloc_new hM' blk, (hE.put none ha).trans (Go.Am.Ext.alloc _ _), hM'.ext (Go.Am.Ext.alloc _ _), fun id h1 h2 => ?_⟩
  rw [alloc_old blk (show id < (M.put a none).next from h2), put_other none h1]
theorem hides_low {deps id : Nat} : ∀ {dn : List Done}, (∀ d ∈ dn, d.loud ≠ 0 → id < d.lo) → ¬ hidden (hides deps dn) id = true
  | [], _ => by simp [hides, hidden]
  | x :: dn, h => by
    have ih := hides_low (deps := deps) (dn := dn) fun d hd => h d (List.mem_cons_of_mem _ hd)
    unfold hides
    cases hq : (Nat.beq x.loud 0 || deps.testBit x.ix || Nat.beq x.lo x.hi) <;> simp only [cond_true, cond_false]
    · rw [hidden_cons]
      rintro (h1 | h1)
      · have hl : x.loud ≠ 0 := fun h0 => by rw [h0] at hq; simp at hq
        have := h x (List.mem_cons_self ..) hl
        omega
      · exact ih h1
    · exact ih
end Go.Am
end
