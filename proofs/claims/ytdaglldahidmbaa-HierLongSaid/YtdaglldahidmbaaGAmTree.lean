/-
  Package hier: each of its laws for every argument; no conditions. The last text states which.
-/
import Derived.Test.YtdaglldahidmbaaAmT
import Derived.Test.YtdaglldahidmbaaGAmLoop
set_option linter.unusedVariables false
set_option linter.unusedSimpArgs false
noncomputable section
namespace Go.Am
open Go
variable {P : Program} {GL : List Nat}
def SlAt (M : Mem) (L : Value) (n : Nat) (rows : List (List Value)) : Prop :=
  ((∃ a, L = .slice a 0 0 ∧ n = 0) : Prop) ∨ ∃ b o c blk pre post, L = .slice (some ⟨b, o, none⟩) n c ∧ M.get b = some blk ∧ blk.cs = pre ++ rows.flatten ++ post ∧ pre.length = o ∧ ∀ r ∈ rows, r.length = blk.esz
theorem SlAt.ext {M M' : Mem} (hE : ∀ id b, M.get id = some b → M'.get id = some b) {L : Value} {n : Nat} {rows : List (List Value)} (h : SlAt M L n rows) : SlAt M' L n rows := by
  rcases h with h | ⟨b, o, c, blk, pre, post, h1, h2, h3, h4⟩
  · exact .inl h
  · exact .inr ⟨b, o, c, blk, pre, post, h1, hE _ _ h2, h3, h4⟩
theorem take_row {n i : Nat} {rows : List (List Value)} {l : List Value} (hr : ∀ r ∈ rows, r.length = n) (hk : rows[i]? = some l) (post : List Value) : takeN n ((rows.flatten ++ post).drop (i * n)) = some l := by
  induction rows generalizing i with
  | nil => simp at hk
  | cons r rows ih =>
    have hl : r.length = n := hr r (List.mem_cons_self ..)
    cases i with
    | zero =>
      simp at hk
      subst hk
      subst hl
      simp only [Nat.zero_mul, List.drop_zero, List.flatten_cons, List.append_assoc]
      exact takeN_append _ _
    | succ i =>
      simp at hk
      rw [List.flatten_cons, Nat.succ_mul, Nat.add_comm, ← List.drop_drop, List.append_assoc]
      rw [show (r ++ (rows.flatten ++ post)).drop n = rows.flatten ++ post by rw [← hl, List.drop_left]]
      exact ih (fun r h => hr r (List.mem_cons_of_mem _ h)) hk
theorem rows_unique {n : Nat} : ∀ {r1 r2 : List (List Value)} {p1 p2 : List Value}, (∀ r ∈ r1, r.length = n) → (∀ r ∈ r2, r.length = n) → r1.length = r2.length → r1.flatten ++ p1 = r2.flatten ++ p2 → r1 = r2
  | [], [], _, _, _, _, _, _ => rfl
  | [], _ :: _, _, _, _, _, h, _ => by simp at h
  | _ :: _, [], _, _, _, _, h, _ => by simp at h
  | a :: r1, b :: r2, p1, p2, h1, h2, hl, he => by
    simp only [List.flatten_cons, List.append_assoc] at he
    obtain ⟨rfl, he'⟩ := List.append_inj he (by rw [h1 a (List.mem_cons_self ..), h2 b (List.mem_cons_self ..)])
    rw [rows_unique (fun r h => h1 r (List.mem_cons_of_mem _ h)) (fun r h => h2 r (List.mem_cons_of_mem _ h)) (by simpa using hl) he']
theorem SlAt.unique {w : Nat} {M : Mem} {L : Value} {n1 n2 : Nat} {r1 r2 : List (List Value)} (h1 : SlAt M L n1 r1) (h2 : SlAt M L n2 r2) (l1 : r1.length = n1) (l2 : r2.length = n2) (w1 : ∀ r ∈ r1, r.length = w) (w2 : ∀ r ∈ r2, r.length = w) : n1 = n2 ∧ r1 = r2 := by
  rcases h1 with ⟨a, rfl, rfl⟩ | ⟨b, o, c, blk, pre, post, rfl, k2, k3, k4, _⟩
  · have h0 : n2 = 0 := by
      rcases h2 with ⟨_, _, h0⟩ | ⟨b, o, c, blk, pre, post, k1, _⟩
      · exact h0
      · simp only [Value.slice.injEq] at k1
        exact k1.2.1.symm
    subst h0
    exact ⟨rfl, by rw [List.eq_nil_of_length_eq_zero l1, List.eq_nil_of_length_eq_zero l2]⟩
  · rcases h2 with ⟨_, k1, h0⟩ | ⟨b', o', c', blk', pre', post', k1, q2, q3, q4, _⟩
    · simp only [Value.slice.injEq] at k1
      obtain ⟨_, h1, _⟩ := k1
      subst h0
      subst h1
      exact ⟨rfl, by rw [List.eq_nil_of_length_eq_zero l1, List.eq_nil_of_length_eq_zero l2]⟩
    · simp only [Value.slice.injEq, Option.some.injEq, Addr.mk.injEq] at k1
      obtain ⟨⟨rfl, rfl, _⟩, rfl, rfl⟩ := k1
      rw [k2] at q2
      cases q2
      refine ⟨rfl, ?_⟩
      rw [k3] at q3
      rw [List.append_assoc, List.append_assoc] at q3
      obtain ⟨_, q5⟩ := List.append_inj q3 (by rw [k4, q4])
      exact rows_unique w1 w2 (by rw [l1, l2]) q5
theorem aload_ext {M M' : Mem} (hE : Go.Am.Ext M M') {t : TypeId} {a : Addr} {v : Value} (h : aload P t a M = some v) : aload P t a M' = some v := by
  unfold aload at h ⊢
  split at h
  · rename_i d b hd hb
    simp only [hd, hE.old hb]
    exact h
  · cases h
theorem SlAt.form {M : Mem} {L : Value} {n : Nat} {rows : List (List Value)} (h : SlAt M L n rows) : ∃ a c, L = .slice a n c := by
  rcases h with ⟨a, rfl, rfl⟩ | ⟨b, o, c, blk, pre, post, rfl, _⟩
  · exact ⟨_, _, rfl⟩
  · exact ⟨_, _, rfl⟩
theorem SlAt.ln {M : Mem} {a : Option Addr} {n c m : Nat} {rows : List (List Value)} (h : SlAt M (.slice a n c) m rows) : a.isNone = true → n = 0 ∧ c = 0 := by
  intro ha
  rcases h with ⟨a', h, _⟩ | ⟨b, o, c', blk, pre, post, h, _⟩
  · simp only [Value.slice.injEq] at h
    exact ⟨h.2.1, h.2.2⟩
  · simp only [Value.slice.injEq] at h
    obtain ⟨rfl, _⟩ := h
    cases ha
theorem wrap_succ {i : Nat} (h : i < 9223372036854775807) : IntKind.wrap .i64 (((i : Nat) : Int) + 1) = (((i + 1 : Nat)) : Int) := by
  have h2 : ((i : Int) + 1 + 9223372036854775808) % 18446744073709551616 = (i : Int) + 1 + 9223372036854775808 := Int.emod_eq_of_lt (by omega) (by omega)
  simp only [IntKind.wrap, IntKind.bits, IntKind.signed]
  simp
  omega
theorem takeN_get : ∀ {n j : Nat} {l r : List Value}, takeN n l = some r → j < n → l[j]? = r[j]?
  | 0, _, _, _, _, h => absurd h (Nat.not_lt_zero _)
  | n + 1, j, [], r, h, _ => by simp [takeN] at h
  | n + 1, j, v :: l, r, h, hj => by
    simp only [takeN] at h
    split at h
    · rename_i r' hr
      cases h
      cases j with
      | zero => rfl
      | succ j => simpa using takeN_get hr (by omega)
    · cases h
theorem SlAt.log {M : Mem} {lg : List Nat} {L : Value} {n : Nat} {rows : List (List Value)} (h : SlAt M L n rows) : SlAt { M with log := lg } L n rows := SlAt.ext (M := M) (M' := { M with log := lg }) (fun _ _ h => h) h
theorem SlAt.Ext {M M' : Mem} (hE : Go.Am.Ext M M') {L : Value} {n : Nat} {rows : List (List Value)} (h : SlAt M L n rows) : SlAt M' L n rows := h.ext (fun _ _ hg => hE.old hg)
def hid (n : Nat) (M : Mem) : Mem := { M with hide := (0, n) :: M.hide }
theorem hid_get {n : Nat} {M : Mem} {id : Nat} {b : ABlk} : (hid n M).get id = some b ↔ n ≤ id ∧ M.get id = some b := by
  rw [get_spec, get_spec]
  simp only [hid, hidden]
  have h0 : Nat.ble 0 id = true := Nat.ble_eq_true_of_le (Nat.zero_le _)
  rw [h0]
  simp only [Bool.true_and, Bool.or_eq_false_iff]
  constructor
  · rintro ⟨h1, ⟨h2, h3⟩, h4⟩
    refine ⟨?_, h1, h3, h4⟩
    by_cases hh : n ≤ id
    · exact hh
    · have : Nat.blt id n = true := Nat.ble_eq_true_of_le (by omega)
      rw [this] at h2; cases h2
  · rintro ⟨h1, h2, h3, h4⟩
    refine ⟨h2, ⟨?_, h3⟩, h4⟩
    cases hb : Nat.blt id n
    · rfl
    · have := Nat.le_of_ble_eq_true hb
      omega
theorem hid_out {n : Nat} {M : Mem} {id : Nat} {b : ABlk} (h : (hid n M).get id = some b) : M.get id = some b := (hid_get.1 h).2
end Go.Am
end

set_option linter.unusedVariables false
set_option linter.unusedSimpArgs false
noncomputable section
namespace Go.Am
open Go
variable {P : Program}
end Go.Am
end

set_option linter.unusedVariables false
set_option linter.unusedSimpArgs false
noncomputable section
namespace Go.Am
open Go Go.ChangeShapes Go.WideShapes
variable {P : Program} {w : World}
section
variable {H : Type} {enc : TypeId × Value → H} {S E : TypeId} {k : Nat} {fs : Array Field}
end
end Go.Am
end

set_option linter.unusedVariables false
set_option linter.unusedSimpArgs false
noncomputable section
namespace Go.Am
open Go Go.ChangeShapes Go.WideShapes
variable {P : Program} {GL : List Nat} {w : World} {φ : Emb}
theorem MemOk.start (l : List (Nat × ABlk)) (n : Nat) : MemOk (startMem l n) := fun id h => by simp [startMem, hidden] at h
section
variable {H : Type} {enc : TypeId × Value → H} {S E : TypeId} {k : Nat} {fs : Array Field} {held : Bool}
end
end Go.Am
end

set_option linter.unusedVariables false
set_option linter.unusedSimpArgs false
noncomputable section
namespace Go.Am
open Go Go.ChangeShapes Go.WideShapes
variable {P : Program} {w : World} {H : Type} {enc : TypeId × Value → H} {S E : TypeId} {k : Nat} {fs : Array Field} {held : Bool}
end Go.Am
end

set_option linter.unusedVariables false
set_option linter.unusedSimpArgs false
noncomputable section
namespace Go.Am
open Go
variable {P : Program}
end Go.Am
end
noncomputable section
namespace Go.Am
open Go
variable {P : Program}
end Go.Am
end
noncomputable section
namespace Go.Am
open Go
end Go.Am
end

set_option linter.unusedVariables false
set_option linter.unusedSimpArgs false
noncomputable section
namespace Go.Am
open Go Go.ChangeShapes Go.WideShapes
variable {P : Program} {w : World} {H : Type} {enc : TypeId × Value → H} {S E : TypeId} {d : Nat}
end Go.Am
end

set_option linter.unusedVariables false
set_option linter.unusedSimpArgs false
noncomputable section
namespace Go.Am
open Go Go.ChangeShapes Go.WideShapes
variable {P : Program} {w : World} {H : Type} {enc : TypeId × Value → H} {S E : TypeId} {d : Nat}
structure GRowsAt {α : Type} (g : α → List Value) (w : Nat) (M : Mem) (L : Value) (l : List α) : Prop where
  at_ : SlAt M L l.length (l.map g)
  wide : ∀ r ∈ l, (g r).length = w
  len : l.length ≤ 9223372036854775807
section
variable {α : Type} {g : α → List Value} {w : Nat} {M M' : Mem} {L : Value} {l : List α}
theorem GRowsAt.ext (h : GRowsAt g w M L l) (hE : ∀ id b, M.get id = some b → M'.get id = some b) : GRowsAt g w M' L l := ⟨h.at_.ext hE, h.wide, h.len⟩
theorem GRowsAt.Ext (h : GRowsAt g w M L l) (hE : Go.Am.Ext M M') : GRowsAt g w M' L l := h.ext fun _ _ hg => hE.old hg
theorem GRowsAt.log {lg : List Nat} (h : GRowsAt g w M L l) : GRowsAt g w { M with log := lg } L l := h.ext (M := M) (M' := { M with log := lg }) fun _ _ hg => hg
theorem GRowsAt.form (h : GRowsAt g w M L l) : ∃ a c, L = .slice a l.length c := SlAt.form h.at_
theorem GRowsAt.ln {a : Option Addr} {n c : Nat} (h : GRowsAt g w M (.slice a n c) l) : a.isNone = true → n = 0 ∧ c = 0 := SlAt.ln h.at_
theorem map_inj_of (hg : ∀ x y, g x = g y → x = y) : ∀ {l1 l2 : List α}, l1.map g = l2.map g → l1 = l2
  | [], [], _ => rfl
  | [], _ :: _, h => by simp at h
  | _ :: _, [], h => by simp at h
  | a :: l1, b :: l2, h => by
    simp only [List.map_cons, List.cons.injEq] at h
    rw [hg _ _ h.1, map_inj_of hg h.2]
theorem GRowsAt.unique {l1 l2 : List α} (hg : ∀ x y, g x = g y → x = y) (h1 : GRowsAt g w M L l1) (h2 : GRowsAt g w M L l2) : l1 = l2 :=
  map_inj_of hg (SlAt.unique h1.at_ h2.at_ (List.length_map _) (List.length_map _) (fun r hr => by obtain ⟨y, e, rfl⟩ := List.mem_map.1 hr; exact h1.wide y e) (fun r hr => by obtain ⟨y, e, rfl⟩ := List.mem_map.1 hr; exact h2.wide y e)).2
end
abbrev bRow (b : Bool) : List Value := [.bool b]
theorem bRow_inj (x y : Bool) (h : bRow x = bRow y) : x = y := by simpa [bRow] using h
end Go.Am
end
