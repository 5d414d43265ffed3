/-
  THE ABSTRACT MACHINE, TOLD: how what was told is held: loads, appends.
-/
import Derived.Test.YtchnlooenomfnaaGreatDoorGAmView
namespace Go.Am
open Go

variable {P : Program} {GL : List Nat} {B : Bd}

theorem takeN_all : ∀ {l : List Value} {n : Nat}, l.length = n → takeN n l = some l
  | [], n, h => by subst h; rfl
  | v :: l, n, h => by
    subst h
    simp only [List.length_cons, takeN]
    rw [takeN_all rfl]

theorem takeN_append : ∀ (a b : List Value), takeN a.length (a ++ b) = some a
  | [], b => rfl
  | v :: a, b => by
    simp only [List.length_cons, List.cons_append, takeN]
    rw [takeN_append a b]

theorem roomy_ok {e : TypeInfo} {n : Nat} (h1 : e.size ≠ 0) (h2 : e.bytes ≤ 1024) (h3 : zeroOk e = true) (hn : n ≤ 2 ^ 30) : roomy e n = true := by
  have h4 : n * e.bytes ≤ 2 ^ 30 * 1024 := Nat.mul_le_mul hn h2
  have b1 : Nat.beq e.size 0 = false := by
    cases hb : Nat.beq e.size 0
    · rfl
    · exact absurd (Nat.eq_of_beq_eq_true hb) h1
  unfold roomy
  rw [b1, h3, Nat.ble_eq_true_of_le (show n ≤ 2 ^ 40 by omega), Nat.ble_eq_true_of_le (show n * e.bytes ≤ 2 ^ 40 by omega), Nat.ble_eq_true_of_le (show e.bytes ≤ 2 ^ 40 by omega)]
  rfl

theorem ap_ok {sT xT elem : TypeId} {xd : TypeDesc} {e : TypeInfo} {id len cap n : Nat} {x : Value} {old new : List Value} {b : ABlk} (h1 : P.underlying sT = some (.slice elem)) (h2 : P.underlying xT = some xd) (h3 : isIntD xd = false)
    (h4 : P.info? elem = some e) (hkt : keepT P elem = false) (h5 : lenV x = some n) (hn : n ≠ 0) (hcap : cap = len) (hold : takeN (len * e.size) b.cs = some old) (hroom : roomy e (len + n) = true) (hnew : new.all isCell = true) (hlen : new.length = n * e.size)
    (hesz : b.esz = e.size) (helem : b.elem = elem) (happ : b.app = true) (hwf : b.wf = 0) (M : Mem) (r : Nat × AR × Mem) (h : appIn P [sT, xT] (.slice (some ⟨id, 0, none⟩) len cap) x M old = some (b, new, r)) :
    aappend P [sT, xT] (.slice (some ⟨id, 0, none⟩) len cap) x M = some r := by
  subst hcap
  unfold appIn at h
  simp only [h1, h4, h5] at h
  split at h
  · rename_i e' n' b' he hn' hb'
    cases he; cases hn'
    split at h
    · rename_i new' hf
      simp only [Option.some.injEq, Prod.mk.injEq] at h
      obtain ⟨rfl, rfl, rfl⟩ := h
      have b1 : Nat.beq n 0 = false := by
        cases hb : Nat.beq n 0
        · rfl
        · exact absurd (Nat.eq_of_beq_eq_true hb) hn
      have b2 : Nat.beq cap (cap + 1) = false := by
        cases hb : Nat.beq cap (cap + 1)
        · rfl
        · exact absurd (Nat.eq_of_beq_eq_true hb) (by omega)

      have b4 : Nat.beq new'.length (n * e.size) = true := by rw [hlen]; exact Nat.beq_refl _
      have b5 : Nat.beq b'.esz e.size = true := by rw [hesz]; exact Nat.beq_refl _
      have b6 : Nat.beq b'.elem elem = true := by rw [helem]; exact Nat.beq_refl _
      unfold aappend
      simp only [h1, h2, h4, h5, h3, hf, hb', range, List.drop_zero, hold, hroom, hnew, b4, b5, b6, b1, b2, happ, hkt, hwf, Option.isNone_none, Bool.not_true, Bool.or_false, Bool.true_and, Bool.false_and, Nat.ble_eq_true_of_le (Nat.zero_le _), Nat.beq_refl, Bool.true_or, cond_false, cond_true]
    · cases h
  · cases h

theorem acall_alloc {cf : CallF} {f : FuncId} {args : List Value} {M : Mem} {v : Value} {b : ABlk} (h : cf f args { M with log := [] } = some (v, ({ M with log := [] } : Mem).alloc b)) : acall cf f args M = some (1, .val v, M.alloc b) := by
  unfold acall
  rw [h]
  rfl
theorem acall_same {cf : CallF} {f : FuncId} {args : List Value} {M : Mem} {v : Value} (h : cf f args { M with log := [] } = some (v, { M with log := [] })) : acall cf f args M = some (1, .val v, M) := by
  unfold acall
  rw [h]
  rfl

theorem st_ok {t : TypeId} {i : TypeInfo} {off : Nat} {v : Value} {new : List Value} {b : ABlk} (h1 : P.info? t = some i) (h2 : v.cells.toList.length = i.size) (h3 : v.cells.toList.all isCell = true) (h4 : b.wf = 0) (h5 : off + i.size ≤ b.cs.length)
    (h6 : splice b.cs off v.cells.toList = new) (M : Mem) (id : Nat) (h : M.get id = some b) : astore P t ⟨id, off, none⟩ v M = some (M.put id (some { b with cs := new })) := by
  unfold astore
  simp only [h, h1]
  rw [h2, Nat.beq_refl, h3, h4, Nat.ble_eq_true_of_le (Nat.zero_le _), Nat.ble_eq_true_of_le h5, h6]
  rfl

theorem splice_one : ∀ (l : List Value) (n : Nat) (v : Value), n < l.length → splice l n [v] = l.set n v
  | [], n, v, h => absurd h (Nat.not_lt_zero _)
  | c :: l, 0, v, _ => by cases l <;> rfl
  | c :: l, n + 1, v, h => by
    show c :: splice l n [v] = _
    rw [splice_one l n v (by simpa using h)]
    rfl

end Go.Am
