/-
  THE ABSTRACT MACHINE: rows made, cells stored, as they were told.
-/
import Derived.Test.YthocfeccinpbmaaAmLib
namespace Go.Am
open Go

variable {P : Program}

/- A type of one cell, with its zero. -/
structure OneCell (P : Program) (t : TypeId) (z : Value) : Prop where
  ex : ∃ e, P.info? t = some e ∧ e.size = 1 ∧ Nat.ble e.bytes 1024 = true ∧ e.zero = some z
  flat : Go.Am.flat z = true
  one : z.cells.toList = [z]
  cell : isCell z = true

theorem repN_one (k : Nat) (z : Value) : repN k [z] = List.replicate k z := by
  induction k with
  | zero => rfl
  | succ k ih => simp only [repN, ih, List.replicate_succ]; rfl

theorem mk_row {t elem : TypeId} {z : Value} (hu : P.underlying t = some (.slice elem)) (hz : OneCell P elem z) {k next : Nat} (hk : k < 2 ^ 37) {SP : Specs} {D : Nat → Door} {ids : List Nat} :
    (QV.mk t (i64 (k : Int)) (i64 (k : Int)) next (.val (.slice (some ⟨next, 0, none⟩) k (k + 1))) ⟨List.replicate k z, elem, 1, 0, true⟩).holds P SP D ids := fun M hM => by
  subst hM
  obtain ⟨e, h1, h2, h3, h4⟩ := hz.ex
  have h5 : (decide ((0 : Int) ≤ (k : Int)) && decide ((k : Int) ≤ (k : Int)) && decide ((k : Int) < 2 ^ 37)) = true := by
    simp only [Bool.and_eq_true, decide_eq_true_eq]; omega
  simp only [Bool.and_eq_true] at h5
  have h6 : [z].all isCell = true := by simp [hz.cell]
  have h7 : Nat.beq 1 0 = false := rfl
  unfold amakeSlice
  simp only [hu, h1, h4, hz.flat, hz.one, h2, h3, h5.1.1, h5.1.2, h5.2, Bool.and_true, List.length_cons, List.length_nil, Nat.zero_add, Nat.beq_refl, made, anew, Int.toNat_natCast, repN_one, h6, h7, Bool.not_false, cond_true]
  rfl

theorem st_cell {t : TypeId} {v : Value} {off e w : Nat} {cs : List Value} {a : Bool} {z : Value} (hz : OneCell P t z) (hv : v.cells.toList = [v]) (hc : isCell v = true) (h : off < cs.length) (hw : w = 0) {SP : Specs} {D : Nat → Door} {ids : List Nat} :
    (QV.st t off v (splice cs off [v]) ⟨cs, e, 1, w, a⟩).holds P SP D ids := fun M id hM => by
  obtain ⟨i, h1, h2, _⟩ := hz.ex
  have h6 : splice cs off v.cells.toList = splice cs off [v] := by rw [hv]
  exact st_ok h1 (by rw [hv, h2]; rfl) (by rw [hv]; simp [hc]) hw (by rw [h2]; exact h) h6 M id hM
theorem st_cell' {t : TypeId} {v : Value} {off e w : Nat} {cs new : List Value} {a : Bool} {z : Value} (hz : OneCell P t z) (hv : v.cells.toList = [v]) (hc : isCell v = true) (h : off < cs.length) (hw : w = 0) (hn : cs.set off v = new) {SP : Specs} {D : Nat → Door} {ids : List Nat} :
    (QV.st t off v new ⟨cs, e, 1, w, a⟩).holds P SP D ids := by
  subst hn
  rw [← splice_one cs off v h]
  exact st_cell hz hv hc h hw
end Go.Am
namespace Go.Am
open Go
variable {P : Program}
theorem mk_row' {t elem : TypeId} {z : Value} (hu : P.underlying t = some (.slice elem)) (hz : OneCell P elem z) {n : Int} {next : Nat} (h0 : 0 ≤ n) (hn : n < 2 ^ 37) {SP : Specs} {D : Nat → Door} {ids : List Nat} :
    (QV.mk t (i64 n) (i64 n) next (.val (.slice (some ⟨next, 0, none⟩) n.toNat (n.toNat + 1))) ⟨List.replicate n.toNat z, elem, 1, 0, true⟩).holds P SP D ids := by
  obtain ⟨k, rfl⟩ := Int.eq_ofNat_of_zero_le h0
  rw [Int.toNat_natCast]
  exact mk_row hu hz (by omega)
theorem set_hit {l : List Value} {off : Nat} {v : Value} (h : off < l.length) : (l.set off v)[off]? = some v := by
  rw [List.getElem?_set, if_pos rfl, if_pos h]
theorem set_miss {l : List Value} {off o : Nat} {v z : Value} (h : off ≠ o) (hl : l[o]? = some z) : (l.set off v)[o]? = some z := by
  rw [List.getElem?_set, if_neg h, hl]
theorem rep_get {k off : Nat} {z : Value} (h : off < k) : (List.replicate k z)[off]? = some z := by rw [List.getElem?_replicate, if_pos h]
theorem splice_hit {l : List Value} {off : Nat} {v : Value} (h : off < l.length) : (splice l off [v])[off]? = some v := by
  rw [splice_one _ _ _ h, List.getElem?_set, if_pos rfl, if_pos h]
theorem rep_len {k off : Nat} {z : Value} (h : off < k) : off < (List.replicate k z).length := by rw [List.length_replicate]; exact h
end Go.Am
namespace Go.Am
open Go
theorem set_len {l : List Value} {off a : Nat} {v : Value} (h : off < l.length) : off < (l.set a v).length := by rw [List.length_set]; exact h
end Go.Am
namespace Go.Am
open Go
variable {P : Program}
/- Appends of rows. -/
theorem ap2_ok {sT xT elem : TypeId} {xd : TypeDesc} {e : TypeInfo} {id len cap n k : Nat} {x : Value} {old new : List Value} {b : ABlk} (h1 : P.underlying sT = some (.slice elem)) (h2 : P.underlying xT = some xd) (h3 : isIntD xd = false)
    (h4 : P.info? elem = some e) (h5 : lenV x = some n) (hold : takeN (len * e.size) b.cs = some old) (hroom : roomy e (len + n) = true) (hnew : new.all isCell = true) (hlen : new.length = n * e.size)
    (hesz : b.esz = e.size) (helem : b.elem = elem) (happ : b.app = true) (hwf : b.wf = 0) (hk : (k = 6 ∧ n ≠ 0 ∧ cap = len) ∨ (k = 7 ∧ n ≠ 0 ∧ cap = len + 1) ∨ (k = 8 ∧ n = 0)) (M : Mem) (hf : firsts M e.size n x = some new) (r : Nat × AR × Mem)
    (h : app2In P k [sT, xT] (.slice (some ⟨id, 0, none⟩) len cap) x M old new = some (b, r)) : aappend P [sT, xT] (.slice (some ⟨id, 0, none⟩) len cap) x M = some r := by
  unfold app2In at h
  simp only [h1, h4, h5] at h
  split at h
  · rename_i e' n' b' he hn' hb'
    cases he; cases hn'
    rcases hk with ⟨rfl, hn, rfl⟩ | ⟨rfl, hn, rfl⟩ | ⟨rfl, hn⟩ <;> simp only [Option.some.injEq, Prod.mk.injEq] at h <;> obtain ⟨rfl, rfl⟩ := h
    · have b1 : Nat.beq n 0 = false := by
        cases hb : Nat.beq n 0
        · rfl
        · exact absurd (Nat.eq_of_beq_eq_true hb) hn
      have b2 : Nat.beq cap (cap + 1) = false := by
        cases hb : Nat.beq cap (cap + 1)
        · rfl
        · exact absurd (Nat.eq_of_beq_eq_true hb) (by omega)
      have b3 : Nat.ble b'.wf (0 + cap * e.size) = true := by rw [hwf]; exact Nat.ble_eq_true_of_le (Nat.zero_le _)
      have b4 : Nat.beq new.length (n * e.size) = true := by rw [hlen]; exact Nat.beq_refl _
      have b5 : Nat.beq b'.esz e.size = true := by rw [hesz]; exact Nat.beq_refl _
      have b6 : Nat.beq b'.elem elem = true := by rw [helem]; exact Nat.beq_refl _
      unfold aappend
      simp only [h1, h2, h4, h5, h3, hf, hb', range, List.drop_zero, hold, hroom, hnew, b4, b5, b6, b1, b2, b3, happ, Bool.not_true, Bool.or_false, Bool.and_true, cond_false, cond_true]
    · have b1 : Nat.beq n 0 = false := by
        cases hb : Nat.beq n 0
        · rfl
        · exact absurd (Nat.eq_of_beq_eq_true hb) hn
      have b4 : Nat.beq new.length (n * e.size) = true := by rw [hlen]; exact Nat.beq_refl _
      have b5 : Nat.beq b'.esz e.size = true := by rw [hesz]; exact Nat.beq_refl _
      have b6 : Nat.beq b'.elem elem = true := by rw [helem]; exact Nat.beq_refl _
      unfold aappend
      simp only [h1, h2, h4, h5, h3, hf, hb', range, List.drop_zero, hold, hroom, hnew, b4, b5, b6, b1, Nat.beq_refl, Bool.not_true, Bool.or_false, cond_false, cond_true]
      rfl
    · subst hn
      have b4 : Nat.beq new.length (0 * e.size) = true := by rw [hlen]; exact Nat.beq_refl _
      have b5 : Nat.beq b'.esz e.size = true := by rw [hesz]; exact Nat.beq_refl _
      have b6 : Nat.beq b'.elem elem = true := by rw [helem]; exact Nat.beq_refl _
      unfold aappend
      simp only [h1, h2, h4, h5, h3, hf, hb', range, List.drop_zero, hold, hroom, hnew, b4, b5, b6, Nat.beq_refl, Bool.not_true, Bool.or_false, cond_false, cond_true]
  · cases h
theorem qap2 {SP : Specs} {D : Nat → Door} {ids : List Nat} {sT xT elem : TypeId} {xd : TypeDesc} {e : TypeInfo} {id len cap n k xid xo c : Nat} {old new : List Value} {b xb : ABlk} (h1 : P.underlying sT = some (.slice elem)) (h2 : P.underlying xT = some xd) (h3 : isIntD xd = false)
    (h4 : P.info? elem = some e) (hold : takeN (len * e.size) b.cs = some old) (hroom : roomy e (len + n) = true) (hnew : new.all isCell = true) (hlen : new.length = n * e.size)
    (hesz : b.esz = e.size) (helem : b.elem = elem) (happ : b.app = true) (hwf : b.wf = 0) (hk : (k = 6 ∧ n ≠ 0 ∧ cap = len) ∨ (k = 7 ∧ n ≠ 0 ∧ cap = len + 1) ∨ (k = 8 ∧ n = 0)) (hx : range xb.cs xo (n * e.size) = some new) :
    (QV.ap2 k [sT, xT] (.slice (some ⟨id, 0, none⟩) len cap) (.slice (some ⟨xid, xo, none⟩) n c) old new b (some xb)).holds P SP D ids := fun M r hxb h => by
  refine ap2_ok h1 h2 h3 h4 rfl hold hroom hnew hlen hesz helem happ hwf hk M ?_ r h
  have hg : M.get xid = some xb := hxb
  unfold firsts
  simp only [hg]
  exact hx
end Go.Am
