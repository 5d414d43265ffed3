/-
  THE ABSTRACT MACHINE: operations that turn what was there.
-/
import Derived.Test.YtibgnnjicplphaaAmOps1
noncomputable section
namespace Go.Am
open Go

variable {P : Program} {GL : List Nat} {B : Bd} {φ : Emb} {M M' : Mem} {w : World}

def vis (M : Mem) (id : Nat) : Bool := Nat.blt id M.next && !hidden M.hide id

theorem get_put (M : Mem) (id : Nat) (b : Option ABlk) (j : Nat) : (M.put id b).getA j = if j = id then (bif !vis M id then none else b) else M.getA j := by
  by_cases h : j = id
  · subst h
    unfold Mem.put Mem.getA vis
    simp only [Tr.get_set, if_true]
    cases (Nat.blt j M.next && !hidden M.hide j) <;> rfl
  · unfold Mem.put Mem.getA
    simp only [Tr.get_set, if_neg h]

theorem not_hidden {id : Nat} {b : ABlk} (h : M.getA id = some b) : (!vis M id) = false := by
  unfold Mem.getA at h
  unfold vis
  cases hh : (Nat.blt id M.next && !hidden M.hide id) <;> simp [hh] at h ⊢

theorem splice_get : ∀ (cs : List Value) (k : Nat) (l : List Value) (j : Nat), k + l.length ≤ cs.length → (splice cs k l)[j]? = if k ≤ j ∧ j < k + l.length then l[j - k]? else cs[j]?
  | cs, k, [], j, _ => by rw [splice_nil]; simp; intro h1 h2; omega
  | [], k, v :: l, j, h => by simp at h
  | c :: cs, 0, v :: l, 0, h => by simp [splice]
  | c :: cs, 0, v :: l, j + 1, h => by
    simp only [splice, List.getElem?_cons_succ]
    rw [splice_get cs 0 l j (by simpa using h)]
    simp
  | c :: cs, k + 1, v :: l, 0, h => by simp [splice]
  | c :: cs, k + 1, v :: l, j + 1, h => by
    simp only [splice, List.getElem?_cons_succ]
    rw [splice_get cs k (v :: l) j (by simp at h ⊢; omega)]
    simp only [List.length_cons]
    by_cases hj : k ≤ j ∧ j < k + (l.length + 1)
    · rw [if_pos hj, if_pos (by omega)]; congr 1; omega
    · rw [if_neg hj, if_neg (by omega)]

/- Cells of a block that the machine owns are written. -/
theorem write_sound (h : Rel P GL B φ M w) {id : Nat} {b : ABlk} (hb : M.get id = some b) {e : Ent} (he : φ id = some e) {k : Nat} {l l' : List Value} (hl : LRel φ l l') (hc : l.all isCell = true)
    (hw : b.wf ≤ k) (hk : k + l.length ≤ b.cs.length) {a' : Addr} (hadr : l = [] ∨ (a'.spot = none ∧ a'.block = e.block ∧ a'.off = e.base + k)) :
    ∃ w', (storeCells a' l').run P w = .ok () w' ∧ Post P GL B φ φ M (M.put id (some { b with cs := splice b.cs k l })) [id] w w' := by
  obtain ⟨e', he', hr⟩ := h.blk id b hb
  rw [he] at he'; cases he'
  have hbA := get_A hb
  cases hl0 : l with
  | nil =>
    subst hl0
    cases hl
    refine ⟨w, by simp [storeCells], ⟨fun _ _ => rfl, Nat.le_refl _, ⟨fun id' b' hb' => ?_, fun id1 id2 b1 b2 e1 e2 hne hb1 hb2 ho he1 he2 => ?_, h.glob, h.size, fun id' b' hb' => ?_, h.rnd⟩, Fr.refl _ _ _ _, fun i e h1 h2 => (by have : i < M.next := h2; omega), fun t ht => by simp at ht; subst ht; exact h.ids _ _ hb⟩⟩
    · rw [get_put, splice_nil, not_hidden hbA] at hb'
      by_cases hi : id' = id
      · simp [hi] at hb'; subst hb'; subst hi; exact h.blkA id' b hbA
      · rw [if_neg hi] at hb'; exact h.blkA id' b' hb'
    · rw [get_put, splice_nil, not_hidden hbA] at hb1 hb2
      have f : ∀ id' b', (if id' = id then (bif false then none else some b) else M.getA id') = some b' → M.getA id' = some b' := fun id' b' hq => by
        by_cases hi : id' = id
        · simp [hi] at hq; subst hq; rw [hi]; exact hbA
        · rwa [if_neg hi] at hq
      exact h.sepA id1 id2 b1 b2 e1 e2 hne (f _ _ hb1) (f _ _ hb2) ho he1 he2
    · rw [get_put, splice_nil, not_hidden hbA] at hb'
      show id' < M.next
      by_cases hi : id' = id
      · rw [hi]; exact h.ids id b hb
      · rw [if_neg hi] at hb'; exact h.idsA _ _ hb'
  | cons v0 l0 =>
    have hne : 0 < l.length := by rw [hl0]; simp
    obtain ⟨hs, hab, hao⟩ := hadr.resolve_left (by rw [hl0]; simp)
    rw [← hl0]
    clear hl0
    have hown : b.app = true ∨ b.wf < b.cs.length := .inr (by omega)
    obtain ⟨c, lo, hi, c1, c2, c3, c4⟩ := hr.cells
    have hlen := hl.length
    have hblen := hr.len
    have hlt := hr.lt
    have hBe := hr.own hown
    refine ⟨setRow w e.block (.cells (splice c.toList (e.base + k) l').toArray b.elem (lo, hi)), ?_, ?_⟩
    · have := storeCells_run (P := P) (l := l') (i := 0) c1 hab hs (by omega) (fun j h1 h2 => by
        have := c4 hown (j - e.base) (by omega) (Nat.lt_of_lt_of_le (by omega) (le_lim b.esz e.tot))
        rw [show e.base + (j - e.base) = j by omega] at this
        exact this) (by rw [hl.isCell]; exact hc)
      simpa [hao] using this
    · have hheap : ∀ j, (setRow w e.block (.cells (splice c.toList (e.base + k) l').toArray b.elem (lo, hi))).heap[j]? = if e.block = j then some (.cells (splice c.toList (e.base + k) l').toArray b.elem (lo, hi)) else w.heap[j]? := fun j => by
        rw [heap_setRow, if_pos hlt]
      have hin : e.base + k + l'.length ≤ c.toList.length := by simp; omega
      refine ⟨fun _ _ => rfl, Nat.le_refl _, ⟨fun id' b' hb' => ?_, fun id1 id2 b1 b2 e1 e2 hne hb1 hb2 ho he1 he2 => ?_, h.glob, ?_, fun id' b' hb' => ?_, fun x hx => (h.rnd x hx).step (Emb.le_refl _) (by rw [hheap, if_neg ((h.rnd x hx).ne hr)])⟩, ⟨rfl, rfl, rfl, by simp [setRow], fun j hj => ?_⟩, fun i e h1 h2 => (by have : i < M.next := h2; omega), fun t ht => by simp at ht; subst ht; exact h.ids _ _ hb⟩
      · rw [get_put, not_hidden hbA] at hb'
        by_cases hid : id' = id
        · simp [hid] at hb'
          subst hb'; subst hid
          refine ⟨e, he, .inl ⟨hr.esz, ⟨_, lo, hi, by rw [hheap]; simp; rfl, by simp [splice_length]; exact c2, fun j v hj => ?_, ?_⟩, ?_, ?_, fun q1 q2 => hr.whole q1 fun q3 => q2 (by simp only [q3]; cases l <;> rfl), hr.real⟩⟩
          · simp only [List.getElem?_toArray]
            rw [splice_get _ _ _ _ hk] at hj
            rw [splice_get _ _ _ _ hin]
            by_cases hjk : k ≤ j ∧ j < k + l.length
            · rw [if_pos hjk] at hj
              obtain ⟨v', a1, a2⟩ := hl.get hj
              exact ⟨v', by rw [if_pos (by omega), show e.base + j - (e.base + k) = j - k by omega]; exact a1, a2⟩
            · rw [if_neg hjk] at hj
              obtain ⟨v', a1, a2⟩ := c3 j v hj
              exact ⟨v', by rw [if_neg (by omega)]; simpa using a1, a2⟩
          · simp only [splice_length]; exact c4
          · simp only [splice_length]; exact hr.len
          · simp only [splice_length]; exact hr.own
        · rw [if_neg hid] at hb'
          obtain ⟨e', he', hr'⟩ := h.blkA id' b' hb'
          rcases h.sepA id id' b b' e e' (fun x => hid x.symm) hbA hb' hown he he' with hs | hs
          · refine ⟨e', he', hr'.keep (Emb.le_refl φ) ?_⟩
            rw [hheap, if_neg hs]
          · by_cases hbe : e.block = e'.block
            · refine ⟨e', he', .inl ((hr'.ro hs.2.1).under hs.2.1 hs.2.2.1 c1 hbe (c' := (splice c.toList (e.base + k) l').toArray) (lo' := lo) (hi' := hi) (by rw [hheap, if_pos rfl]) (by simp [splice_length]) fun j hj => ?_)⟩
              simp only [List.getElem?_toArray]
              rw [splice_get _ _ _ _ hin, if_neg (by have := hs.2.2.2; omega)]
              simp
            · refine ⟨e', he', hr'.keep (Emb.le_refl φ) ?_⟩
              rw [hheap, if_neg hbe]
      · rw [get_put, not_hidden hbA] at hb1 hb2
        have f : ∀ id' b', (if id' = id then (bif false then none else some { b with cs := splice b.cs k l }) else M.getA id') = some b' → ∃ b'', M.getA id' = some b'' ∧ ((b'.app = true ∨ b'.wf < b'.cs.length) → (b''.app = true ∨ b''.wf < b''.cs.length)) ∧ b'.wf = b''.wf ∧ b'.app = b''.app ∧ b'.cs.length = b''.cs.length := fun id' b' hq => by
          by_cases hi : id' = id
          · simp [hi] at hq; subst hq; exact ⟨b, by rw [hi]; exact hbA, by simp [splice_length], rfl, rfl, by simp [splice_length]⟩
          · rw [if_neg hi] at hq; exact ⟨b', hq, fun x => x, rfl, rfl, rfl⟩
        obtain ⟨b1', q1, q2, r1, _⟩ := f _ _ hb1
        obtain ⟨b2', q3, _, r2, r3, r4⟩ := f _ _ hb2
        exact (h.sepA id1 id2 b1' b2' e1 e2 hne q1 q3 (q2 ho) he1 he2).congr r1 r3 r4 r2
      · simp [setRow]; exact h.size
      · rw [get_put, not_hidden hbA] at hb'
        show id' < M.next
        by_cases hi : id' = id
        · rw [hi]; exact h.ids id b hb
        · rw [if_neg hi] at hb'; exact h.idsA _ _ hb'
      · by_cases hje : e.block = j
        · exact .inr ⟨hje ▸ hBe, id, by simp, e, he, hje⟩
        · left; rw [hheap, if_neg hje]

theorem store_sound (h : Rel P GL B φ M w) {t : TypeId} {a : Addr} {x' v v' : Value} (hx : VRel φ (.pointer (some a)) x') (hv : VRel φ v v') (ho : astore P t a v M = some M') :
    OpOk P GL B φ M M' w .skip ((do Instr.storeAt t x' v'; pure .skip : Sem Next).run P w) := by
  obtain ⟨a', rfl, h1, h2, e, he, hab, hao⟩ := hx.ptr_inv
  unfold astore at ho
  split at ho
  · rename_i b i hb hi
    generalize hq : (Nat.beq v.cells.toList.length i.size && v.cells.toList.all isCell && Nat.ble b.wf a.off && Nat.ble (a.off + v.cells.toList.length) b.cs.length) = q at ho
    cases q <;> simp only [cond_true, cond_false] at ho
    · simp at ho
    · simp at ho; subst ho
      simp only [Bool.and_eq_true, Nat.beq_eq, Nat.ble_eq] at hq
      obtain ⟨⟨⟨q1, q2⟩, q3⟩, q4⟩ := hq
      obtain ⟨w', r1, r2⟩ := write_sound h hb he hv.cells q2 q3 q4 (.inr ⟨h2, hab, hao⟩)
      refine OpOk.skip (L := [a.block]) ?_ rfl r2
      have hsz : v'.cells.size = i.size := by have := hv.cells.length; simp at this q1; omega
      simp [Instr.storeAt, Instr.sureAddr, storeVar, run_sizeOf' t hi, hsz, r1]
  · simp at ho
end Go.Am
end
