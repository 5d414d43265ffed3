/-
  What is proved: MiniSteady: a machine of Make's is steady just if a letter twice is a letter once: for every x, y, every word. For every argument; one laid table (math/bits) is tied by the card.
-/
import Derived.Test.YtchnlooenomfnaaGreatDoorGAmOps1
set_option linter.unusedVariables false
set_option linter.unusedSimpArgs false
namespace Go.Am
open Go
variable {P : Program} {GL : List Nat} {B : Bd} {φ : Emb} {M M' : Mem} {w : World}
theorem Rel.replace (h : Rel P GL B φ M w) (hg : φ M.next = none) {id : Nat} {b : ABlk} (hb : M.get id = some b) {e : Ent} (he : φ id = some e) (happ : b.app = true) (sb : Option ABlk) (nb : ABlk) (ne : Ent) {w' : World}
    (hB : BRel P B φ w' ne nb) (hsb : ∀ s, sb = some s → BRel P B φ w' e s ∧ s.app = false ∧ s.cs.length ≤ s.wf ∧ 0 < nb.wf ∧ (ne.block = e.block → e.base + s.cs.length ≤ ne.base + nb.wf))
    (hwf : 0 < b.wf → 0 < nb.wf ∧ (ne.block = e.block → e.base + b.wf ≤ ne.base + nb.wf))
    (hoth : ∀ k, k < w.heap.size → k ≠ e.block → w'.heap[k]? = w.heap[k]?)
    (hund : ∀ i b' e', i ≠ id → M.getA i = some b' → φ i = some e' → e'.block = e.block → b'.app = false → b'.cs.length ≤ b'.wf → e'.base + b'.cs.length ≤ e.base + b.wf → BRel P B φ w' e' b')
    (hsz : w.heap.size ≤ w'.heap.size) (hos : w'.os = w.os) (htape : w'.tape = w.tape) (hout : w'.output = w.output)
    (hne : ne.block = e.block ∨ w.heap.size ≤ ne.block) :
    ∃ φ', φ' M.next = some ne ∧ Post P GL B φ φ' M ((M.put id sb).alloc nb) [id] w w' := by
  have hbA := get_A hb
  obtain ⟨e', he', hr⟩ := h.blk id b hb
  rw [he] at he'; cases he'
  have hid := h.ids id b hb
  have hnext : (M.put id sb).next = M.next := rfl
  have hhide : (M.put id sb).hide = M.hide := rfl
  have hown : b.app = true ∨ b.wf < b.cs.length := .inl happ
  have hle : φ.le (fun i => if i = M.next then some ne else φ i) := fun i e he => by
    have : i ≠ M.next := fun x => by rw [x, hg] at he; cases he
    simp [this, he]
  have hget : ∀ i, ((M.put id sb).alloc nb).getA i = if i = M.next then (bif hidden M.hide i then none else some nb) else if i = id then sb else M.getA i := fun i => by
    rw [hid_alloc, hnext, hhide, get_put, not_hidden hbA]
    by_cases hi : i = M.next <;> by_cases hj : i = id <;> simp [hi, hj]
  refine ⟨fun i => if i = M.next then some ne else φ i, by simp, ?_⟩
  have old : ∀ i b', i ≠ M.next → ((M.put id sb).alloc nb).getA i = some b' → (i = id ∧ sb = some b') ∨ (i ≠ id ∧ M.getA i = some b') := fun i b' hn hq => by
    rw [hget, if_neg hn] at hq
    by_cases hj : i = id
    · rw [if_pos hj] at hq; exact .inl ⟨hj, hq⟩
    · rw [if_neg hj] at hq; exact .inr ⟨hj, hq⟩
  have lt : ∀ i b' e', i ≠ M.next → ((M.put id sb).alloc nb).getA i = some b' → φ i = some e' → e'.block < w.heap.size := fun i b' e' hn hq he' => by
    rcases old i b' hn hq with ⟨rfl, _⟩ | ⟨_, o2⟩
    · rw [he] at he'; cases he'; exact hr.lt
    · obtain ⟨e2, he2, hr2⟩ := h.blkA i b' o2
      rw [he'] at he2; cases he2; exact hr2.lt
  refine ⟨fun i hi => ?_, Nat.le_succ _, ⟨fun i b' hq => ?_, fun id1 id2 b1 b2 e1 e2 hn hb1 hb2 ho he1 he2 => ?_, fun g hgl => ?_, ?_, fun i b' hq => ?_, fun x hx => (h.rnd x hx).step hle (hoth _ (h.rnd x hx).lt ((h.rnd x hx).ne hr).symm)⟩, ⟨hos, htape, hout, hsz, fun k hk => ?_⟩, fun i e1 h1 h2 he1 => ?_, fun t ht => by simp at ht; subst ht; exact Nat.lt_succ_of_lt hid⟩
  · have : i ≠ M.next := by
      rcases hi with hi | hi
      · omega
      · have : M.next + 1 ≤ i := hi
        omega
    simp [this]
  · by_cases hn : i = M.next
    · rw [hget, if_pos hn] at hq
      cases hh : hidden M.hide i <;> simp only [hh, cond_true, cond_false] at hq
      · cases hq
        refine ⟨ne, by simp [hn], ?_⟩
        exact .inl (hB.keep hle rfl)
      · cases hq
    · rcases old i b' hn hq with ⟨rfl, o2⟩ | ⟨o1, o2⟩
      · exact ⟨e, hle _ _ he, .inl ((hsb _ o2).1.keep hle rfl)⟩
      · obtain ⟨e2, he2, hr2⟩ := h.blkA i b' o2
        refine ⟨e2, hle _ _ he2, ?_⟩
        by_cases hbe : e2.block = e.block
        · rcases h.sepA id i b b' e e2 (fun y => o1 y.symm) hbA o2 hown he he2 with hs | ⟨_, s1, s2, s3⟩
          · exact absurd hbe.symm hs
          · exact .inl ((hund i b' e2 o1 o2 he2 hbe s1 s2 s3).keep hle rfl)
        · exact hr2.keep hle (hoth _ hr2.lt hbe)
  · by_cases i1 : id1 = M.next <;> by_cases i2 : id2 = M.next
    · omega
    · have hnb : b1 = nb := by
        rw [hget, if_pos i1] at hb1
        cases hh : hidden M.hide id1 <;> simp only [hh, cond_true, cond_false] at hb1
        · cases hb1; rfl
        · cases hb1
      have hl2 : e2.block < w.heap.size := lt id2 b2 e2 i2 hb2 (by simpa only [i2, if_false] using he2)
      simp only [i1, if_true] at he1
      simp only [i2, if_false] at he2
      cases he1
      subst hnb
      rcases hne with hne | hne
      · rcases old id2 b2 i2 hb2 with ⟨rfl, o2⟩ | ⟨o1, o2⟩
        · rw [he] at he2; cases he2
          obtain ⟨_, a1, a2, a3, a4⟩ := hsb _ o2
          exact .inr ⟨a3, a1, a2, a4 hne⟩
        · rcases h.sepA id id2 b b2 e e2 (fun y => o1 y.symm) hbA o2 hown he he2 with hs | ⟨s0, s1, s2, s3⟩
          · exact .inl (by rw [hne]; exact hs)
          · obtain ⟨w1, w2⟩ := hwf s0
            exact .inr ⟨w1, s1, s2, Nat.le_trans s3 (w2 hne)⟩
      · exact .inl (by omega)
    · have hw1 : e1.block < w.heap.size := lt id1 b1 e1 i1 hb1 (by simpa only [i1, if_false] using he1)
      simp only [i2, if_true] at he2
      simp only [i1, if_false] at he1
      cases he2
      rcases hne with hne | hne
      · rcases old id1 b1 i1 hb1 with ⟨rfl, o2⟩ | ⟨o1, o2⟩
        · obtain ⟨_, a1, a2, _⟩ := hsb _ o2
          rcases ho with ho | ho
          · rw [a1] at ho; cases ho
          · omega
        · have := (h.sepA id1 id b1 b e1 e o1 o2 hbA ho he1 he).ne hown
          exact .inl (by rw [hne]; exact this)
      · exact .inl (by omega)
    · simp only [i1, i2, if_false] at he1 he2
      rcases old id1 b1 i1 hb1 with ⟨rfl, o2⟩ | ⟨o1, o2⟩
      · obtain ⟨_, a1, a2, _⟩ := hsb _ o2
        rcases ho with ho | ho
        · rw [a1] at ho; cases ho
        · omega
      · rcases old id2 b2 i2 hb2 with ⟨rfl, p2⟩ | ⟨p1, p2⟩
        · rw [he] at he2; cases he2
          exact .inl ((h.sepA id1 id2 b1 b e1 e o1 o2 hbA ho he1 he).ne hown)
        · exact h.sepA id1 id2 b1 b2 e1 e2 hn o2 p2 ho he1 he2
  · obtain ⟨h1, e, he, h2⟩ := h.glob g hgl
    exact ⟨Nat.lt_succ_of_lt h1, e, hle _ _ he, h2⟩
  · exact fun k hk => h.size k (Nat.le_trans hsz hk)
  · show i < M.next + 1
    by_cases hn : i = M.next
    · omega
    · rcases old i b' hn hq with ⟨rfl, _⟩ | ⟨_, o2⟩
      · omega
      · have := h.idsA i b' o2
        omega
  · by_cases hke : k = e.block
    · exact .inr ⟨by rw [hke]; exact hr.own hown, id, by simp, e, he, hke.symm⟩
    · exact .inl (hoth k hk hke)
  · have : i = M.next := by have : i < M.next + 1 := h2; omega
    simp only [this, if_true] at he1
    cases he1
    rcases hne with hne | hne
    · exact .inr ⟨id, by simp, e, he, hne.symm⟩
    · exact .inl hne
theorem lenV_rel {x x' : Value} (hx : VRel φ x x') {n : Nat} (h : lenV x = some n) : (Builtin.lenOf x').run P w = .ok n w := by
  cases hx with
  | leaf hl => cases x <;> simp [lenV] at h <;> subst h <;> simp [Builtin.lenOf]
  | slice hs => simp [lenV] at h; subst h; simp [Builtin.lenOf]
  | hollow hs => simp [lenV] at h; subst h; simp [Builtin.lenOf]
  | _ => simp [lenV] at h
theorem firsts_sound (h : Rel P GL B φ M w) {size n : Nat} {x x' : Value} (hx : VRel φ x x') {m : Nat} (hm : lenV x = some m) (hn : n ≤ m) {l : List Value} (hl : firsts M size n x = some l) {w1 : World} (hs : Same w w1) :
    ∃ l' : List Value, (Builtin.firstCells size n x').run P w1 = .ok l'.toArray w1 ∧ LRel φ l l' := by
  have h1 := h.same hs
  unfold firsts at hl
  split at hl
  · rename_i a len cap
    rcases hx.slice_or with ⟨a', c', rfl, s1, s2, s3, s4, e, he, s5⟩ | ⟨a', rfl, rfl, _, _⟩
    case inr =>
      simp [lenV] at hm; subst hm
      have hn0 : n = 0 := by omega
      subst hn0
      split at hl
      · simp [range, takeN] at hl; subst hl
        exact ⟨[], by simp [Builtin.firstCells, loadCells, loadCellsFrom], .nil⟩
      · simp at hl; subst hl
        exact ⟨[], by simp [Builtin.firstCells, loadCells, loadCellsFrom], .nil⟩
    simp [lenV] at hm; subst hm
    split at hl
    · rename_i b hb
      obtain ⟨e', he', hr⟩ := h1.blk _ _ hb
      rw [he] at he'; cases he'
      by_cases h0 : n * size = 0
      · rw [h0] at hl
        simp [range, takeN] at hl; subst hl
        exact ⟨[], by simp [Builtin.firstCells, h0, loadCells, loadCellsFrom], .nil⟩
      · have hn0 : n ≠ 0 := by intro x; simp [x] at h0
        obtain ⟨q1, q2, _⟩ := s5.resolve_left (by omega)
        obtain ⟨r', r1, r2, _⟩ := cells_of hr s2 q1 q2 hl
        exact ⟨r', by simp [Builtin.firstCells, r1], r2⟩
    · cases hb0 : Nat.beq n 0 <;> simp [hb0] at hl
      subst hl
      obtain rfl := Nat.eq_of_beq_eq_true hb0
      exact ⟨[], by simp [Builtin.firstCells, loadCells, loadCellsFrom], .nil⟩
  · rename_i len cap
    have hxn : ∃ l' c', x' = .slice none l' c' := by cases hx with | leaf h => exact ⟨_, _, rfl⟩
    obtain ⟨l', c', rfl⟩ := hxn
    cases hb : Nat.beq n 0 <;> simp [hb] at hl
    subst hl
    exact ⟨[], by simp [Builtin.firstCells], .nil⟩
  · rename_i s
    cases hx.of_flat rfl
    simp at hl; subst hl
    refine ⟨byteVals s n, ?_, LRel.refl_flat φ _ ?_⟩
    · simp only [Builtin.firstCells, Sem.run_pure]
      congr 1
      apply Array.ext'
      simp [byteVals, ByteArray.data_extract]
    · unfold byteVals
      generalize s.data.toList.take n = q
      induction q with
      | nil => rfl
      | cons v q ih => simpa [flatL, flat] using ih
  · simp at hl
theorem roomy_spec {e : TypeInfo} {n : Nat} (h : roomy e n = true) : e.size ≠ 0 ∧ n ≤ 2 ^ 40 ∧ n * e.bytes ≤ 2 ^ 40 ∧ e.bytes ≤ 2 ^ 40 ∧ ∃ z, e.zero = some z ∧ z.cells.size = e.size := by
  simp only [roomy, Bool.and_eq_true, Bool.not_eq_true', Nat.ble_eq] at h
  obtain ⟨⟨⟨⟨h1, h2⟩, h3⟩, h4⟩, h5⟩ := h
  refine ⟨by intro x; simp [x] at h1, h2, h3, h4, ?_⟩
  unfold zeroOk at h5
  split at h5
  · rename_i z hz
    exact ⟨z, hz, by simpa using h5⟩
  · cases h5
theorem room_le {e : TypeInfo} {need old : Nat} (h : roomy e need = true) (ho : old < need) : ¬ (Builtin.nextslicecap need old * e.bytes > 2 ^ 48) := by
  obtain ⟨_, _, h3, h4, _⟩ := roomy_spec h
  have h1 := nextslicecap_le ho
  have h2 : Builtin.nextslicecap need old * e.bytes ≤ (2 * need) * e.bytes := Nat.mul_le_mul_right _ h1
  have h5 : (2 * need) * e.bytes = 2 * (need * e.bytes) := by rw [Nat.mul_assoc]
  omega
theorem zeroCells_size (z : Array Value) (n : Nat) : (Builtin.zeroCells z n).size = n * z.size := by simp [Builtin.zeroCells]
set_option maxHeartbeats 8000000 in
theorem append_grows {argTypes : Array TypeId} {type : TypeId} {sT xT elem : TypeId} {xd : TypeDesc} {e : TypeInfo} (h0 : argTypes[0]? = some sT) (h1 : argTypes[1]? = some xT) (hs : P.underlying sT = some (.slice elem)) (hx : P.underlying xT = some xd)
    (hxi : isIntD xd = false) (he : P.info? elem = some e) {base : Option Addr} {len cap n : Nat} {x : Value} (hn : (Builtin.lenOf x).run P w = .ok n w) (hlt : ¬ len + n ≤ cap) (hr : roomy e (len + n) = true)
    {old new : List Value} (hold : (Builtin.firstCells e.size len (.slice base len cap)).run P w.drew = .ok old.toArray w.drew) (hnew : (Builtin.firstCells e.size n x).run P w.drew = .ok new.toArray w.drew) :
    ∃ (c : Array Value) (cap' : Nat), (Builtin.append_ argTypes type #[.slice base len cap, x]).run P w = .ok (.slice (some ⟨w.heap.size, 0, none⟩) (len + n) cap') (w.drew.alloc (.cells c elem (0, 0))) ∧
      len + n ≤ cap' ∧ (∀ (j : Nat) (v : Value), (old ++ new)[j]? = some v → c[j]? = some v) ∧ (old ++ new).length ≤ c.size ∧ ((old ++ new).length = (len + n) * e.size → cap' * e.size ≤ c.size) := by
  obtain ⟨r1, r2, r3, r4, z, hz, hzs⟩ := roomy_spec hr
  have hroom := room_le (old := cap) hr (by omega)
  let q : Question := .appendCap (len + n) cap elem
  have hq : len + n ≤ q.cut (w.tape w.drawn q) := by show len + n ≤ len + n + _; omega
  have h63 : ¬ (9223372036854775807 < ((len : Int) + (n : Int))) := by omega
  have h48 : ¬ (281474976710656 < Builtin.nextslicecap (len + n) cap * e.bytes) := by simpa using hroom
  refine ⟨old.toArray ++ (new.toArray ++ Builtin.zeroCells z.cells (q.cut (w.tape w.drawn q) - (len + n))), q.cut (w.tape w.drawn q), ?_, hq, fun j v hj => ?_, by simp, fun hl => ?_⟩
  · cases xd <;> first
      | (simp [isIntD] at hxi; done)
      | (simp [Builtin.append_, h0, h1, run_underlying' sT hs, run_underlying' xT hx, run_sizeOf' elem he, hn, hlt, run_typeInfo' elem he, h63, h48, Question.forced, hold, hnew, run_zeroValue' elem he hz, newRow]; exact ⟨rfl, rfl⟩)
  · rw [← Array.append_assoc, Array.getElem?_append_left (by
      rcases Nat.lt_or_ge j (old ++ new).length with h | h
      · simpa using h
      · rw [List.getElem?_eq_none h] at hj; cases hj)]
    simpa using hj
  · simp only [Array.size_append, List.size_toArray, zeroCells_size, hzs]
    have : (old ++ new).length = old.length + new.length := by simp
    rw [this] at hl
    rw [← Nat.add_assoc, hl, ← Nat.add_mul]
    exact Nat.mul_le_mul_right _ (by omega)
set_option maxHeartbeats 8000000 in
theorem append_room {argTypes : Array TypeId} {type : TypeId} {sT xT elem : TypeId} {xd : TypeDesc} {e : TypeInfo} (h0 : argTypes[0]? = some sT) (h1 : argTypes[1]? = some xT) (hs : P.underlying sT = some (.slice elem)) (hx : P.underlying xT = some xd)
    (hxi : isIntD xd = false) (he : P.info? elem = some e) {base : Option Addr} {len cap n : Nat} {x : Value} (hn : (Builtin.lenOf x).run P w = .ok n w) (hle : len + n ≤ cap)
    {new : List Value} {w' : World} (hnew : (Builtin.firstCells e.size n x).run P w = .ok new.toArray w) (hst : match base with | some a => (storeCells (a.add (len * e.size)) new).run P w = .ok () w' | none => w' = w) :
    (Builtin.append_ argTypes type #[.slice base len cap, x]).run P w = .ok (.slice base (len + n) cap) w' := by
  cases base with
  | none =>
    simp only at hst
    subst hst
    cases xd <;> first
      | (simp [isIntD] at hxi; done)
      | (simp [Builtin.append_, h0, h1, run_underlying' sT hs, run_underlying' xT hx, run_sizeOf' elem he, hn, hle, hnew]; done)
  | some a =>
    simp only at hst
    cases xd <;> first
      | (simp [isIntD] at hxi; done)
      | (simp [Builtin.append_, h0, h1, run_underlying' sT hs, run_underlying' xT hx, run_sizeOf' elem he, hn, hle, hnew, hst]; done)
end Go.Am
