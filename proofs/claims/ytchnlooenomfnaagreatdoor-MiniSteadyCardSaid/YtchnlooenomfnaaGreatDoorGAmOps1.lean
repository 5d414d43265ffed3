/-
  What is proved: MiniSteady: a machine of Make's is steady just if a letter twice is a letter once: for every x, y, every word. For every argument; one laid table (math/bits) is tied by the card.
-/
import Derived.Test.YtchnlooenomfnaaGreatDoorAmMem
set_option linter.unusedVariables false
set_option linter.unusedSimpArgs false
noncomputable section
namespace Go.Am
open Go
variable {P : Program} {GL : List Nat} {B : Bd} {φ : Emb} {M M' : Mem} {w : World}
inductive NRel (φ : Emb) : AR → Next → Prop where
  | val {v v' : Value} (h : VRel φ v v') : NRel φ (.val v) (.value v')
  | skip : NRel φ .skip .skip
def OpOk (P : Program) (GL : List Nat) (B : Bd) (φ : Emb) (M M' : Mem) (w : World) (r : AR) (res : Result Next) : Prop :=
  ∃ L φ' w' nx, res = .ok nx w' ∧ M'.log = L ++ M.log ∧ Post P GL B φ φ' M M' L w w' ∧ NRel φ' r nx
theorem OpOk.val {s : Sem Value} {L : List Nat} {φ' : Emb} {w' : World} {v v' : Value} (h : s.run P w = .ok v' w') (hl : M'.log = L ++ M.log) (hp : Post P GL B φ φ' M M' L w w') (hv : VRel φ' v v') :
    OpOk P GL B φ M M' w (.val v) ((do pure (.value (← s)) : Sem Next).run P w) :=
  ⟨L, φ', w', .value v', by simp [h], hl, hp, .val hv⟩
theorem OpOk.skip {s : Sem Unit} {L : List Nat} {φ' : Emb} {w' : World} (h : s.run P w = .ok () w') (hl : M'.log = L ++ M.log) (hp : Post P GL B φ φ' M M' L w w') :
    OpOk P GL B φ M M' w .skip ((do s; pure .skip : Sem Next).run P w) :=
  ⟨L, φ', w', .skip, by simp [h], hl, hp, .skip⟩
theorem LRel.getA {l : List Value} {c : Array Value} (h : LRel φ l c.toList) (j : Nat) (v : Value) (hj : l[j]? = some v) : ∃ v', c[j]? = some v' ∧ VRel φ v v' := by
  obtain ⟨v', h1, h2⟩ := h.get hj
  exact ⟨v', by simpa using h1, h2⟩
theorem run_newRow (elem : TypeId) (c : Array Value) : (newRow elem c).run P w = .ok ⟨w.heap.size, 0, none⟩ (w.alloc (.cells c elem (0, 0))) := by
  simp [newRow]
theorem newVar_sound (h : Rel P GL B φ M w) (hg : φ M.next = none) {z : Nat} {elem : TypeId} {v v' : Value} (hv : VRel φ v v') :
    ∃ φ', φ' M.next = some ⟨w.heap.size, 0, v'.cells.size, z⟩ ∧ (newVar elem v').run P w = .ok ⟨w.heap.size, 0, none⟩ (w.alloc (.cells v'.cells elem (0, 0))) ∧
      Post P GL B φ φ' M (anew z elem v.cells.toList M) [] w (w.alloc (.cells v'.cells elem (0, 0))) := by
  obtain ⟨φ', h1, h2⟩ := h.alloc hg { cs := v.cells.toList, elem, esz := z, wf := 0, app := true } v'.cells 0 0 (Same.refl w)
    (by have := hv.cells.length; simp at this ⊢; omega) (fun j u hj => hv.cells.getA j u hj) (fun j _ _ => by omega)
  exact ⟨φ', h1, run_newRow elem _, h2⟩
theorem alloc_sound (h : Rel P GL B φ M w) (hg : Good φ M M') {elem : TypeId} {k : Nat} {r : AR} (ho : aalloc P elem M = some (k, r, M')) :
    k = 1 ∧ OpOk P GL B φ M M' w r ((do pure (.value (← Instr.alloc elem true (.tuple #[]))) : Sem Next).run P w) := by
  unfold aalloc at ho
  split at ho
  · rename_i i z hi hz
    split at ho
    · rename_i v hzero
      cases hf : (flat v && v.cells.toList.all isCell) <;> simp only [hf, cond_true, cond_false] at ho
      · simp at ho
      · simp [made] at ho
        obtain ⟨rfl, rfl, rfl⟩ := ho
        simp only [Bool.and_eq_true] at hf
        obtain ⟨φ', h1, h2, h3⟩ := newVar_sound (z := z) (elem := elem) h (hg _ (Nat.le_refl _) (Nat.lt_succ_self _)) (VRel.refl_flat φ v hf.1)
        refine ⟨rfl, OpOk.val (L := []) (v' := .pointer (some ⟨w.heap.size, 0, none⟩)) ?_ rfl h3 (.ptr ⟨rfl, rfl, _, h1, rfl, by simp⟩)⟩
        simp [Instr.alloc, run_zeroValue' elem hi hzero, h2]
    · simp at ho
  · simp at ho
theorem box_sound (h : Rel P GL B φ M w) (hg : Good φ M M') {elem : TypeId} {k : Nat} {r : AR} {v v' : Value} (hv : VRel φ v v') (ho : abox P elem v M = some (k, r, M')) :
    k = 1 ∧ OpOk P GL B φ M M' w r ((do pure (.value (← Instr.box elem v')) : Sem Next).run P w) := by
  unfold abox at ho
  split at ho
  · rename_i z hz
    cases hf : v.cells.toList.all isCell <;> simp only [hf, cond_true, cond_false] at ho
    · simp at ho
    · simp [made] at ho
      obtain ⟨rfl, rfl, rfl⟩ := ho
      obtain ⟨φ', h1, h2, h3⟩ := newVar_sound (z := z) (elem := elem) h (hg _ (Nat.le_refl _) (Nat.lt_succ_self _)) hv
      refine ⟨rfl, OpOk.val (L := []) (v' := .pointer (some ⟨w.heap.size, 0, none⟩)) ?_ rfl h3 (.ptr ⟨rfl, rfl, _, h1, rfl, by simp⟩)⟩
      simp [Instr.box, h2]
  · simp at ho
theorem row_sound (h : Rel P GL B φ M w) (hg : φ M.next = none) {z : Nat} {elem : TypeId} {cs : List Value} {c : Array Value} {w1 : World} (hs : Same w w1) {len cap cap' : Nat}
    (hcs : ∀ (j : Nat) (v : Value), cs[j]? = some v → ∃ v', c[j]? = some v' ∧ VRel φ v v') (hlen : cs.length ≤ c.size) (hl : len ≤ cap') (hcap : cap = len ∨ (cap = len + 1 ∧ cap' = len)) (ht : cap' * z ≤ c.size) :
    ∃ φ', Post P GL B φ φ' M (anew z elem cs M) [] w (w1.alloc (.cells c elem (0, 0))) ∧ (newRow elem c).run P w1 = .ok ⟨w.heap.size, 0, none⟩ (w1.alloc (.cells c elem (0, 0))) ∧
      VRel φ' (.slice (some ⟨M.next, 0, none⟩) len cap) (.slice (some ⟨w.heap.size, 0, none⟩) len cap') := by
  obtain ⟨φ', h1, h2⟩ := h.alloc hg { cs, elem, esz := z, wf := 0, app := true } c 0 0 hs hlen hcs (fun j _ _ => by omega)
  refine ⟨φ', h2, by rw [run_newRow, hs.heap], .slice ⟨rfl, rfl, hl, hcap, _, h1, .inr ⟨rfl, by simp, by simpa using ht⟩⟩⟩
theorem repN_get : ∀ (n : Nat) (Z : List Value) (j : Nat), 0 < Z.length → (repN n Z)[j]? = if j < n * Z.length then Z[j % Z.length]? else none
  | 0, Z, j, _ => by simp [repN]
  | n + 1, Z, j, hz => by
    simp only [repN, List.getElem?_append]
    by_cases hj : j < Z.length
    · rw [if_pos hj, if_pos (by rw [Nat.succ_mul]; omega), Nat.mod_eq_of_lt hj]
    · rw [if_neg hj, repN_get n Z _ hz]
      have : (j - Z.length) % Z.length = j % Z.length := by
        rw [← Nat.mod_eq_sub_mod (by omega)]
      rw [this]
      by_cases hk : j - Z.length < n * Z.length
      · rw [if_pos hk, if_pos (by rw [Nat.succ_mul]; omega)]
      · rw [if_neg hk, if_neg (by rw [Nat.succ_mul]; omega)]
theorem repN_length : ∀ (n : Nat) (Z : List Value), (repN n Z).length = n * Z.length
  | 0, Z => by simp [repN]
  | n + 1, Z => by simp [repN, repN_length n Z, Nat.succ_mul]; omega
theorem range_map_repN (n : Nat) (zero : Array Value) (hz : 0 < zero.size) : ((Array.range (n * zero.size)).map fun i => zero[i % zero.size]!) = (repN n zero.toList).toArray := by
  apply Array.ext_getElem?
  intro j
  have := repN_get n zero.toList j (by simpa using hz)
  simp only [List.getElem?_toArray, this, Array.length_toList]
  by_cases hj : j < n * zero.size
  · have hm : j % zero.size < zero.size := Nat.mod_lt _ hz
    simp [hj, hm]
  · simp [hj]
theorem flat_cells {v : Value} (h : flat v = true) : flatL v.cells.toList = true := by
  cases v <;> simp_all [Value.cells, flat, flatL]
  rename_i cs
  cases cs; simpa [flatA] using h
theorem repN_rel (φ : Emb) {Z : List Value} (hf : flatL Z = true) (n : Nat) : LRel φ (repN n Z) (repN n Z) := by
  induction n with
  | zero => exact .nil
  | succ n ih => exact (LRel.refl_flat φ Z hf).append ih
theorem repN_add (Z : List Value) : ∀ (m n : Nat), repN (m + n) Z = repN m Z ++ repN n Z
  | 0, n => by simp [repN]
  | m + 1, n => by rw [Nat.succ_add]; simp [repN, repN_add Z m n]
theorem wrap_small {i : Int} (h0 : 0 ≤ i) (h1 : i < 2 ^ 40) : IntKind.i64.wrap i = i := by
  simp [IntKind.wrap, IntKind.bits, IntKind.signed]
  omega
theorem makeSlice_sound (h : Rel P GL B φ M w) (hg : Good φ M M') {t : TypeId} {l l' c c' : Value} (hl : VRel φ l l') (hc : VRel φ c c') {k : Nat} {r : AR} (ho : amakeSlice P t l c M = some (k, r, M')) :
    k = 1 ∧ OpOk P GL B φ M M' w r ((do pure (.value (← Instr.makeSlice t l' c')) : Sem Next).run P w) := by
  unfold amakeSlice at ho
  split at ho
  · rename_i elem k1 li k2 ci ht
    cases hl.int_inv
    cases hc.int_inv
    split at ho
    · rename_i e he
      split at ho
      · rename_i z hz
        generalize hb : (flat z && z.cells.toList.all isCell && Nat.beq z.cells.toList.length e.size && !Nat.beq e.size 0 && decide (0 ≤ li) && decide (li ≤ ci) && decide (ci < 2 ^ 37) && Nat.ble e.bytes 1024) = b at ho
        cases b <;> simp only [cond_true, cond_false] at ho
        · simp at ho
        · simp [made] at ho
          obtain ⟨rfl, rfl, rfl⟩ := ho
          simp only [Bool.and_eq_true, decide_eq_true_eq, Nat.beq_eq, Bool.not_eq_true', Nat.ble_eq, Array.length_toList] at hb
          obtain ⟨⟨⟨⟨⟨⟨⟨h1, h2⟩, h3⟩, h4⟩, h5⟩, h6⟩, h7⟩, h8⟩ := hb
          have hsz : e.size ≠ 0 := by intro x; rw [x] at h4; simp at h4
          have hwc : IntKind.i64.wrap ci = ci := wrap_small (by omega) (by omega)
          have hwl : IntKind.i64.wrap li = li := wrap_small (by omega) (by omega)
          have hpos : 0 < z.cells.size := by omega
          have hbig : (e.bytes : Int) * ci ≤ 2 ^ 48 := by
            have h9 : (e.bytes : Int) ≤ 1024 := by omega
            calc (e.bytes : Int) * ci ≤ 1024 * ci := Int.mul_le_mul_of_nonneg_right h9 (by omega)
              _ ≤ 2 ^ 48 := by omega
          have hz' := flat_cells h1
          obtain ⟨φ', p1, p2, p3⟩ := row_sound (z := e.size) (elem := elem) (cs := repN li.toNat z.cells.toList) (c := (repN ci.toNat z.cells.toList).toArray) (len := li.toNat) (cap' := ci.toNat)
            (cap := bif decide (li = ci) then li.toNat + 1 else li.toNat) h (hg _ (Nat.le_refl _) (Nat.lt_succ_self _)) (Same.refl w)
            (fun j v hj => by
              have e1 : repN ci.toNat z.cells.toList = repN li.toNat z.cells.toList ++ repN (ci.toNat - li.toNat) z.cells.toList := by
                rw [← repN_add]; congr 1; omega
              have hjl : j < (repN li.toNat z.cells.toList).length := by
                rcases Nat.lt_or_ge j (repN li.toNat z.cells.toList).length with h | h
                · exact h
                · rw [List.getElem?_eq_none h] at hj; cases hj
              refine ⟨v, by simp only [List.getElem?_toArray, e1]; rw [List.getElem?_append_left hjl]; exact hj, ?_⟩
              obtain ⟨v', a1, a2⟩ := (repN_rel φ hz' li.toNat).get hj
              rw [hj] at a1; cases a1; exact a2)
            (by simp only [repN_length, List.size_toArray]; exact Nat.mul_le_mul_right _ (by omega)) (by omega)
            (by by_cases hd : li = ci <;> simp [hd])
            (by simp only [repN_length, List.size_toArray, Array.length_toList, h3]; exact Nat.le_refl _)
          refine ⟨rfl, OpOk.val (L := []) ?_ rfl p1 p3⟩
          have hguard : ((decide (ci < 0) || decide ((e.bytes : Int) * ci > 2 ^ 48)) || decide (li < 0) || decide (li > ci)) = false := by
            simp; omega
          simp only [Instr.makeSlice, Sem.run_bind, run_underlying' t ht, Result.andThen_ok, asInt, asIntOf, Sem.run_pure, run_typeInfo' elem he, hwc, hwl]
          rw [if_neg (by simpa using hguard)]
          simp only [Sem.run_bind, run_askRoom, Result.andThen_ok, run_sizeOf' elem he, Sem.run_pure, Sem.run_ite]
          by_cases h0 : ci.toNat * e.size = 0
          · have hz0 : ci.toNat = 0 := by
              rcases Nat.mul_eq_zero.1 h0 with h | h
              · exact h
              · exact absurd h hsz
            rw [hz0] at p2 ⊢
            simp only [Nat.zero_mul, if_true, repN] at p2 ⊢
            have hr : ∀ f : Nat → Value, (Array.range 0).map f = #[] := fun f => by apply Array.ext'; simp
            simp only [hr, p2, Result.andThen_ok]
          · have hc0 := range_map_repN ci.toNat z.cells hpos
            rw [h3] at hc0
            rw [if_neg h0]
            simp only [run_zeroValue' elem he hz, Result.andThen_ok, h3, hc0, p2]
      · simp at ho
    · simp at ho
  · simp at ho
theorem buildSlice_sound (h : Rel P GL B φ M w) (hg : Good φ M M') {t : TypeId} {len : Nat} {ps : List (Nat × Value)} {ps' : Array (Nat × Value)} (h1 : ps.map (·.1) = ps'.toList.map (·.1)) (h2 : LRel φ (ps.map (·.2)) (ps'.toList.map (·.2)))
    {k : Nat} {r : AR} (ho : abuildSlice P t len ps M = some (k, r, M')) :
    k = 1 ∧ OpOk P GL B φ M M' w r ((do pure (.value (← Instr.buildSlice t len ps')) : Sem Next).run P w) := by
  unfold abuildSlice at ho
  split at ho
  · rename_i elem ht
    split at ho
    · rename_i e he
      split at ho
      · rename_i z hz
        generalize hb : (flat z && z.cells.toList.all isCell && Nat.beq z.cells.toList.length e.size && !Nat.beq e.size 0 && Nat.ble (len * e.size) (2 ^ 24)) = b at ho
        cases b <;> simp only [cond_true, cond_false] at ho
        · simp at ho
        · split at ho
          · rename_i cs hcs
            cases hc : cs.all isCell <;> simp only [hc, cond_true, cond_false] at ho
            · simp at ho
            · simp [made] at ho
              obtain ⟨rfl, rfl, rfl⟩ := ho
              simp only [Bool.and_eq_true, Nat.beq_eq, Bool.not_eq_true', Nat.ble_eq, Array.length_toList] at hb
              obtain ⟨⟨⟨⟨h3, h4⟩, h5⟩, h6⟩, h7⟩ := hb
              have hsz : e.size ≠ 0 := by intro x; rw [x] at h6; simp at h6
              have hpos : 0 < z.cells.size := by omega
              obtain ⟨cs', e1, e2⟩ := fill_sound (cells' := (repN len z.cells.toList).toArray) h1 h2 (by simpa using repN_rel φ (flat_cells h3) len) hcs
              have hlen : cs'.size = len * e.size := by
                have : ∀ {pl : Nat → Option (Nat × Nat)} {parts : List (Nat × Value)} {cells r : List Value}, afill pl cells parts = some r → r.length = cells.length := by
                  intro pl parts
                  induction parts with
                  | nil => intro cells r hh; simp [afill] at hh; rw [hh]
                  | cons p parts ih =>
                    intro cells r hh
                    obtain ⟨i, v⟩ := p
                    simp only [afill] at hh
                    split at hh
                    · cases hh
                    · rename_i off size _
                      cases hq : (Nat.beq v.cells.toList.length size && Nat.ble (off + v.cells.toList.length) cells.length) <;> simp only [hq, cond_true, cond_false] at hh
                      · cases hh
                      · rw [ih hh, splice_length]
                have h8 := this hcs
                have h9 := e2.length
                simp only [repN_length, Array.length_toList, h5] at h8 h9
                omega
              obtain ⟨φ', p1, p2, p3⟩ := row_sound (z := e.size) (elem := elem) (cs := cs) (c := cs') (len := len) (cap' := len) (cap := len + 1) h (hg _ (Nat.le_refl _) (Nat.lt_succ_self _)) (Same.refl w)
                (fun j v hj => e2.getA j v hj) (by have := e2.length; simp at this; omega) (Nat.le_refl _) (.inr ⟨rfl, rfl⟩) (by omega)
              refine ⟨rfl, OpOk.val (L := []) ?_ rfl p1 p3⟩
              simp only [Instr.buildSlice, Sem.run_bind, run_underlying' t ht, Result.andThen_ok, run_sizeOf' elem he]
              rw [if_neg (by omega)]
              simp only [Sem.run_bind, Sem.run_ite, Sem.run_pure, Result.andThen_ok]
              by_cases h0 : len * e.size = 0
              · have hz0 : len = 0 := by
                  rcases Nat.mul_eq_zero.1 h0 with h | h
                  · exact h
                  · exact absurd h hsz
                subst hz0
                have hr : ∀ f : Nat → Value, (Array.range 0).map f = #[] := fun f => by apply Array.ext'; simp
                simp only [repN, Nat.zero_mul, if_true, hr] at e1 ⊢
                simp only [e1, Sem.run_bind, p2, Result.andThen_ok, Sem.run_pure]
              · have hc0 := range_map_repN len z.cells hpos
                rw [h5] at hc0
                rw [if_neg h0]
                simp only [run_zeroValue' elem he hz, Result.andThen_ok, h5, hc0, e1, Sem.run_bind, p2, Sem.run_pure]
          · simp at ho
      · simp at ho
    · simp at ho
  · simp at ho
end Go.Am
end

set_option linter.unusedVariables false
set_option linter.unusedSimpArgs false
noncomputable section
namespace Go.Am
open Go
variable {P : Program} {GL : List Nat} {B : Bd} {φ : Emb} {M M' : Mem} {w : World}
def vis (M : Mem) (id : Nat) : Bool := Nat.blt id M.next && !hidden M.hide id
theorem get_put (M : Mem) (id : Nat) (b : Option ABlk) (j : Nat) : (M.put id b).getA j = if j = id then (bif !vis M id then none else b) else M.getA j := by
  by_cases h : j = id
  · subst h
    unfold Mem.put Mem.getA vis
    simp only [Tr.get_set, if_true]
    cases (Nat.blt j M.next && !hidden M.hide j) <;> rfl
  · unfold Mem.put Mem.getA
    simp only [Tr.get_set, if_neg h]
theorem not_hidden {id : Nat} {b : ABlk} (h : M.getA id = some b) : (!vis M id) = false := by
  unfold Mem.getA at h
  unfold vis
  cases hh : (Nat.blt id M.next && !hidden M.hide id) <;> simp [hh] at h ⊢
theorem splice_get : ∀ (cs : List Value) (k : Nat) (l : List Value) (j : Nat), k + l.length ≤ cs.length → (splice cs k l)[j]? = if k ≤ j ∧ j < k + l.length then l[j - k]? else cs[j]?
  | cs, k, [], j, _ => by rw [splice_nil]; simp; intro h1 h2; omega
  | [], k, v :: l, j, h => by simp at h
  | c :: cs, 0, v :: l, 0, h => by simp [splice]
  | c :: cs, 0, v :: l, j + 1, h => by
    simp only [splice, List.getElem?_cons_succ]
    rw [splice_get cs 0 l j (by simpa using h)]
    simp
  | c :: cs, k + 1, v :: l, 0, h => by simp [splice]
  | c :: cs, k + 1, v :: l, j + 1, h => by
    simp only [splice, List.getElem?_cons_succ]
    rw [splice_get cs k (v :: l) j (by simp at h ⊢; omega)]
    simp only [List.length_cons]
    by_cases hj : k ≤ j ∧ j < k + (l.length + 1)
    · rw [if_pos hj, if_pos (by omega)]; congr 1; omega
    · rw [if_neg hj, if_neg (by omega)]
theorem write_sound (h : Rel P GL B φ M w) {id : Nat} {b : ABlk} (hb : M.get id = some b) {e : Ent} (he : φ id = some e) {k : Nat} {l l' : List Value} (hl : LRel φ l l') (hc : l.all isCell = true)
    (hw : b.wf ≤ k) (hk : k + l.length ≤ b.cs.length) {a' : Addr} (hadr : l = [] ∨ (a'.spot = none ∧ a'.block = e.block ∧ a'.off = e.base + k)) :
    ∃ w', (storeCells a' l').run P w = .ok () w' ∧ Post P GL B φ φ M (M.put id (some { b with cs := splice b.cs k l })) [id] w w' := by
  obtain ⟨e', he', hr⟩ := h.blk id b hb
  rw [he] at he'; cases he'
  have hbA := get_A hb
  cases hl0 : l with
  | nil =>
    subst hl0
    cases hl
    refine ⟨w, by simp [storeCells], ⟨fun _ _ => rfl, Nat.le_refl _, ⟨fun id' b' hb' => ?_, fun id1 id2 b1 b2 e1 e2 hne hb1 hb2 ho he1 he2 => ?_, h.glob, h.size, fun id' b' hb' => ?_, h.rnd⟩, Fr.refl _ _ _ _, fun i e h1 h2 => (by have : i < M.next := h2; omega), fun t ht => by simp at ht; subst ht; exact h.ids _ _ hb⟩⟩
    · rw [get_put, splice_nil, not_hidden hbA] at hb'
      by_cases hi : id' = id
      · simp [hi] at hb'; subst hb'; subst hi; exact h.blkA id' b hbA
      · rw [if_neg hi] at hb'; exact h.blkA id' b' hb'
    · rw [get_put, splice_nil, not_hidden hbA] at hb1 hb2
      have f : ∀ id' b', (if id' = id then (bif false then none else some b) else M.getA id') = some b' → M.getA id' = some b' := fun id' b' hq => by
        by_cases hi : id' = id
        · simp [hi] at hq; subst hq; rw [hi]; exact hbA
        · rwa [if_neg hi] at hq
      exact h.sepA id1 id2 b1 b2 e1 e2 hne (f _ _ hb1) (f _ _ hb2) ho he1 he2
    · rw [get_put, splice_nil, not_hidden hbA] at hb'
      show id' < M.next
      by_cases hi : id' = id
      · rw [hi]; exact h.ids id b hb
      · rw [if_neg hi] at hb'; exact h.idsA _ _ hb'
  | cons v0 l0 =>
    have hne : 0 < l.length := by rw [hl0]; simp
    obtain ⟨hs, hab, hao⟩ := hadr.resolve_left (by rw [hl0]; simp)
    rw [← hl0]
    clear hl0
    have hown : b.app = true ∨ b.wf < b.cs.length := .inr (by omega)
    obtain ⟨c, lo, hi, c1, c2, c3, c4⟩ := hr.cells
    have hlen := hl.length
    have hblen := hr.len
    have hlt := hr.lt
    have hBe := hr.own hown
    refine ⟨setRow w e.block (.cells (splice c.toList (e.base + k) l').toArray b.elem (lo, hi)), ?_, ?_⟩
    · have := storeCells_run (P := P) (l := l') (i := 0) c1 hab hs (by omega) (fun j h1 h2 => by
        have := c4 hown (j - e.base) (by omega) (Nat.lt_of_lt_of_le (by omega) (le_lim b.esz e.tot))
        rw [show e.base + (j - e.base) = j by omega] at this
        exact this) (by rw [hl.isCell]; exact hc)
      simpa [hao] using this
    · have hheap : ∀ j, (setRow w e.block (.cells (splice c.toList (e.base + k) l').toArray b.elem (lo, hi))).heap[j]? = if e.block = j then some (.cells (splice c.toList (e.base + k) l').toArray b.elem (lo, hi)) else w.heap[j]? := fun j => by
        rw [heap_setRow, if_pos hlt]
      have hin : e.base + k + l'.length ≤ c.toList.length := by simp; omega
      refine ⟨fun _ _ => rfl, Nat.le_refl _, ⟨fun id' b' hb' => ?_, fun id1 id2 b1 b2 e1 e2 hne hb1 hb2 ho he1 he2 => ?_, h.glob, ?_, fun id' b' hb' => ?_, fun x hx => (h.rnd x hx).step (Emb.le_refl _) (by rw [hheap, if_neg ((h.rnd x hx).ne hr)])⟩, ⟨rfl, rfl, rfl, by simp [setRow], fun j hj => ?_⟩, fun i e h1 h2 => (by have : i < M.next := h2; omega), fun t ht => by simp at ht; subst ht; exact h.ids _ _ hb⟩
      · rw [get_put, not_hidden hbA] at hb'
        by_cases hid : id' = id
        · simp [hid] at hb'
          subst hb'; subst hid
          refine ⟨e, he, .inl ⟨hr.esz, ⟨_, lo, hi, by rw [hheap]; simp; rfl, by simp [splice_length]; exact c2, fun j v hj => ?_, ?_⟩, ?_, ?_, fun q1 q2 => hr.whole q1 fun q3 => q2 (by simp only [q3]; cases l <;> rfl), hr.real⟩⟩
          · simp only [List.getElem?_toArray]
            rw [splice_get _ _ _ _ hk] at hj
            rw [splice_get _ _ _ _ hin]
            by_cases hjk : k ≤ j ∧ j < k + l.length
            · rw [if_pos hjk] at hj
              obtain ⟨v', a1, a2⟩ := hl.get hj
              exact ⟨v', by rw [if_pos (by omega), show e.base + j - (e.base + k) = j - k by omega]; exact a1, a2⟩
            · rw [if_neg hjk] at hj
              obtain ⟨v', a1, a2⟩ := c3 j v hj
              exact ⟨v', by rw [if_neg (by omega)]; simpa using a1, a2⟩
          · simp only [splice_length]; exact c4
          · simp only [splice_length]; exact hr.len
          · simp only [splice_length]; exact hr.own
        · rw [if_neg hid] at hb'
          obtain ⟨e', he', hr'⟩ := h.blkA id' b' hb'
          rcases h.sepA id id' b b' e e' (fun x => hid x.symm) hbA hb' hown he he' with hs | hs
          · refine ⟨e', he', hr'.keep (Emb.le_refl φ) ?_⟩
            rw [hheap, if_neg hs]
          · by_cases hbe : e.block = e'.block
            · refine ⟨e', he', .inl ((hr'.ro hs.2.1).under hs.2.1 hs.2.2.1 c1 hbe (c' := (splice c.toList (e.base + k) l').toArray) (lo' := lo) (hi' := hi) (by rw [hheap, if_pos rfl]) (by simp [splice_length]) fun j hj => ?_)⟩
              simp only [List.getElem?_toArray]
              rw [splice_get _ _ _ _ hin, if_neg (by have := hs.2.2.2; omega)]
              simp
            · refine ⟨e', he', hr'.keep (Emb.le_refl φ) ?_⟩
              rw [hheap, if_neg hbe]
      · rw [get_put, not_hidden hbA] at hb1 hb2
        have f : ∀ id' b', (if id' = id then (bif false then none else some { b with cs := splice b.cs k l }) else M.getA id') = some b' → ∃ b'', M.getA id' = some b'' ∧ ((b'.app = true ∨ b'.wf < b'.cs.length) → (b''.app = true ∨ b''.wf < b''.cs.length)) ∧ b'.wf = b''.wf ∧ b'.app = b''.app ∧ b'.cs.length = b''.cs.length := fun id' b' hq => by
          by_cases hi : id' = id
          · simp [hi] at hq; subst hq; exact ⟨b, by rw [hi]; exact hbA, by simp [splice_length], rfl, rfl, by simp [splice_length]⟩
          · rw [if_neg hi] at hq; exact ⟨b', hq, fun x => x, rfl, rfl, rfl⟩
        obtain ⟨b1', q1, q2, r1, _⟩ := f _ _ hb1
        obtain ⟨b2', q3, _, r2, r3, r4⟩ := f _ _ hb2
        exact (h.sepA id1 id2 b1' b2' e1 e2 hne q1 q3 (q2 ho) he1 he2).congr r1 r3 r4 r2
      · simp [setRow]; exact h.size
      · rw [get_put, not_hidden hbA] at hb'
        show id' < M.next
        by_cases hi : id' = id
        · rw [hi]; exact h.ids id b hb
        · rw [if_neg hi] at hb'; exact h.idsA _ _ hb'
      · by_cases hje : e.block = j
        · exact .inr ⟨hje ▸ hBe, id, by simp, e, he, hje⟩
        · left; rw [hheap, if_neg hje]
theorem store_sound (h : Rel P GL B φ M w) {t : TypeId} {a : Addr} {x' v v' : Value} (hx : VRel φ (.pointer (some a)) x') (hv : VRel φ v v') (ho : astore P t a v M = some M') :
    OpOk P GL B φ M M' w .skip ((do Instr.storeAt t x' v'; pure .skip : Sem Next).run P w) := by
  obtain ⟨a', rfl, h1, h2, e, he, hab, hao⟩ := hx.ptr_inv
  unfold astore at ho
  split at ho
  · rename_i b i hb hi
    generalize hq : (Nat.beq v.cells.toList.length i.size && v.cells.toList.all isCell && Nat.ble b.wf a.off && Nat.ble (a.off + v.cells.toList.length) b.cs.length) = q at ho
    cases q <;> simp only [cond_true, cond_false] at ho
    · simp at ho
    · simp at ho; subst ho
      simp only [Bool.and_eq_true, Nat.beq_eq, Nat.ble_eq] at hq
      obtain ⟨⟨⟨q1, q2⟩, q3⟩, q4⟩ := hq
      obtain ⟨w', r1, r2⟩ := write_sound h hb he hv.cells q2 q3 q4 (.inr ⟨h2, hab, hao⟩)
      refine OpOk.skip (L := [a.block]) ?_ rfl r2
      have hsz : v'.cells.size = i.size := by have := hv.cells.length; simp at this q1; omega
      simp [Instr.storeAt, Instr.sureAddr, storeVar, run_sizeOf' t hi, hsz, r1]
  · simp at ho
end Go.Am
end
