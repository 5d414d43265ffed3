/-
  THE ABSTRACT MACHINE: operations that look at no memory are the model's.
-/
import Derived.Test.YtibgnnjicplphaaAmRel
noncomputable section
namespace Go.Am
open Go

theorem pureRun_run {α : Type} {P : Program} : ∀ {s : Sem α} {r : α}, pureRun P s = some r → ∀ w, s.run P w = .ok r w
  | .pure a, r, h, w => by simp [pureRun] at h; subst h; rfl
  | .program k, r, h, w => by
    simp only [pureRun] at h
    simp only [Sem.run]
    exact pureRun_run h w
  | .mark _ k, r, h, w => by
    simp only [pureRun] at h
    simp only [Sem.run]
    exact pureRun_run h w
  | .load .., _, h, _ | .store .., _, h, _ | .new .., _, h, _ | .shape .., _, h, _ | .freeze .., _, h, _ | .frozen .., _, h, _ | .getObj .., _, h, _
  | .setObj .., _, h, _ | .choose .., _, h, _ | .sys .., _, h, _ | .halt .., _, h, _ => by simp [pureRun] at h

def GRel (GL : List Nat) (φ : Emb) : Prop := ∀ g ∈ GL, ∃ e, φ g = some e ∧ e.block = g ∧ e.base = 0

variable {P : Program} {GL : List Nat} {φ : Emb} {T : Tr Value} {n : Nat} {a : Act} {w : World}

theorem ev_sound (hg : GRel GL φ) (hT : TRel φ T n a.tmps) : ∀ {x : Operand} {v : Value}, ev GL T x = some v → VRel φ v (a.eval x)
  | .tmp t, v, h => by
    obtain ⟨v', h1, h2⟩ := hT.2 t v h
    simpa [Act.eval, Array.getD_eq_getD_getElem?, h1] using h2
  | .const c, v, h => by
    simp only [ev] at h
    cases hf : flat c <;> simp [hf] at h
    subst h
    exact VRel.refl_flat φ c hf
  | .global g, v, h => by
    simp only [ev] at h
    cases hf : GL.any (Nat.beq g) <;> simp [hf] at h
    subst h
    obtain ⟨g', hm, hb⟩ := List.any_eq_true.1 hf
    have : g = g' := Nat.eq_of_beq_eq_true hb
    subst this
    obtain ⟨e, he, h1, h2⟩ := hg g hm
    exact .ptr ⟨rfl, rfl, e, he, h1.symm, by simp [h2]⟩
  | .func f, v, h => by
    simp only [ev, Option.some.injEq] at h
    subst h
    exact VRel.refl_flat φ _ rfl

theorem evs_sound (hg : GRel GL φ) (hT : TRel φ T n a.tmps) : ∀ {l : List Operand} {vs : List Value}, evs GL T l = some vs → LRel φ vs (l.map a.eval)
  | [], vs, h => by simp [evs] at h; subst h; exact .nil
  | x :: l, vs, h => by
    simp only [evs] at h
    split at h
    · rename_i v vs' h1 h2
      simp at h; subst h
      exact .cons (ev_sound hg hT h1) (evs_sound hg hT h2)
    · simp at h

theorem evs_flat (hg : GRel GL φ) (hT : TRel φ T n a.tmps) : ∀ {l : List Operand} {vs : List Value}, evs GL T l = some vs → flatL vs = true →
    ∀ x ∈ l, (ev GL T x).getD undef = a.eval x
  | [], _, _, _, _, hx => by simp at hx
  | y :: l, vs, h, hf, x, hx => by
    simp only [evs] at h
    split at h
    · rename_i v vs' h1 h2
      simp at h; subst h
      simp [flatL] at hf
      rcases List.mem_cons.1 hx with rfl | hx
      · rw [h1]; exact ((ev_sound hg hT h1).of_flat hf.1).symm
      · exact evs_flat hg hT h2 hf.2 x hx
    · simp at h

theorem aflat_sound (hg : GRel GL φ) (hT : TRel φ T n a.tmps) {o : Oper} (hs : ∀ cs b, o.op ≠ .select cs b) {r : AR} (h : aflat P GL o T = some r) :
    ∃ v, r = .val v ∧ ∃ v', (execOp a.eval o).run P w = .ok (.value v') w ∧ VRel φ v v' := by
  unfold aflat at h
  split at h
  · rename_i vs hvs
    cases hf : flatL vs <;> simp only [hf, cond_true, cond_false] at h
    · simp at h
    · split at h
      · rename_i v hv
        cases hfv : flat v <;> simp only [hfv, cond_true, cond_false] at h
        · simp at h
        · simp at h; subst h
          have he : execOp (fun x => (ev GL T x).getD undef) o = execOp a.eval o :=
            execOp_congr o hs fun x hx => evs_flat hg hT hvs hf x (by simpa using hx)
          rw [he] at hv
          exact ⟨v, rfl, v, pureRun_run hv w, VRel.refl_flat φ v hfv⟩
      · simp at h
  · simp at h

@[simp] theorem run_underlying' (t : TypeId) {d : TypeDesc} (h : P.underlying t = some d) : (underlying t).run P w = .ok d w := by
  simp [underlying, h]
@[simp] theorem run_typeInfo' (t : TypeId) {i : TypeInfo} (h : P.info? t = some i) : (typeInfo t).run P w = .ok i w := by
  simp [typeInfo, h]
@[simp] theorem run_sizeOf' (t : TypeId) {i : TypeInfo} (h : P.info? t = some i) : (sizeOf t).run P w = .ok i.size w := by
  simp [sizeOf, run_typeInfo' t h]

theorem run_isAgg' (t : TypeId) {d : TypeDesc} (h : P.underlying t = some d) : (isAgg t).run P w = .ok (isAggD d) w := by
  simp only [isAgg, Sem.run_bind, run_underlying' t h, Result.andThen_ok]
  cases d <;> rfl

theorem part_sound {t : TypeId} {cs : List Value} {cs' : Array Value} (hl : LRel φ cs cs'.toList) {off : Nat} {v : Value} (h : apart P t cs off = some v) :
    ∃ v', (part t cs' off).run P w = .ok v' w ∧ VRel φ v v' := by
  unfold apart at h
  split at h
  · rename_i d hd
    cases hg : isAggD d <;> simp only [hg, cond_true, cond_false] at h
    · obtain ⟨v', h1, h2⟩ := hl.get h
      refine ⟨v', ?_, h2⟩
      have h1' : cs'[off]? = some v' := by simpa using h1
      simp [part, run_isAgg' t hd, hg, h1']
    · split at h
      · rename_i i hi
        simp at h; subst h
        refine ⟨.agg (cs'.extract off (off + i.size)), by simp [part, run_isAgg' t hd, hg, run_sizeOf' t hi], ?_⟩
        have := (hl.drop off).take i.size
        have e : cs'.extract off (off + i.size) = ((cs'.toList.drop off).take i.size).toArray := by
          apply Array.ext'
          simp
        rw [e]
        exact .agg this
      · simp at h
  · simp at h

theorem LRel.set1 {l l' : List Value} (h : LRel φ l l') {v v' : Value} (hv : VRel φ v v') (j : Nat) : LRel φ (l.set j v) (l'.set j v') := by
  induction j generalizing l l' with
  | zero => cases h with
    | nil => exact .nil
    | cons h k => exact .cons hv k
  | succ j ih => cases h with
    | nil => exact .nil
    | cons h k => exact .cons h (ih k)

theorem LRel.splice : ∀ {l l' m m' : List Value} (_ : LRel φ l l') (_ : LRel φ m m') (j : Nat), LRel φ (splice l j m) (splice l' j m')
  | _, _, _, _, h, .nil, j => by
    cases h <;> cases j <;> simp only [Go.Am.splice] <;> first | exact .nil | exact .cons ‹_› ‹_›
  | _, _, _, _, .nil, .cons _ _, j => by cases j <;> exact .nil
  | _, _, _, _, .cons h k, .cons hv hm, 0 => .cons hv (LRel.splice k hm 0)
  | _, _, _, _, .cons h k, .cons hv hm, j + 1 => .cons h (LRel.splice k (.cons hv hm) j)

theorem splice_nil (cs : List Value) (j : Nat) : splice cs j [] = cs := by cases cs <;> cases j <;> rfl
theorem splice_length : ∀ (cs : List Value) (j : Nat) (l : List Value), (splice cs j l).length = cs.length
  | cs, j, [] => by rw [splice_nil]
  | [], j, _ :: _ => by cases j <;> rfl
  | _ :: cs, 0, v :: l => by simp [splice, splice_length cs 0 l]
  | _ :: cs, j + 1, v :: l => by simp [splice, splice_length cs j (v :: l)]
theorem splice_set : ∀ (cs : List Value) (j : Nat) (v : Value) (l : List Value), splice cs j (v :: l) = splice (cs.set j v) (j + 1) l
  | [], j, v, l => by cases l <;> cases j <;> simp [splice]
  | c :: cs, 0, v, [] => by simp [splice, splice_nil]
  | c :: cs, 0, v, u :: l => by simp [splice]
  | c :: cs, j + 1, v, [] => by simp [splice, splice_nil, splice_set cs j v []]
  | c :: cs, j + 1, v, u :: l => by simp only [splice, List.set_cons_succ]; rw [splice_set cs j v (u :: l)]

/- The model's fill, as a splice. -/
theorem foldl_set_splice : ∀ (l : List Value) (k : Nat) (off : Nat) (cs : Array Value),
    (l.zipIdx k).foldl (fun (cs : Array Value) (p : Value × Nat) => cs.setIfInBounds (off + p.2) p.1) cs = (splice cs.toList (off + k) l).toArray
  | [], k, off, cs => by simp [splice_nil]
  | v :: l, k, off, cs => by
    simp only [List.zipIdx_cons, List.foldl_cons]
    rw [foldl_set_splice l (k + 1) off, splice_set]
    simp [Nat.add_assoc]

theorem fill_sound {place : Nat → Option (Nat × Nat)} : ∀ {parts : List (Nat × Value)} {parts' : List (Nat × Value)} {cells : List Value} {cells' : Array Value} {r : List Value},
    parts.map (·.1) = parts'.map (·.1) → LRel φ (parts.map (·.2)) (parts'.map (·.2)) → LRel φ cells cells'.toList → afill place cells parts = some r →
    ∃ r', Instr.fill place cells' parts' = some r' ∧ LRel φ r r'.toList
  | [], [], _, cells', _, _, _, hc, h => by simp [afill] at h; subst h; exact ⟨cells', rfl, hc⟩
  | [], _ :: _, _, _, _, hi, _, _, _ => by simp at hi
  | _ :: _, [], _, _, _, hi, _, _, _ => by simp at hi
  | (i, v) :: parts, (i', v') :: parts', cells, cells', r, hi, hp, hc, h => by
    simp only [List.map_cons, List.cons.injEq] at hi
    obtain ⟨rfl, hi⟩ := hi
    simp only [List.map_cons] at hp
    cases hp with
    | cons hv hp =>
      simp only [afill] at h
      cases hpl : place i with
      | none => simp [hpl] at h
      | some q =>
        obtain ⟨off, size⟩ := q
        simp only [hpl] at h
        cases hb : (Nat.beq v.cells.toList.length size && Nat.ble (off + v.cells.toList.length) cells.length) <;> simp only [hb, cond_true, cond_false] at h
        · simp at h
        · simp only [Bool.and_eq_true, Nat.beq_eq, Nat.ble_eq] at hb
          have hvl := hv.cells.length
          have hcl := hc.length
          simp only [Array.length_toList] at hvl hcl hb
          have hz : v'.cells.zipIdx.foldl (fun (cs : Array Value) (p : Value × Nat) => cs.setIfInBounds (off + p.2) p.1) cells' = (splice cells'.toList off v'.cells.toList).toArray := by
            rw [← Array.foldl_toList, Array.toList_zipIdx]
            simpa using foldl_set_splice v'.cells.toList 0 off cells'
          simp only [Instr.fill, hpl]
          rw [if_neg (by simp; omega)]
          have := fill_sound (place := place) hi hp (cells' := (splice cells'.toList off v'.cells.toList).toArray) (by simpa using hc.splice hv.cells off) h
          rw [← hz] at this
          exact this
end Go.Am
end
