/-
  What is proved: MiniSteady: a machine of Make's is steady just if a letter twice is a letter once: for every x, y, every word. For every argument; one laid table (math/bits) is tied by the card.
-/
import Derived.Test.YtchnlooenomfnaaGreatDoorGAmEq
import Derived.ChangeSame
set_option linter.unusedVariables false
set_option linter.unusedSimpArgs false
noncomputable section
namespace Go.Am
open Go
variable {P : Program} {GL : List Nat} {B : Bd}
def zeroMem : Mem := ⟨.nil, 0, [], []⟩
def noEmb : Emb := fun _ => none
theorem zeroMem_get (id : Nat) : zeroMem.getA id = none := by
  cases h : zeroMem.getA id with
  | none => rfl
  | some b => exact absurd (getA_spec.1 h).1 (Nat.not_lt_zero _)
theorem Rel.zero {w : World} (hB : ∀ k, w.heap.size ≤ k → B.ok k) (hrs : B.rs = []) : Rel P [] B noEmb zeroMem w :=
  ⟨fun id b h => absurd ((zeroMem_get id).symm.trans h) (by simp), fun a _ _ _ _ _ _ h => absurd ((zeroMem_get a).symm.trans h) (by simp), fun g h => absurd h (by simp), hB, fun id b h => absurd ((zeroMem_get id).symm.trans h) (by simp), fun x hx => by rw [hrs] at hx; cases hx⟩
structure Kept (w w' : World) : Prop where
  os : w'.os = w.os
  output : w'.output = w.output
  size : w.heap.size ≤ w'.heap.size
  block : ∀ k, k < w.heap.size → w'.heap[k]? = w.heap[k]?
theorem Kept.refl (w : World) : Kept w w := ⟨rfl, rfl, Nat.le_refl _, fun _ _ => rfl⟩
theorem Kept.trans {w w1 w2 : World} (h : Kept w w1) (k : Kept w1 w2) : Kept w w2 :=
  ⟨k.os.trans h.os, k.output.trans h.output, Nat.le_trans h.size k.size, fun i hi => (k.block i (Nat.lt_of_lt_of_le hi h.size)).trans (h.block i hi)⟩
theorem Kept.keptBut {w w' : World} (h : Kept w w') (may : MemPlace → Prop) : w.keptBut w' may := by
  refine ⟨h.os, h.output, fun i hi => ?_⟩
  rw [h.block i hi]
  cases he : w.heap[i]? with
  | none => rfl
  | some o => cases o <;> simp
theorem Kept.frozen {w w' : World} (h : Kept w w') (a : Addr) (ha : a.block < w.heap.size) : w'.frozen? a = w.frozen? a := by
  unfold World.frozen?
  rw [h.block _ ha]
theorem Rel.grow {φ : Emb} {M : Mem} {w w' : World} (h : Rel P GL B φ M w) (hs : w.heap.size ≤ w'.heap.size) (hb : ∀ k, k < w.heap.size → w'.heap[k]? = w.heap[k]?) : Rel P GL B φ M w' := by
  refine ⟨fun id b hi => ?_, h.sepA, h.glob, fun k hk => h.size k (Nat.le_trans hs hk), h.idsA, fun x hx => (h.rnd x hx).step (Emb.le_refl _) (hb _ (h.rnd x hx).lt)⟩
  obtain ⟨e, he, hr⟩ := h.blkA id b hi
  exact ⟨e, he, hr.keep (Emb.le_refl _) (hb _ hr.lt)⟩
structure SpecOk (P : Program) (GL : List Nat) (B : Bd) (f : FuncId) (g : List Value → Mem → Option (Value × Mem)) : Prop where
  abs : ∀ args M v M', g args M = some (v, M') → ∃ L, Abs M M' L
  run : ∀ args M v M', g args M = some (v, M') → ∀ φ w, Rel P GL B φ M w → Good φ M M' → ∀ args' : Array Value, LRel φ args args'.toList →
    Calls P f args' w fun e w' => ∃ L φ' v', e = .returned v' ∧ M'.log = L ++ M.log ∧ Post P GL B φ φ' M M' L w w' ∧ VRel φ' v v'
def specsF : List (FuncId × (List Value → Mem → Option (Value × Mem))) → FuncId → Option (List Value → Mem → Option (Value × Mem))
  | [], _ => none
  | (k, g) :: l, f => bif Nat.beq f k then some g else specsF l f
theorem specsF_mem : ∀ {l : List (FuncId × (List Value → Mem → Option (Value × Mem)))} {f : FuncId} {g}, specsF l f = some g → (f, g) ∈ l
  | [], f, g, h => by cases h
  | (k, g') :: l, f, g, h => by
    unfold specsF at h
    cases hb : Nat.beq f k <;> simp only [hb, cond_true, cond_false] at h
    · exact List.mem_cons_of_mem _ (specsF_mem h)
    · have : f = k := Nat.eq_of_beq_eq_true hb
      cases h; subst this
      exact List.mem_cons_self ..
def specsG (l : List (FuncId × (List Value → Mem → Option (Value × Mem)))) : FuncId → Option (List Value → Mem → Option (Value × Mem)) := fun f => bif Nat.blt f YB then specsF l f else none
theorem specsG_F {l : List (FuncId × (List Value → Mem → Option (Value × Mem)))} {f : FuncId} {g} (h : specsG l f = some g) : specsF l f = some g ∧ f < YB := by
  unfold specsG at h
  cases hb : Nat.blt f YB <;> simp only [hb, cond_true, cond_false] at h
  · cases h
  · exact ⟨h, Nat.le_of_ble_eq_true hb⟩
theorem CallsR.of {φ : Emb} {f : FuncId} {args : Array Value} {w : World} {R : Ending → World → Prop} (hf : f < YB) (h : Calls P f args w R) : CallsR P φ f args w R :=
  ⟨fun _ => h, fun r e h1 _ => absurd hf (by rw [h1]; exact Nat.not_lt.2 (Nat.le_add_right _ _))⟩
def specs (l : List (FuncId × (List Value → Mem → Option (Value × Mem)))) : Specs := ⟨specsG l, fun _ => none⟩
theorem specs_ok {l : List (FuncId × (List Value → Mem → Option (Value × Mem)))} (h : ∀ p ∈ l, SpecOk P GL B p.1 p.2) : SpecsOk P GL B (specs l) :=
  ⟨fun _ _ hf => (h _ (specsF_mem (specsG_F hf).1)).abs, fun _ _ h => (by cases h), fun _ _ h => (by cases h), fun _ _ hf args M v M' hg φ w hR hG args' ha => .of (specsG_F hf).2 ((h _ (specsF_mem (specsG_F hf).1)).run args M v M' hg φ w hR hG args' ha)⟩
structure BlkOk (P : Program) (GL : List Nat) (B : Bd) (id : Nat) (g : Code → St → Option (AExit × St)) : Prop where
  abs : ∀ b s e s', g b s = some (e, s') → ∃ L, Abs s.M s'.M L
  run : ∀ b s e s', g b s = some (e, s') → Says P GL B s s' e fun Q a w => (Code.block id b).wp P Q a w
def blksF : List (Nat × (Code → St → Option (AExit × St))) → Nat → Option (Code → St → Option (AExit × St))
  | [], _ => none
  | (k, g) :: l, f => bif Nat.beq f k then some g else blksF l f
theorem blksF_mem : ∀ {l : List (Nat × (Code → St → Option (AExit × St)))} {f : Nat} {g}, blksF l f = some g → (f, g) ∈ l
  | [], f, g, h => by cases h
  | (k, g') :: l, f, g, h => by
    unfold blksF at h
    cases hb : Nat.beq f k <;> simp only [hb, cond_true, cond_false] at h
    · exact List.mem_cons_of_mem _ (blksF_mem h)
    · have : f = k := Nat.eq_of_beq_eq_true hb
      cases h; subst this
      exact List.mem_cons_self ..
def specsB (l : List (FuncId × (List Value → Mem → Option (Value × Mem)))) (k : List (Nat × (Code → St → Option (AExit × St)))) : Specs := ⟨specsG l, blksF k⟩
theorem specsB_ok {l : List (FuncId × (List Value → Mem → Option (Value × Mem)))} {k : List (Nat × (Code → St → Option (AExit × St)))} (h : ∀ p ∈ l, SpecOk P GL B p.1 p.2) (hk : ∀ p ∈ k, BlkOk P GL B p.1 p.2) : SpecsOk P GL B (specsB l k) :=
  ⟨fun _ _ hf => (h _ (specsF_mem (specsG_F hf).1)).abs, fun _ _ h => (hk _ (blksF_mem h)).abs, fun _ _ h => (hk _ (blksF_mem h)).run, fun _ _ hf args M v M' hg φ w hR hG args' ha => .of (specsG_F hf).2 ((h _ (specsF_mem (specsG_F hf).1)).run args M v M' hg φ w hR hG args' ha)⟩
theorem SpecOk.arun (hN : noNum P) (hm : P.follows .mixedOrders = true) {SP : Specs} (hS : SpecsOk P GL B SP) (n : Nat) (f : FuncId) : SpecOk P GL B f (Go.Am.arun P GL SP n f) :=
  ⟨fun args M v M' h => arun_abs hN hm hS n f args M v M' h, fun args M v M' h φ w hR hG args' ha => arun_calls hN hm hS n h hR hG args' ha⟩
open Go.ChangeShapes Go.WideShapes in
theorem post_of_kept {H : Type} {enc : TypeId × Value → H} {f : Func} {s : ChangeSpec} {apart fresh handsOn again : Bool} {W W' : World} {args : Array Value} {v : Value} {ds gs : List (DataW H)} {before pa pv : List MemPlace}
    (hW : DataW.Whole enc P f.params.toList s.vars apart W args.toList ds gs before)
    (hres : ∀ (b : Nat) (sp : Nat → Bool) (hd : Bool), DataW.TrodAll enc P W' b sp hd f.resultTypes.toList (v.resultList f.resultTypes.size) (s.fn H (ds ++ gs)).results [])
    (hargs : ∀ sp : Nat → Bool, (∀ p ∈ before, sp p.block = true) → DataW.TrodAll enc P W' 0 sp true f.params.toList args.toList (s.fn H (ds ++ gs)).args pa)
    (hvars : ∀ sp : Nat → Bool, (∀ p ∈ before, sp p.block = true) → DataW.TrodVars enc P W' sp s.vars (s.fn H (ds ++ gs)).vars pv)
    (hps : before = pa ++ pv) (hk : Kept W W')
    (hok : ∀ (j : Nat) (t : TypeId) (r : Value), f.resultTypes[j]? = some t → (v.resultList f.resultTypes.size)[j]? = some r → Value.okWide P W' .any 0 t r) :
    s.post enc P f apart fresh handsOn again W args v W' := by
  have hlt : ∀ p ∈ before, p.block < W.heap.size := fun p hp => hW.lt p hp
  have hold : ∀ p ∈ before, (fun b => decide (b < W.heap.size)) p.block = true := fun p hp => by simpa using hlt p hp
  refine ⟨ds, gs, before, [], pa, pv, hW, hres _ _ _, hargs _ hold, hvars _ hold, World.keptBut_mono (fun p hp => ⟨hp, ?_⟩) (hk.keptBut (· ∈ before)), fun _ => ?_⟩
  · rw [hps, List.mem_append] at hp
    exact Or.inr hp
  · obtain ⟨_, _, _, _, _, hz, hn⟩ := hW
    refine ⟨hok, _, _, ([] ++ pa) ++ pv, ⟨[] ++ pa, pv, trodAll_append (hargs _ (fun _ _ => rfl)) (hres _ _ _), hvars _ (fun _ _ => rfl), rfl, ?_, ?_⟩, ?_⟩
    · intro b off hp
      have hp' : MemPlace.cell b off ∈ before := by rw [hps]; simpa using hp
      rw [hk.frozen _ (hlt _ hp')]
      exact hz b off hp'
    · intro ha
      have := hn ha
      rw [hps] at this
      simpa using this
    · intro p hp _
      rw [hps]
      simpa using hp
end Go.Am
end

set_option linter.unusedVariables false
set_option linter.unusedSimpArgs false
noncomputable section
namespace Go.Am
open Go
variable {P : Program} {GL : List Nat} {B : Bd} {callF : CallF}
def quietOp (o : Oper) : Bool :=
  match o.op with
  | .move _ | .assign _ | .pick _ _ _ | .nilCheck _ | .binOp _ _ _ _ _ | .unOp _ _ _ | .fieldAddr _ _ _ | .field _ _ _ | .indexAddr _ _ _ | .index _ _ _ | .extract _ _ | .load _ _ | .build _ _ | .makeInterface _ _ => true
  | .call c => (match c.callee with | .builtin .len => true | _ => false)
  | _ => false
theorem quiet_aop {o : Oper} {T : Tr Value} {M M' : Mem} {k : Nat} {r : AR} (hq : quietOp o = true) (h : aop P GL callF o T M = some (k, r, M')) : M' = M ∧ k ≤ 1 := by
  obtain ⟨dst, op, type, pos, after, guard⟩ := o
  unfold aop at h
  split at h
  · simp at h
    obtain ⟨rfl, _, rfl⟩ := h
    exact ⟨rfl, by omega⟩
  · rename_i h0
    clear h0
    replace h : aop1 P GL callF { dst := dst, op := op, type := type, pos := pos, after := after, guard := guard } T M = some (k, r, M') := by
      split at h
      · cases h
      · exact h
    cases op <;> simp [quietOp] at hq <;> simp only [aop1] at h <;> try (cases h; done)
    case load t x =>
      split at h <;> try (simp at h; done)
      split at h <;> try (simp at h; done)
      simp at h
      obtain ⟨rfl, _, rfl⟩ := h
      exact ⟨rfl, Nat.le_refl _⟩
    case call c =>
      obtain ⟨callee, args, argTypes⟩ := c
      cases callee with
      | builtin b => cases b <;> simp at hq <;> simp at h
      | value f => simp at hq
      | invoke x n => simp at hq
end Go.Am
end

set_option linter.unusedVariables false
set_option linter.unusedSimpArgs false
noncomputable section
namespace Go.Am
open Go
variable {P : Program} {GL : List Nat} {B : Bd} {callF : CallF}
inductive QG where
  | no
  | bad
  | at (d : Nat) (w : Bool)
structure QO where
  dst : Option Nat
  g : QG
  op : Op
  type : TypeId
inductive QC where
  | skip
  | plain (l : List QO)
  | free (l : List QO) (t : TypeId) (x y : Operand)
  | drawn (ops : Array Oper) (bs sl : List Nat) (lf : Option Oper)
  | seq (a b : QC)
  | cond (c : Operand) (a b : QC)
  | block (id : Nat) (b : QC)
  | loop (b : QC)
  | exit (id : Nat)
  | ret
  | label (l : Nat)
  | goto (l : Nat)
  | scope (c : QC)
  | bad
def kindN (o : Oper) : Nat :=
  match o.op with
  | .move _ | .assign _ | .pick _ _ _ | .nilCheck _ | .binOp _ _ _ _ _ | .unOp _ _ _ | .fieldAddr _ _ _ | .field _ _ _ | .indexAddr _ _ _ | .index _ _ _ | .extract _ _ | .build _ _ | .makeInterface _ _ | .makeFunc _ _ _ | .typeAssert _ _ _ _ => 0
  | .load _ _ => 1
  | .alloc _ | .box _ _ | .buildSlice _ _ _ => 3
  | .call c => (match c.callee with | .builtin .len => 0 | _ => 2)
  | _ => 2
def tameOne (deps k : Nat) : List (Nat × Nat) → Bool
  | [] => true
  | (i, ki) :: l => (Nat.beq ki 0 || Nat.beq k 0 || deps.testBit i || (Nat.beq ki 1 && (Nat.beq k 1 || Nat.beq k 3))) && tameOne deps k l
def tameGo : List Oper → List Nat → Nat → List (Nat × Nat) → Bool
  | [], _, _, _ => true
  | o :: l, d :: ds, i, acc => tameOne d (kindN o) acc && tameGo l ds (i + 1) ((i, kindN o) :: acc)
  | _ :: _, [], _, _ => false
def nilB {α : Type} : List α → Bool
  | [] => true
  | _ => false
def cg (ops : Array Oper) (o : Oper) : QG :=
  match o.guard with
  | none => .no
  | some (j, w) => match (ops[j]?).bind (·.dst) with
    | some d => .at d w
    | none => .bad
def cop (ops : Array Oper) (o : Oper) : QO := ⟨o.dst, cg ops o, o.op, o.type⟩
def freeOf (ops : Array Oper) (f : Oper) : QC :=
  match f.op with
  | .store t x y => .free (ops.toList.dropLast.map (cop ops)) t x y
  | _ => .bad
def slOf (ops : Array Oper) : List Nat := match lastFree ops.toList (befores ops.toList []) with | some _ => stillsF ops.toList (befores ops.toList []) | none => stillOps ops.toList (befores ops.toList []) ops.toList (befores ops.toList []) 0
def drO (ops : Array Oper) : QC := bif lexOk ops then .drawn ops (befores ops.toList []) (slOf ops) (lastFree ops.toList (befores ops.toList [])) else .bad
def compR (ops : Array Oper) : QC :=
  bif lexOk ops && nilB (stillOps ops.toList (befores ops.toList []) ops.toList (befores ops.toList []) 0) then
    match lastFree ops.toList (befores ops.toList []) with
    | none => bif tameGo ops.toList (befores ops.toList []) 0 [] then .plain (ops.toList.map (cop ops)) else drO ops
    | some f => bif tameGo ops.toList.dropLast (befores ops.toList []) 0 [] && nilB (stillsF ops.toList (befores ops.toList [])) then freeOf ops f else drO ops
  else drO ops
def comp : Code → QC
  | .skip => .skip
  | .region _ ops draw => bif draw then compR ops else .plain (ops.toList.map (cop ops))
  | .seq a b => .seq (comp a) (comp b)
  | .cond c a b => .cond c (comp a) (comp b)
  | .block id b => .block id (comp b)
  | .loop b => .loop (comp b)
  | .exit id => .exit id
  | .ret => .ret
  | .label l => .label l
  | .goto l => .goto l
  | .scope c => .scope (comp c)
  | _ => .bad
def qwanted (g : QG) (T : Tr Value) : Option Bool :=
  match g with
  | .no => some true
  | .bad => none
  | .at d w => match T.get d with
    | some (.bool b) => some (b == w)
    | some _ => some false
    | none => none
def bare (q : QO) : Oper := ⟨q.dst, q.op, q.type, "", #[], none⟩
theorem aop_bare {ops : Array Oper} {o : Oper} {T : Tr Value} {M : Mem} : aop P GL callF (bare (cop ops o)) T M = aop P GL callF o T M := by
  obtain ⟨dst, op, type, pos, after, guard⟩ := o
  cases op <;> rfl
theorem qwanted_eq {ops : Array Oper} {o : Oper} {T : Tr Value} : qwanted (cg ops o) T = awanted ops T o := by
  unfold cg awanted
  cases o.guard with
  | none => rfl
  | some g =>
    obtain ⟨j, w⟩ := g
    simp only
    cases (ops[j]?).bind (·.dst) <;> rfl
section sound
variable {cf cf' : CallF} (hc : ∀ f a M r, cf f a M = some r → cf' f a M = some r)
include hc
end sound
theorem kind0_aop {o : Oper} {T : Tr Value} {M M' : Mem} {k : Nat} {r : AR} (hq : kindN o = 0) (h : aop P GL callF o T M = some (k, r, M')) : k = 0 ∧ M' = M ∧ aop0 P GL o T = some r := by
  obtain ⟨dst, op, type, pos, after, guard⟩ := o
  unfold aop at h
  split at h
  · rename_i r' hr
    simp at h
    obtain ⟨rfl, rfl, rfl⟩ := h
    exact ⟨rfl, rfl, hr⟩
  · rename_i h0
    clear h0
    exfalso
    replace h : aop1 P GL callF { dst := dst, op := op, type := type, pos := pos, after := after, guard := guard } T M = some (k, r, M') := by
      split at h
      · cases h
      · exact h
    cases op <;> simp [kindN] at hq <;> simp only [aop1] at h <;> try (cases h; done)
    case call c =>
      obtain ⟨callee, args, argTypes⟩ := c
      cases callee with
      | builtin b => cases b <;> first | (cases h; done) | exact absurd hq (by simp)
      | value f => exact absurd hq (by simp)
      | invoke x n => exact absurd hq (by simp)
theorem kind1_aop {o : Oper} {T : Tr Value} {M M' : Mem} {k : Nat} {r : AR} (hq : kindN o = 1) (h : aop P GL callF o T M = some (k, r, M')) : k ≤ 1 ∧ M' = M := by
  obtain ⟨dst, op, type, pos, after, guard⟩ := o
  cases op <;> simp [kindN] at hq
  case load t x =>
    have := quiet_aop (o := ⟨dst, .load t x, type, pos, after, guard⟩) rfl h
    exact ⟨this.2, this.1⟩
  case call c =>
    obtain ⟨callee, args, argTypes⟩ := c
    simp only at hq
    split at hq <;> cases hq
theorem kind3_aop {o : Oper} {T : Tr Value} {M M' : Mem} {k : Nat} {r : AR} (hq : kindN o = 3) (h : aop P GL callF o T M = some (k, r, M')) : k ≤ 1 := by
  obtain ⟨dst, op, type, pos, after, guard⟩ := o
  have hm : ∀ {v : Value} {M1 : Mem}, made v M1 = some (k, r, M') → k ≤ 1 := fun h => by
    simp only [made, Option.some.injEq, Prod.mk.injEq] at h
    omega
  unfold aop at h
  split at h
  · simp at h
    omega
  · rename_i h0
    clear h0
    replace h : aop1 P GL callF { dst := dst, op := op, type := type, pos := pos, after := after, guard := guard } T M = some (k, r, M') := by
      split at h
      · cases h
      · exact h
    cases op <;> simp [kindN] at hq
    case alloc e =>
      simp only [aop1] at h
      unfold aalloc at h
      split at h <;> try (cases h; done)
      split at h <;> try (cases h; done)
      rename_i v _
      cases hb : (flat v && v.cells.toList.all isCell) <;> simp only [hb, cond_true, cond_false] at h
      · cases h
      · exact hm h
    case box e x =>
      simp only [aop1] at h
      split at h <;> try (cases h; done)
      rename_i v _
      unfold abox at h
      split at h <;> try (cases h; done)
      cases hb : (v.cells.toList.all isCell) <;> simp only [hb, cond_true, cond_false] at h
      · cases h
      · exact hm h
    case buildSlice t n ps =>
      simp only [aop1] at h
      split at h <;> try (cases h; done)
      unfold abuildSlice at h
      split at h <;> try (cases h; done)
      split at h <;> try (cases h; done)
      split at h <;> try (cases h; done)
      generalize (flat _ && _ && _ && _ && _) = b at h
      cases b <;> simp only [cond_true, cond_false] at h
      · cases h
      · split at h <;> try (cases h; done)
        rename_i cs _
        cases hb : cs.all isCell <;> simp only [hb, cond_true, cond_false] at h
        · cases h
        · exact hm h
    case call c =>
      obtain ⟨callee, args, argTypes⟩ := c
      simp only at hq
      split at hq <;> cases hq
theorem tameOne_spec {deps k : Nat} : ∀ {acc : List (Nat × Nat)}, tameOne deps k acc = true → ∀ p ∈ acc, p.2 = 0 ∨ k = 0 ∨ deps.testBit p.1 = true ∨ (p.2 = 1 ∧ (k = 1 ∨ k = 3))
  | [], _, _, h => by cases h
  | (i, ki) :: l, h, p, hp => by
    simp only [tameOne, Bool.and_eq_true, Bool.or_eq_true, Nat.beq_eq] at h
    rcases List.mem_cons.1 hp with rfl | hp
    · rcases h.1 with ((h | h) | h) | h
      · exact .inl h
      · exact .inr (.inl h)
      · exact .inr (.inr (.inl h))
      · exact .inr (.inr (.inr h))
    · exact tameOne_spec h.2 p hp
def AccOk (dn : List Done) (acc : List (Nat × Nat)) : Prop := ∀ d ∈ dn, ∃ k, (d.ix, k) ∈ acc ∧ (k = 0 → d.loud = 0) ∧ (k = 1 → d.loud ≤ 1 ∧ d.lo = d.hi)
theorem hides_tame {deps k : Nat} (hk : k ≠ 0) {acc : List (Nat × Nat)} (ht : tameOne deps k acc = true) : ∀ {dn : List Done}, AccOk dn acc → hides deps dn = []
  | [], _ => rfl
  | x :: dn, h => by
    unfold hides
    have : (Nat.beq x.loud 0 || deps.testBit x.ix || Nat.beq x.lo x.hi) = true := by
      obtain ⟨kx, h1, h2, h3⟩ := h x (List.mem_cons_self ..)
      rcases tameOne_spec ht _ h1 with h4 | h4 | h4 | ⟨h4, _⟩
      · simp [h2 h4]
      · exact absurd h4 hk
      · simp only at h4; simp [h4]
      · simp [(h3 h4).2]
    rw [this]
    exact hides_tame hk ht fun d hd => h d (List.mem_cons_of_mem _ hd)
theorem mayAll_tame {deps k q : Nat} (hk : k ≠ 0) (hq : k = 1 ∨ k = 3 → q ≤ 1) {acc : List (Nat × Nat)} (ht : tameOne deps k acc = true) : ∀ {dn : List Done}, AccOk dn acc → mayAll deps q dn = true
  | [], _ => rfl
  | x :: dn, h => by
    have h0 := mayAll_tame hk hq ht (dn := dn) fun d hd => h d (List.mem_cons_of_mem _ hd)
    simp only [mayAll, h0, Bool.and_true, Bool.or_eq_true, Bool.and_eq_true, Nat.beq_eq]
    obtain ⟨kx, h1, h2, h3⟩ := h x (List.mem_cons_self ..)
    rcases tameOne_spec ht _ h1 with h4 | h4 | h4 | ⟨h4, h5⟩
    · exact .inl (.inl (.inl (h2 h4)))
    · exact absurd h4 hk
    · exact .inl (.inr h4)
    · have := (h3 h4).1
      have := hq h5
      rcases Nat.eq_zero_or_pos x.loud with h6 | h6 <;> rcases Nat.eq_zero_or_pos q with h7 | h7
      · exact .inl (.inl (.inl h6))
      · exact .inl (.inl (.inl h6))
      · exact .inl (.inl (.inr h7))
      · exact .inr ⟨by omega, by omega⟩
theorem mayAll_zero {deps : Nat} : ∀ {dn : List Done}, mayAll deps 0 dn = true
  | [] => rfl
  | x :: dn => by simp [mayAll, mayAll_zero (dn := dn)]
theorem adraw2_of_tame (hA : CallAbs callF) {ops : Array Oper} {before : List Nat} {n0 : Nat} : ∀ (l : List Oper) (ds : List Nat) (i : Nat) (dn : List Done) (acc : List (Nat × Nat)) (s s' : St), tameGo l ds i acc = true → AccOk dn acc → (∀ j, j < l.length → before[i + j]? = ds[j]?) →
    aseq P GL callF ops l s = some s' → adraw P GL callF ops before l i dn s = some s' ∧ adraw2 P GL callF ops before [] n0 l i dn [] s = some (s', [])
  | [], ds, i, dn, acc, s, s', _, _, _, h => by
    simp only [aseq, Option.some.injEq] at h
    subst h
    exact ⟨rfl, rfl⟩
  | o :: l, [], i, dn, acc, s, s', ht, _, _, _ => by simp [tameGo] at ht
  | o :: l, d :: ds, i, dn, acc, s, s', ht, ha, hb, h => by
    simp only [tameGo, Bool.and_eq_true] at ht
    obtain ⟨ht1, ht2⟩ := ht
    have hbd : before[i]? = some d := by have := hb 0 (by simp); simpa using this
    have hb' : ∀ j, j < l.length → before[i + 1 + j]? = ds[j]? := fun j hj => by
      have := hb (j + 1) (by simp; omega)
      rw [show i + 1 + j = i + (j + 1) by omega]; simpa using this
    have ha' : ∀ x : Done, x.ix = i → (kindN o = 0 → x.loud = 0) → (kindN o = 1 → x.loud ≤ 1 ∧ x.lo = x.hi) → AccOk (x :: dn) ((i, kindN o) :: acc) := fun x hx h1 h2 y hy => by
      rcases List.mem_cons.1 hy with rfl | hy
      · exact ⟨kindN o, by rw [hx]; exact List.mem_cons_self .., h1, h2⟩
      · obtain ⟨k, q1, q2⟩ := ha y hy
        exact ⟨k, List.mem_cons_of_mem _ q1, q2⟩
    have ha0 : AccOk dn ((i, kindN o) :: acc) := fun y hy => by
      obtain ⟨k, q1, q2⟩ := ha y hy
      exact ⟨k, List.mem_cons_of_mem _ q1, q2⟩
    simp only [aseq] at h
    simp only [adraw, adraw2, hbd]
    split at h
    · rename_i hw
      simp only [hw]
      split at h
      · rename_i k r M' hop
        split at h
        · rename_i s1 hp
          by_cases hk : kindN o = 0
          · obtain ⟨rfl, rfl, h0⟩ := kind0_aop hk hop
            have hop2 : aop P GL callF o s.T { s.M with hide := hides d dn ++ s.M.hide } = some (0, r, { s.M with hide := hides d dn ++ s.M.hide }) := by
              unfold aop; rw [h0]
            have hs2 : ({ s with M := { ({ s.M with hide := hides d dn ++ s.M.hide } : Mem) with hide := s.M.hide } } : St) = { s with M := s.M } := rfl
            have hst : stillAt GL [] n0 o i s.T = none := rfl
            simp only [hop2, hst, mayAll_zero, cond_true, hs2, hp]
            exact adraw2_of_tame hA l ds (i + 1) _ _ s1 s' ht2 (ha' _ rfl (fun _ => rfl) (fun h => by omega)) hb' h
          · have hh := hides_tame hk ht1 ha
            have hs : ({ s.M with hide := [] ++ s.M.hide } : Mem) = s.M := rfl
            have hq : kindN o = 1 ∨ kindN o = 3 → k ≤ 1 := fun h1 => by
              rcases h1 with h1 | h1
              · exact (kind1_aop h1 hop).1
              · exact kind3_aop h1 hop
            have hM : M'.hide = s.M.hide := by obtain ⟨_, L, hL, _⟩ := aop_abs hA hop; exact hL.hide
            have hs2 : ({ s with M := { M' with hide := s.M.hide } } : St) = { s with M := M' } := by rw [← hM]
            have hst : stillAt GL [] n0 o i s.T = none := rfl
            simp only [hh, hs, hop, hst, mayAll_tame hk hq ht1 ha, cond_true, hs2, hp]
            refine adraw2_of_tame hA l ds (i + 1) _ _ s1 s' ht2 (ha' _ rfl (fun h => absurd h hk) (fun h1 => ?_)) hb' h
            obtain ⟨q1, rfl⟩ := kind1_aop h1 hop
            exact ⟨q1, rfl⟩
        · cases h
      · cases h
    · rename_i hw
      simp only [hw]
      cases hp : aput o .skip s with
      | none => rw [hp] at h; cases h
      | some s1 =>
        rw [hp] at h
        exact adraw2_of_tame hA l ds (i + 1) _ _ s1 s' ht2 ha0 hb' h
    · cases h
theorem nilB_spec {α : Type} {l : List α} (h : nilB l = true) : l = [] := by
  cases l with
  | nil => rfl
  | cons x l => cases h
section sound2
variable {cf cf' : CallF} (hc : ∀ f a M r, cf f a M = some r → cf' f a M = some r)
include hc
end sound2
section exec
variable {SP : Specs} {qt : Tr QC}
end exec
def bodyComp (P : Program) (f : FuncId) : Option QC := ((P.funcs[f]?).bind (·.body)).map comp
end Go.Am
end
