/-
  Package hier: each of its laws for every argument; no conditions. The last text states which.
-/
import Derived.Test.YtdaglldahidmbaaGAmTop
set_option linter.unusedVariables false
set_option linter.unusedSimpArgs false
noncomputable section
namespace Go.Am
open Go
variable {P : Program} {GL : List Nat} {B : Bd} {callF : CallF}
inductive QG where
  | no
  | bad
  | at (d : Nat) (w : Bool)
structure QO where
  dst : Option Nat
  g : QG
  op : Op
  type : TypeId
inductive QC where
  | skip
  | plain (l : List QO)
  | free (l : List QO) (t : TypeId) (x y : Operand)
  | drawn (ops : Array Oper) (bs sl : List Nat) (lf : Option Oper)
  | seq (a b : QC)
  | cond (c : Operand) (a b : QC)
  | block (id : Nat) (b : QC)
  | loop (b : QC)
  | exit (id : Nat)
  | ret
  | label (l : Nat)
  | goto (l : Nat)
  | scope (c : QC)
  | bad
def kindN (o : Oper) : Nat :=
  match o.op with
  | .move _ | .assign _ | .pick _ _ _ | .nilCheck _ | .binOp _ _ _ _ _ | .unOp _ _ _ | .fieldAddr _ _ _ | .field _ _ _ | .indexAddr _ _ _ | .index _ _ _ | .extract _ _ | .build _ _ | .makeInterface _ _ | .makeFunc _ _ _ | .typeAssert _ _ _ _ => 0
  | .load _ _ => 1
  | .alloc _ | .box _ _ | .buildSlice _ _ _ => 3
  | .call c => (match c.callee with | .builtin .len => 0 | _ => 2)
  | _ => 2
def tameOne (deps k : Nat) : List (Nat × Nat) → Bool
  | [] => true
  | (i, ki) :: l => (Nat.beq ki 0 || Nat.beq k 0 || deps.testBit i || (Nat.beq ki 1 && (Nat.beq k 1 || Nat.beq k 3))) && tameOne deps k l
def tameGo : List Oper → List Nat → Nat → List (Nat × Nat) → Bool
  | [], _, _, _ => true
  | o :: l, d :: ds, i, acc => tameOne d (kindN o) acc && tameGo l ds (i + 1) ((i, kindN o) :: acc)
  | _ :: _, [], _, _ => false
def nilB {α : Type} : List α → Bool
  | [] => true
  | _ => false
def cg (ops : Array Oper) (o : Oper) : QG :=
  match o.guard with
  | none => .no
  | some (j, w) => match (ops[j]?).bind (·.dst) with
    | some d => .at d w
    | none => .bad
def cop (ops : Array Oper) (o : Oper) : QO := ⟨o.dst, cg ops o, o.op, o.type⟩
def freeOf (ops : Array Oper) (f : Oper) : QC :=
  match f.op with
  | .store t x y => .free (ops.toList.dropLast.map (cop ops)) t x y
  | _ => .bad
def slOf (ops : Array Oper) : List Nat := match lastFree ops.toList (befores ops.toList []) with | some _ => stillsF ops.toList (befores ops.toList []) | none => stillOps ops.toList (befores ops.toList []) ops.toList (befores ops.toList []) 0
def drO (ops : Array Oper) : QC := bif lexOk ops then .drawn ops (befores ops.toList []) (slOf ops) (lastFree ops.toList (befores ops.toList [])) else .bad
def compR (ops : Array Oper) : QC :=
  bif lexOk ops && nilB (stillOps ops.toList (befores ops.toList []) ops.toList (befores ops.toList []) 0) then
    match lastFree ops.toList (befores ops.toList []) with
    | none => bif tameGo ops.toList (befores ops.toList []) 0 [] then .plain (ops.toList.map (cop ops)) else drO ops
    | some f => bif tameGo ops.toList.dropLast (befores ops.toList []) 0 [] && nilB (stillsF ops.toList (befores ops.toList [])) then freeOf ops f else drO ops
  else drO ops
def comp : Code → QC
  | .skip => .skip
  | .region _ ops draw => bif draw then compR ops else .plain (ops.toList.map (cop ops))
  | .seq a b => .seq (comp a) (comp b)
  | .cond c a b => .cond c (comp a) (comp b)
  | .block id b => .block id (comp b)
  | .loop b => .loop (comp b)
  | .exit id => .exit id
  | .ret => .ret
  | .label l => .label l
  | .goto l => .goto l
  | .scope c => .scope (comp c)
  | _ => .bad
abbrev QR := Option (AExit × Tr Value × Mem)
def qwanted (g : QG) (T : Tr Value) : Option Bool :=
  match g with
  | .no => some true
  | .bad => none
  | .at d w => match T.get d with
    | some (.bool b) => some (b == w)
    | some _ => some false
    | none => none
def qset (nt : Nat) (dst : Option Nat) (v : Value) (k : Tr Value → Mem → QR) (T : Tr Value) (M : Mem) : QR :=
  match dst with
  | none => k T M
  | some d => bif Nat.blt d nt then k (T.set d (some v)) M else none
def bare (q : QO) : Oper := ⟨q.dst, q.op, q.type, "", #[], none⟩
def qput (nt : Nat) (dst : Option Nat) (r : Out) (k : Tr Value → Mem → QR) (T : Tr Value) : QR :=
  match r with
  | some (_, .val v, M') => qset nt dst v k T M'
  | some (_, .skip, M') => qset nt dst undef k T M'
  | none => none
def qop (P : Program) (GL : List Nat) (callF : CallF) (q : QO) (T : Tr Value) (M : Mem) : Out := fOr (fquick P GL callF q.op T M) (aop P GL callF (bare q) T M)
def qone (P : Program) (GL : List Nat) (callF : CallF) (nt : Nat) (q : QO) (k : Tr Value → Mem → QR) (T : Tr Value) (M : Mem) : QR :=
  match qwanted q.g T with
  | some true => qput nt q.dst (qop P GL callF q T M) k T
  | some false => qset nt q.dst undef k T M
  | none => none
def qseq (P : Program) (GL : List Nat) (callF : CallF) (nt : Nat) (l : List QO) : Tr Value → Mem → QR :=
  List.rec (motive := fun _ => Tr Value → Mem → QR) (fun T M => some (.normal, T, M)) (fun q _ ih T M => qone P GL callF nt q ih T M) l
def qthen (r : QR) (k : Tr Value → Mem → QR) : QR :=
  match r with
  | some (.normal, T, M) => k T M
  | r => r
def qfin (P : Program) (GL : List Nat) (nt : Nat) (t : TypeId) (x y : Operand) (T0 : Tr Value) (M0 : Mem) (r : QR) : QR :=
  match r with
  | some (.normal, T, M) => match finF P GL ⟨none, .store t x y, 0, "", #[], none⟩ ⟨T0, nt, M0⟩ ⟨T, nt, M⟩ with
    | some s => some (.normal, s.T, s.M)
    | none => none
  | _ => none
def qdraw1 (P : Program) (GL : List Nat) (callF : CallF) (ops : Array Oper) (before : List Nat) : List Oper → Nat → List Done → St → Option St
  | [], _, _, s => some s
  | o :: rest, i, dn, s => match awanted ops s.T o, before[i]? with
      | some true, some deps => match faop P GL callF o s.T { s.M with hide := hides deps dn ++ s.M.hide } with
        | some (k, r, M') => bif mayAll deps k dn then
            match aput o r { s with M := { M' with hide := s.M.hide } } with
            | some s' => qdraw1 P GL callF ops before rest (i + 1) (⟨i, k, s.M.next, M'.next⟩ :: dn) s'
            | none => none
          else none
        | none => none
      | some false, some _ => match aput o .skip s with
        | some s' => qdraw1 P GL callF ops before rest (i + 1) dn s'
        | none => none
      | _, _ => none
def qdraw2 (P : Program) (GL : List Nat) (callF : CallF) (ops : Array Oper) (before sl : List Nat) (n0 : Nat) : List Oper → Nat → List Done → List Nat → St → Option (St × List Nat)
  | [], _, _, S, s => some (s, S)
  | o :: rest, i, dn, S, s => match awanted ops s.T o, before[i]? with
      | some true, some deps => match faop P GL callF o s.T { s.M with hide := hides deps dn ++ s.M.hide } with
        | some (k, r, M') => match stillAt GL sl n0 o i s.T with
          | some b => match aput o r s with
            | some s' => qdraw2 P GL callF ops before sl n0 rest (i + 1) dn (b :: S) s'
            | none => none
          | none => bif mayAll deps k dn then
              match aput o r { s with M := { M' with hide := s.M.hide } } with
              | some s' => qdraw2 P GL callF ops before sl n0 rest (i + 1) (⟨i, k, s.M.next, M'.next⟩ :: dn) S s'
              | none => none
            else none
        | none => none
      | some false, some _ => match aput o .skip s with
        | some s' => qdraw2 P GL callF ops before sl n0 rest (i + 1) dn S s'
        | none => none
      | _, _ => none
def qdr0 (P : Program) (GL : List Nat) (callF : CallF) (ops : Array Oper) (bs sl : List Nat) (s : St) : Option St :=
  match sl with
  | [] => qdraw1 P GL callF ops bs ops.toList 0 [] s
  | x :: l => match qdraw2 P GL callF ops bs (x :: l) s.M.next ops.toList 0 [] [] (afresh s) with
    | some (s', S) => bif apartN S s'.M.log then some (ajoin s s') else none
    | none => none
def qdrF (P : Program) (GL : List Nat) (callF : CallF) (ops : Array Oper) (bs sl : List Nat) (f : Oper) (s : St) : Option St :=
  match qdraw2 P GL callF ops bs sl s.M.next ops.toList.dropLast 0 [] [] (afresh s) with
  | some (s1, S) => bif apartN S s1.M.log then finF P GL f s s1 else none
  | none => none
def qdr (P : Program) (GL : List Nat) (callF : CallF) (ops : Array Oper) (bs sl : List Nat) (lf : Option Oper) (s : St) : Option St :=
  match lf with
  | some f => qdrF P GL callF ops bs sl f s
  | none => qdr0 P GL callF ops bs sl s
def qdrawn (P : Program) (GL : List Nat) (callF : CallF) (nt : Nat) (ops : Array Oper) (bs sl : List Nat) (lf : Option Oper) (T : Tr Value) (M : Mem) : QR :=
  match qdr P GL callF ops bs sl lf ⟨T, nt, M⟩ with
  | some s => bif Nat.beq s.n nt then some (.normal, s.T, s.M) else none
  | none => none
def qcond (c : Option Value) (a b : Tr Value → Mem → QR) (T : Tr Value) (M : Mem) : QR :=
  match c with
  | some (.bool true) => a T M
  | some (.bool false) => b T M
  | _ => none
def qblock (id : Nat) (r : QR) : QR :=
  match r with
  | some (.exit i, T, M) => bif Nat.beq i id then some (.normal, T, M) else some (.exit i, T, M)
  | r => r
def qfind : QC → Nat → Option QC
  | .seq a b, l => match qfind a l with
    | some r => some (.seq r b)
    | none => qfind b l
  | .label l', l => if l' == l then some .skip else none
  | _, _ => none
def qjump (rec : QC → Tr Value → Mem → QR) (c : QC) (r : QR) : QR :=
  match r with
  | some (.goto l, T, M) => match qfind c l with
    | some rest => rec rest T M
    | none => some (.goto l, T, M)
  | r => r
def qscope (ih : QC → Tr Value → Mem → QR) (c : QC) (n : Nat) : QC → Tr Value → Mem → QR :=
  Nat.rec (motive := fun _ => QC → Tr Value → Mem → QR) (fun _ _ _ => none) (fun _ rec d T M => qjump rec c (ih d T M)) n
abbrev QX := Nat → QC → Tr Value → Mem → QR
def qres (P : Program) (fn : Func) (r : QR) : Option (Value × Mem) :=
  match r with
  | some (.normal, T, M) | some (.ret, T, M) => match aresults P fn ⟨T, fn.ntmps, M⟩ with
    | some v => some (v, M)
    | none => none
  | _ => none
def qenter (P : Program) (qt : Tr QC) (ih : QX) (f : FuncId) (args : List Value) (M : Mem) : Option (Value × Mem) :=
  match qt.get f, P.funcs[f]? with
  | some q, some fn => bif Nat.ble args.length fn.ntmps then qres P fn (ih fn.ntmps q (initT args 0 .nil) M) else none
  | _, _ => none
def qstep (P : Program) (GL : List Nat) (SP : Specs) (qt : Tr QC) (ih : QX) (nt : Nat) (c : QC) (T : Tr Value) (M : Mem) : QR :=
  match c with
  | .skip => some (.normal, T, M)
  | .plain l => qseq P GL (viaSpecs SP (qenter P qt ih)) nt l T M
  | .seq a b => qthen (ih nt a T M) (ih nt b)
  | .cond c a b => qcond (ev GL T c) (ih nt a) (ih nt b) T M
  | .block id b => qblock id (ih nt b T M)
  | .loop b => qthen (ih nt b T M) (ih nt (.loop b))
  | .exit id => some (.exit id, T, M)
  | .ret => some (.ret, T, M)
  | .label _ => some (.normal, T, M)
  | .goto l => some (.goto l, T, M)
  | .scope c => qscope (ih nt) c 100000 c T M
  | .free l t x y => qfin P GL nt t x y T M (qseq P GL (viaSpecs SP (qenter P qt ih)) nt l T { M with log := [] })
  | .drawn ops bs sl lf => qdrawn P GL (viaSpecs SP (qenter P qt ih)) nt ops bs sl lf T M
  | .bad => none
def qexec (P : Program) (GL : List Nat) (SP : Specs) (qt : Tr QC) (n : Nat) : QX :=
  Nat.rec (motive := fun _ => QX) (fun _ _ _ _ => none) (fun _ ih => qstep P GL SP qt ih) n
def qrun (P : Program) (GL : List Nat) (SP : Specs) (qt : Tr QC) (n : Nat) : FuncId → List Value → Mem → Option (Value × Mem) := qenter P qt (qexec P GL SP qt n)
theorem qfind_comp : ∀ (c : Code) (l : Nat), qfind (comp c) l = (findLabel c l).map comp
  | .seq a b, l => by
    simp only [comp, qfind, findLabel, qfind_comp a l, qfind_comp b l]
    cases findLabel a l <;> rfl
  | .label l', l => by
    simp only [comp, qfind, findLabel]
    cases l' == l <;> rfl
  | .region _ ops draw, l => by
    simp only [comp, findLabel, Option.map_none]
    have hdr : qfind (drO ops) l = none := by unfold drO; cases lexOk ops <;> rfl
    cases draw <;> simp only [cond_true, cond_false]
    · rfl
    · unfold compR
      cases (lexOk ops && nilB (stillOps ops.toList (befores ops.toList []) ops.toList (befores ops.toList []) 0)) <;> simp only [cond_true, cond_false]
      · exact hdr
      · split
        · cases tameGo ops.toList (befores ops.toList []) 0 []
          · exact hdr
          · rfl
        · cases (tameGo ops.toList.dropLast (befores ops.toList []) 0 [] && nilB (stillsF ops.toList (befores ops.toList []))) <;> simp only [cond_true, cond_false]
          · exact hdr
          · unfold freeOf
            split <;> rfl
  | .skip, _ => rfl
  | .cond _ _ _, _ => rfl
  | .block _ _, _ => rfl
  | .loop _, _ => rfl
  | .exit _, _ => rfl
  | .ret, _ => rfl
  | .goto _, _ => rfl
  | .scope _, _ => rfl
  | .rangeFunc _ _ _ _, _ => rfl
  | .refuse _, _ => rfl
theorem aop_bare {ops : Array Oper} {o : Oper} {T : Tr Value} {M : Mem} : aop P GL callF (bare (cop ops o)) T M = aop P GL callF o T M := by
  obtain ⟨dst, op, type, pos, after, guard⟩ := o
  cases op <;> rfl
theorem qwanted_eq {ops : Array Oper} {o : Oper} {T : Tr Value} : qwanted (cg ops o) T = awanted ops T o := by
  unfold cg awanted
  cases o.guard with
  | none => rfl
  | some g =>
    obtain ⟨j, w⟩ := g
    simp only
    cases (ops[j]?).bind (·.dst) <;> rfl
section sound
variable {cf cf' : CallF} (hc : ∀ f a M r, cf f a M = some r → cf' f a M = some r)
include hc
theorem qop_sound {ops : Array Oper} {o : Oper} {T : Tr Value} {M : Mem} {r : Ans} (h : qop P GL cf (cop ops o) T M = some r) : aop P GL cf' o T M = some r := by
  refine aseq_more hc ?_
  unfold qop fOr at h
  split at h
  · rename_i r' hr
    cases h
    rw [← aop_bare (ops := ops)]
    exact fquick_sound (o := bare (cop ops o)) hr
  · rw [← aop_bare (ops := ops)]
    exact h
theorem qseq_sound {ops : Array Oper} {nt : Nat} : ∀ (l : List Oper) (T : Tr Value) (M : Mem) (e : AExit) (T' : Tr Value) (M' : Mem), qseq P GL cf nt (l.map (cop ops)) T M = some (e, T', M') → e = .normal ∧ aseq P GL cf' ops l ⟨T, nt, M⟩ = some ⟨T', nt, M'⟩
  | [], T, M, e, T', M', h => by
    have h' : (some (AExit.normal, T, M) : QR) = some (e, T', M') := h
    cases h'
    exact ⟨rfl, rfl⟩
  | o :: l, T, M, e, T', M', h => by
    have h' : qone P GL cf nt (cop ops o) (qseq P GL cf nt (l.map (cop ops))) T M = some (e, T', M') := h
    have hset : ∀ (v : Value) (r : AR) (M1 : Mem), (r = .val v ∨ (r = .skip ∧ v = undef)) → qset nt o.dst v (qseq P GL cf nt (l.map (cop ops))) T M1 = some (e, T', M') → ∃ s1, aput o r ⟨T, nt, M1⟩ = some s1 ∧ e = .normal ∧ aseq P GL cf' ops l s1 = some ⟨T', nt, M'⟩ := fun v r M1 hr hq => by
      unfold qset at hq
      cases hd : o.dst with
      | none =>
        rw [hd] at hq
        obtain ⟨h1, h2⟩ := qseq_sound l T M1 e T' M' hq
        exact ⟨⟨T, nt, M1⟩, by unfold aput; rw [hd], h1, h2⟩
      | some d =>
        rw [hd] at hq
        simp only at hq
        cases hb : Nat.blt d nt <;> simp only [hb, cond_true, cond_false] at hq
        · cases hq
        · obtain ⟨h1, h2⟩ := qseq_sound l (T.set d (some v)) M1 e T' M' hq
          refine ⟨⟨T.set d (some v), nt, M1⟩, ?_, h1, h2⟩
          unfold aput
          rcases hr with rfl | ⟨rfl, rfl⟩ <;> simp only [hd, hb, cond_true]
    unfold qone at h'
    simp only [aseq]
    rw [show (cop ops o).g = cg ops o from rfl, qwanted_eq] at h'
    split at h'
    · rename_i hw
      simp only [hw]
      unfold qput at h'
      split at h'
      · rename_i k v M1 hop
        simp only [qop_sound hc hop]
        obtain ⟨s1, h1, h2, h3⟩ := hset v (.val v) M1 (.inl rfl) h'
        simp only [h1]
        exact ⟨h2, h3⟩
      · rename_i k M1 hop
        simp only [qop_sound hc hop]
        obtain ⟨s1, h1, h2, h3⟩ := hset undef .skip M1 (.inr ⟨rfl, rfl⟩) h'
        simp only [h1]
        exact ⟨h2, h3⟩
      · cases h'
    · rename_i hw
      simp only [hw]
      obtain ⟨s1, h1, h2, h3⟩ := hset undef .skip M (.inr ⟨rfl, rfl⟩) h'
      simp only [h1]
      exact ⟨h2, h3⟩
    · cases h'
end sound
theorem kind0_aop {o : Oper} {T : Tr Value} {M M' : Mem} {k : Nat} {r : AR} (hq : kindN o = 0) (h : aop P GL callF o T M = some (k, r, M')) : k = 0 ∧ M' = M ∧ aop0 P GL o T = some r := by
  obtain ⟨dst, op, type, pos, after, guard⟩ := o
  unfold aop at h
  split at h
  · rename_i r' hr
    simp at h
    obtain ⟨rfl, rfl, rfl⟩ := h
    exact ⟨rfl, rfl, hr⟩
  · rename_i h0
    clear h0
    exfalso
    replace h : aop1 P GL callF { dst := dst, op := op, type := type, pos := pos, after := after, guard := guard } T M = some (k, r, M') := by
      split at h
      · cases h
      · exact h
    cases op <;> simp [kindN] at hq <;> simp only [aop1] at h <;> try (cases h; done)
    case call c =>
      obtain ⟨callee, args, argTypes⟩ := c
      cases callee with
      | builtin b => cases b <;> first | (cases h; done) | exact absurd hq (by simp)
      | value f => exact absurd hq (by simp)
      | invoke x n => exact absurd hq (by simp)
theorem kind1_aop {o : Oper} {T : Tr Value} {M M' : Mem} {k : Nat} {r : AR} (hq : kindN o = 1) (h : aop P GL callF o T M = some (k, r, M')) : k ≤ 1 ∧ M' = M := by
  obtain ⟨dst, op, type, pos, after, guard⟩ := o
  cases op <;> simp [kindN] at hq
  case load t x =>
    have := quiet_aop (o := ⟨dst, .load t x, type, pos, after, guard⟩) rfl h
    exact ⟨this.2, this.1⟩
  case call c =>
    obtain ⟨callee, args, argTypes⟩ := c
    simp only at hq
    split at hq <;> cases hq
theorem kind3_aop {o : Oper} {T : Tr Value} {M M' : Mem} {k : Nat} {r : AR} (hq : kindN o = 3) (h : aop P GL callF o T M = some (k, r, M')) : k ≤ 1 := by
  obtain ⟨dst, op, type, pos, after, guard⟩ := o
  have hm : ∀ {v : Value} {M1 : Mem}, made v M1 = some (k, r, M') → k ≤ 1 := fun h => by
    simp only [made, Option.some.injEq, Prod.mk.injEq] at h
    omega
  unfold aop at h
  split at h
  · simp at h
    omega
  · rename_i h0
    clear h0
    replace h : aop1 P GL callF { dst := dst, op := op, type := type, pos := pos, after := after, guard := guard } T M = some (k, r, M') := by
      split at h
      · cases h
      · exact h
    cases op <;> simp [kindN] at hq
    case alloc e =>
      simp only [aop1] at h
      unfold aalloc at h
      split at h <;> try (cases h; done)
      split at h <;> try (cases h; done)
      rename_i v _
      cases hb : (flat v && v.cells.toList.all isCell) <;> simp only [hb, cond_true, cond_false] at h
      · cases h
      · exact hm h
    case box e x =>
      simp only [aop1] at h
      split at h <;> try (cases h; done)
      rename_i v _
      unfold abox at h
      split at h <;> try (cases h; done)
      cases hb : (v.cells.toList.all isCell) <;> simp only [hb, cond_true, cond_false] at h
      · cases h
      · exact hm h
    case buildSlice t n ps =>
      simp only [aop1] at h
      split at h <;> try (cases h; done)
      unfold abuildSlice at h
      split at h <;> try (cases h; done)
      split at h <;> try (cases h; done)
      split at h <;> try (cases h; done)
      generalize (flat _ && _ && _ && _ && _) = b at h
      cases b <;> simp only [cond_true, cond_false] at h
      · cases h
      · split at h <;> try (cases h; done)
        rename_i cs _
        cases hb : cs.all isCell <;> simp only [hb, cond_true, cond_false] at h
        · cases h
        · exact hm h
    case call c =>
      obtain ⟨callee, args, argTypes⟩ := c
      simp only at hq
      split at hq <;> cases hq
theorem tameOne_spec {deps k : Nat} : ∀ {acc : List (Nat × Nat)}, tameOne deps k acc = true → ∀ p ∈ acc, p.2 = 0 ∨ k = 0 ∨ deps.testBit p.1 = true ∨ (p.2 = 1 ∧ (k = 1 ∨ k = 3))
  | [], _, _, h => by cases h
  | (i, ki) :: l, h, p, hp => by
    simp only [tameOne, Bool.and_eq_true, Bool.or_eq_true, Nat.beq_eq] at h
    rcases List.mem_cons.1 hp with rfl | hp
    · rcases h.1 with ((h | h) | h) | h
      · exact .inl h
      · exact .inr (.inl h)
      · exact .inr (.inr (.inl h))
      · exact .inr (.inr (.inr h))
    · exact tameOne_spec h.2 p hp
def AccOk (dn : List Done) (acc : List (Nat × Nat)) : Prop := ∀ d ∈ dn, ∃ k, (d.ix, k) ∈ acc ∧ (k = 0 → d.loud = 0) ∧ (k = 1 → d.loud ≤ 1 ∧ d.lo = d.hi)
theorem hides_tame {deps k : Nat} (hk : k ≠ 0) {acc : List (Nat × Nat)} (ht : tameOne deps k acc = true) : ∀ {dn : List Done}, AccOk dn acc → hides deps dn = []
  | [], _ => rfl
  | x :: dn, h => by
    unfold hides
    have : (Nat.beq x.loud 0 || deps.testBit x.ix || Nat.beq x.lo x.hi) = true := by
      obtain ⟨kx, h1, h2, h3⟩ := h x (List.mem_cons_self ..)
      rcases tameOne_spec ht _ h1 with h4 | h4 | h4 | ⟨h4, _⟩
      · simp [h2 h4]
      · exact absurd h4 hk
      · simp only at h4; simp [h4]
      · simp [(h3 h4).2]
    rw [this]
    exact hides_tame hk ht fun d hd => h d (List.mem_cons_of_mem _ hd)
theorem mayAll_tame {deps k q : Nat} (hk : k ≠ 0) (hq : k = 1 ∨ k = 3 → q ≤ 1) {acc : List (Nat × Nat)} (ht : tameOne deps k acc = true) : ∀ {dn : List Done}, AccOk dn acc → mayAll deps q dn = true
  | [], _ => rfl
  | x :: dn, h => by
    have h0 := mayAll_tame hk hq ht (dn := dn) fun d hd => h d (List.mem_cons_of_mem _ hd)
    simp only [mayAll, h0, Bool.and_true, Bool.or_eq_true, Bool.and_eq_true, Nat.beq_eq]
    obtain ⟨kx, h1, h2, h3⟩ := h x (List.mem_cons_self ..)
    rcases tameOne_spec ht _ h1 with h4 | h4 | h4 | ⟨h4, h5⟩
    · exact .inl (.inl (.inl (h2 h4)))
    · exact absurd h4 hk
    · exact .inl (.inr h4)
    · have := (h3 h4).1
      have := hq h5
      rcases Nat.eq_zero_or_pos x.loud with h6 | h6 <;> rcases Nat.eq_zero_or_pos q with h7 | h7
      · exact .inl (.inl (.inl h6))
      · exact .inl (.inl (.inl h6))
      · exact .inl (.inl (.inr h7))
      · exact .inr ⟨by omega, by omega⟩
theorem mayAll_zero {deps : Nat} : ∀ {dn : List Done}, mayAll deps 0 dn = true
  | [] => rfl
  | x :: dn => by simp [mayAll, mayAll_zero (dn := dn)]
theorem adraw2_of_tame (hA : CallAbs callF) {ops : Array Oper} {before : List Nat} {n0 : Nat} : ∀ (l : List Oper) (ds : List Nat) (i : Nat) (dn : List Done) (acc : List (Nat × Nat)) (s s' : St), tameGo l ds i acc = true → AccOk dn acc → (∀ j, j < l.length → before[i + j]? = ds[j]?) →
    aseq P GL callF ops l s = some s' → adraw P GL callF ops before l i dn s = some s' ∧ adraw2 P GL callF ops before [] n0 l i dn [] s = some (s', [])
  | [], ds, i, dn, acc, s, s', _, _, _, h => by
    simp only [aseq, Option.some.injEq] at h
    subst h
    exact ⟨rfl, rfl⟩
  | o :: l, [], i, dn, acc, s, s', ht, _, _, _ => by simp [tameGo] at ht
  | o :: l, d :: ds, i, dn, acc, s, s', ht, ha, hb, h => by
    simp only [tameGo, Bool.and_eq_true] at ht
    obtain ⟨ht1, ht2⟩ := ht
    have hbd : before[i]? = some d := by have := hb 0 (by simp); simpa using this
    have hb' : ∀ j, j < l.length → before[i + 1 + j]? = ds[j]? := fun j hj => by
      have := hb (j + 1) (by simp; omega)
      rw [show i + 1 + j = i + (j + 1) by omega]; simpa using this
    have ha' : ∀ x : Done, x.ix = i → (kindN o = 0 → x.loud = 0) → (kindN o = 1 → x.loud ≤ 1 ∧ x.lo = x.hi) → AccOk (x :: dn) ((i, kindN o) :: acc) := fun x hx h1 h2 y hy => by
      rcases List.mem_cons.1 hy with rfl | hy
      · exact ⟨kindN o, by rw [hx]; exact List.mem_cons_self .., h1, h2⟩
      · obtain ⟨k, q1, q2⟩ := ha y hy
        exact ⟨k, List.mem_cons_of_mem _ q1, q2⟩
    have ha0 : AccOk dn ((i, kindN o) :: acc) := fun y hy => by
      obtain ⟨k, q1, q2⟩ := ha y hy
      exact ⟨k, List.mem_cons_of_mem _ q1, q2⟩
    simp only [aseq] at h
    simp only [adraw, adraw2, hbd]
    split at h
    · rename_i hw
      simp only [hw]
      split at h
      · rename_i k r M' hop
        split at h
        · rename_i s1 hp
          by_cases hk : kindN o = 0
          · obtain ⟨rfl, rfl, h0⟩ := kind0_aop hk hop
            have hop2 : aop P GL callF o s.T { s.M with hide := hides d dn ++ s.M.hide } = some (0, r, { s.M with hide := hides d dn ++ s.M.hide }) := by
              unfold aop; rw [h0]
            have hs2 : ({ s with M := { ({ s.M with hide := hides d dn ++ s.M.hide } : Mem) with hide := s.M.hide } } : St) = { s with M := s.M } := rfl
            have hst : stillAt GL [] n0 o i s.T = none := rfl
            simp only [hop2, hst, mayAll_zero, cond_true, hs2, hp]
            exact adraw2_of_tame hA l ds (i + 1) _ _ s1 s' ht2 (ha' _ rfl (fun _ => rfl) (fun h => by omega)) hb' h
          · have hh := hides_tame hk ht1 ha
            have hs : ({ s.M with hide := [] ++ s.M.hide } : Mem) = s.M := rfl
            have hq : kindN o = 1 ∨ kindN o = 3 → k ≤ 1 := fun h1 => by
              rcases h1 with h1 | h1
              · exact (kind1_aop h1 hop).1
              · exact kind3_aop h1 hop
            have hM : M'.hide = s.M.hide := by obtain ⟨_, L, hL, _⟩ := aop_abs hA hop; exact hL.hide
            have hs2 : ({ s with M := { M' with hide := s.M.hide } } : St) = { s with M := M' } := by rw [← hM]
            have hst : stillAt GL [] n0 o i s.T = none := rfl
            simp only [hh, hs, hop, hst, mayAll_tame hk hq ht1 ha, cond_true, hs2, hp]
            refine adraw2_of_tame hA l ds (i + 1) _ _ s1 s' ht2 (ha' _ rfl (fun h => absurd h hk) (fun h1 => ?_)) hb' h
            obtain ⟨q1, rfl⟩ := kind1_aop h1 hop
            exact ⟨q1, rfl⟩
        · cases h
      · cases h
    · rename_i hw
      simp only [hw]
      cases hp : aput o .skip s with
      | none => rw [hp] at h; cases h
      | some s1 =>
        rw [hp] at h
        exact adraw2_of_tame hA l ds (i + 1) _ _ s1 s' ht2 ha0 hb' h
    · cases h
theorem nilB_spec {α : Type} {l : List α} (h : nilB l = true) : l = [] := by
  cases l with
  | nil => rfl
  | cons x l => cases h
section sound2
variable {cf cf' : CallF} (hc : ∀ f a M r, cf f a M = some r → cf' f a M = some r)
include hc
theorem plain_draw (hA : CallAbs cf') {ops : Array Oper} (hst : stillOps ops.toList (befores ops.toList []) ops.toList (befores ops.toList []) 0 = []) (hlf : lastFree ops.toList (befores ops.toList []) = none)
    (ht : tameGo ops.toList (befores ops.toList []) 0 [] = true) {nt : Nat} {T T' : Tr Value} {M M' : Mem} {e : AExit} (h : qseq P GL cf nt (ops.toList.map (cop ops)) T M = some (e, T', M')) :
    e = .normal ∧ adrawn P GL cf' ops ⟨T, nt, M⟩ = some ⟨T', nt, M'⟩ := by
  obtain ⟨h1, h2⟩ := qseq_sound hc _ _ _ _ _ _ h
  refine ⟨h1, ?_⟩
  simp only [adrawn, hlf, adrawn0, hst]
  exact (adraw2_of_tame (n0 := 0) hA _ _ 0 [] [] _ _ ht (fun d hd => by cases hd) (fun j _ => by rw [Nat.zero_add]) h2).1
theorem free_draw (hA : CallAbs cf') {ops : Array Oper} (hst : stillsF ops.toList (befores ops.toList []) = []) {f : Oper} (hlf : lastFree ops.toList (befores ops.toList []) = some f) {t : TypeId} {x y : Operand} (hop : f.op = .store t x y)
    (ht : tameGo ops.toList.dropLast (befores ops.toList []) 0 [] = true) {nt : Nat} {T T' : Tr Value} {M M' : Mem} {e : AExit} (h : qfin P GL nt t x y T M (qseq P GL cf nt (ops.toList.dropLast.map (cop ops)) T { M with log := [] }) = some (e, T', M')) :
    e = .normal ∧ adrawn P GL cf' ops ⟨T, nt, M⟩ = some ⟨T', nt, M'⟩ := by
  unfold qfin at h
  split at h
  · rename_i T1 M1 hq
    obtain ⟨_, h2⟩ := qseq_sound hc _ _ _ _ _ _ hq
    have h3 := (adraw2_of_tame (n0 := M.next) hA _ _ 0 [] [] _ _ ht (fun d hd => by cases hd) (fun j _ => by rw [Nat.zero_add]) h2).2
    split at h
    · rename_i s hs
      cases h
      refine ⟨rfl, ?_⟩
      have hfin : finF P GL f ⟨T, nt, M⟩ ⟨T1, nt, M1⟩ = some s := by
        unfold finF at hs ⊢
        rw [hop]; exact hs
      have hn : s.n = nt := by
        obtain ⟨_, _, _, _, _, _, _, _, _, _, _, _, rfl⟩ := finF_inv hfin
        rfl
      have hs' : (⟨s.T, nt, s.M⟩ : St) = s := by rw [← hn]
      simp only [adrawn, hlf, adrawF, hst]
      have h4 : adraw2 P GL cf' ops (befores ops.toList []) [] (St.mk T nt M).M.next ops.toList.dropLast 0 [] [] (afresh ⟨T, nt, M⟩) = some (⟨T1, nt, M1⟩, []) := h3
      rw [h4]
      simp only [apartN, cond_true, hfin, hs']
    · cases h
  · cases h
theorem qdraw1_sound {ops : Array Oper} {before : List Nat} : ∀ (l : List Oper) (i : Nat) (dn : List Done) (s s' : St), qdraw1 P GL cf ops before l i dn s = some s' → adraw P GL cf' ops before l i dn s = some s'
  | [], i, dn, s, s', h => h
  | o :: l, i, dn, s, s', h => by
    simp only [qdraw1] at h
    simp only [adraw]
    split at h
    · rename_i deps hw hb
      simp only [hw, hb]
      split at h
      · rename_i k r M' hop
        simp only [aseq_more hc (faop_sound hop)]
        cases hmay : mayAll deps k dn <;> simp only [hmay, cond_true, cond_false] at h ⊢
        · cases h
        · split at h
          · rename_i s1 hp
            try simp only [hp]
            exact qdraw1_sound l _ _ s1 s' h
          · cases h
      · cases h
    · rename_i deps hw hb
      simp only [hw, hb]
      split at h
      · rename_i s1 hp
        try simp only [hp]
        exact qdraw1_sound l _ _ s1 s' h
      · cases h
    · cases h
theorem qdraw2_sound {ops : Array Oper} {before sl : List Nat} {n0 : Nat} : ∀ (l : List Oper) (i : Nat) (dn : List Done) (S : List Nat) (s : St) (r : St × List Nat), qdraw2 P GL cf ops before sl n0 l i dn S s = some r → adraw2 P GL cf' ops before sl n0 l i dn S s = some r
  | [], i, dn, S, s, r, h => h
  | o :: l, i, dn, S, s, r, h => by
    simp only [qdraw2] at h
    simp only [adraw2]
    split at h
    · rename_i deps hw hb
      simp only [hw, hb]
      split at h
      · rename_i k x M' hop
        simp only [aseq_more hc (faop_sound hop)]
        split at h
        · rename_i b hst
          simp only [hst]
          split at h
          · rename_i s1 hp
            try simp only [hp]
            exact qdraw2_sound l _ _ _ s1 r h
          · cases h
        · rename_i hst
          simp only [hst]
          cases hmay : mayAll deps k dn <;> simp only [hmay, cond_true, cond_false] at h ⊢
          · cases h
          · split at h
            · rename_i s1 hp
              try simp only [hp]
              exact qdraw2_sound l _ _ _ s1 r h
            · cases h
      · cases h
    · rename_i deps hw hb
      simp only [hw, hb]
      split at h
      · rename_i s1 hp
        try simp only [hp]
        exact qdraw2_sound l _ _ _ s1 r h
      · cases h
    · cases h
theorem qdr_sound {ops : Array Oper} {s s' : St} (h : qdr P GL cf ops (befores ops.toList []) (slOf ops) (lastFree ops.toList (befores ops.toList [])) s = some s') : adrawn P GL cf' ops s = some s' := by
  unfold adrawn
  unfold qdr at h
  split at h
  · rename_i f hf
    simp only [hf]
    have hsl : slOf ops = stillsF ops.toList (befores ops.toList []) := by unfold slOf; rw [hf]
    rw [hsl] at h
    unfold qdrF at h
    unfold adrawF
    split at h
    · rename_i h1
      rw [qdraw2_sound hc _ _ _ _ _ _ h1]
      exact h
    · cases h
  · rename_i hf
    simp only [hf]
    have hsl : slOf ops = stillOps ops.toList (befores ops.toList []) ops.toList (befores ops.toList []) 0 := by unfold slOf; rw [hf]
    rw [hsl] at h
    unfold qdr0 at h
    unfold adrawn0
    split at h
    · rename_i hs
      simp only [hs]
      exact qdraw1_sound hc _ _ _ _ _ h
    · rename_i x l hs
      simp only [hs]
      split at h
      · rename_i h1
        rw [qdraw2_sound hc _ _ _ _ _ _ h1]
        exact h
      · cases h
theorem drawn_draw {SP : Specs} {qt : Tr QC} {ih : QX} (hcf : cf = viaSpecs SP (qenter P qt ih)) {ops : Array Oper} {nt : Nat} {T T' : Tr Value} {M M' : Mem} {e : AExit} (h : qstep P GL SP qt ih nt (drO ops) T M = some (e, T', M')) :
    e = .normal ∧ lexOk ops = true ∧ adrawn P GL cf' ops ⟨T, nt, M⟩ = some ⟨T', nt, M'⟩ := by
  unfold drO at h
  cases hl : lexOk ops <;> simp only [hl, cond_true, cond_false] at h
  · cases h
  · simp only [qstep, qdrawn, ← hcf] at h
    split at h
    · rename_i s hs
      cases hn : Nat.beq s.n nt <;> simp only [hn, cond_true, cond_false] at h
      · cases h
      · cases h
        have : s.n = nt := Nat.eq_of_beq_eq_true hn
        subst this
        exact ⟨rfl, rfl, qdr_sound hc hs⟩
    · cases h
end sound2
def QOk (P : Program) (qt : Tr QC) : Prop := ∀ f q, qt.get f = some q → ∃ fn c, P.funcs[f]? = some fn ∧ fn.body = some c ∧ comp c = q
section exec
variable {SP : Specs} {qt : Tr QC}
def XOk (ih : QX) (ih' : Code → St → Option (AExit × St)) : Prop := ∀ nt c T M e T' M', ih nt (comp c) T M = some (e, T', M') → ih' c ⟨T, nt, M⟩ = some (e, ⟨T', nt, M'⟩)
theorem qenter_sound (hQ : QOk P qt) {ih : QX} {ih' : Code → St → Option (AExit × St)} (hi : XOk ih ih') : ∀ f a M r, qenter P qt ih f a M = some r → aenter P ih' f a M = some r := fun f a M r h => by
  unfold qenter at h
  split at h
  · rename_i q fn hq hf
    obtain ⟨fn', c, h1, h2, h3⟩ := hQ f q hq
    rw [hf] at h1
    cases h1
    unfold aenter
    simp only [hf, h2]
    cases hl : Nat.ble a.length fn.ntmps <;> simp only [hl, cond_true, cond_false] at h ⊢
    · cases h
    · cases hx : ih fn.ntmps q (initT a 0 .nil) M with
      | none => rw [hx] at h; cases h
      | some r1 =>
        obtain ⟨e, T', M'⟩ := r1
        rw [hx] at h
        rw [← h3] at hx
        rw [hi _ _ _ _ _ _ _ hx]
        cases e <;> exact h
  · cases h
theorem qscope_sound {ih : QX} {ih' : Code → St → Option (AExit × St)} (hi : XOk ih ih') {nt : Nat} (c : Code) : ∀ (n : Nat) (d : Code) (T : Tr Value) (M : Mem) (e : AExit) (T' : Tr Value) (M' : Mem), qscope (ih nt) (comp c) n (comp d) T M = some (e, T', M') → ascope ih' c n d ⟨T, nt, M⟩ = some (e, ⟨T', nt, M'⟩)
  | 0, d, T, M, e, T', M', h => by cases h
  | n + 1, d, T, M, e, T', M', h => by
    have h' : qjump (qscope (ih nt) (comp c) n) (comp c) (ih nt (comp d) T M) = some (e, T', M') := h
    unfold ascope
    cases hx : ih nt (comp d) T M with
    | none => rw [hx] at h'; cases h'
    | some r1 =>
      obtain ⟨e1, T1, M1⟩ := r1
      rw [hx] at h'
      rw [hi _ _ _ _ _ _ _ hx]
      cases e1 with
      | goto l =>
        simp only [qjump, qfind_comp] at h'
        cases hf : findLabel c l with
        | none =>
          rw [hf] at h'
          simp only [Option.map_none] at h'
          cases h'
          simp only [hf]
        | some rest =>
          rw [hf] at h'
          simp only [Option.map_some] at h'
          simp only [hf]
          exact qscope_sound hi c n rest T1 M1 e T' M' h'
      | normal => cases h'; rfl
      | exit i => cases h'; rfl
      | ret => cases h'; rfl
theorem qstep_sound (hQ : QOk P qt) (hB : ∀ id, SP.blocks id = none) {ih : QX} {ih' : Code → St → Option (AExit × St)} (hi : XOk ih ih') (hA : CallAbs (viaSpecs SP (aenter P ih'))) : XOk (qstep P GL SP qt ih) (astep P GL SP ih') := fun nt c T M e T' M' h => by
  have hc : ∀ f a M r, viaSpecs SP (qenter P qt ih) f a M = some r → viaSpecs SP (aenter P ih') f a M = some r := viaSpecs_more (qenter_sound hQ hi)
  have seqc : ∀ (a b : Code), qthen (ih nt (comp a) T M) (ih nt (comp b)) = some (e, T', M') → (match ih' a ⟨T, nt, M⟩ with | some (.normal, s') => ih' b s' | r => r) = some (e, ⟨T', nt, M'⟩) := fun a b h => by
    cases hx : ih nt (comp a) T M with
    | none => rw [hx] at h; cases h
    | some r1 =>
      obtain ⟨e1, T1, M1⟩ := r1
      rw [hx] at h
      rw [hi _ _ _ _ _ _ _ hx]
      cases e1 with
      | normal => exact hi _ _ _ _ _ _ _ h
      | exit i => cases h; rfl
      | ret => cases h; rfl
      | goto l => cases h; rfl
  cases c with
  | skip => cases h; rfl
  | seq a b => exact seqc a b h
  | cond x a b =>
    have h' : qcond (ev GL T x) (ih nt (comp a)) (ih nt (comp b)) T M = some (e, T', M') := h
    simp only [astep]
    unfold qcond at h'
    split at h'
    · rename_i hx; rw [hx]; exact hi _ _ _ _ _ _ _ h'
    · rename_i hx; rw [hx]; exact hi _ _ _ _ _ _ _ h'
    · cases h'
  | block id b =>
    have h' : qblock id (ih nt (comp b) T M) = some (e, T', M') := h
    simp only [astep, hB]
    cases hx : ih nt (comp b) T M with
    | none => rw [hx] at h'; cases h'
    | some r1 =>
      obtain ⟨e1, T1, M1⟩ := r1
      rw [hx] at h'
      rw [hi _ _ _ _ _ _ _ hx]
      cases e1 with
      | exit i =>
        simp only [qblock] at h'
        simp only
        cases hb : Nat.beq i id <;> simp only [hb, cond_true, cond_false] at h' ⊢ <;> (cases h'; rfl)
      | normal => cases h'; rfl
      | ret => cases h'; rfl
      | goto l => cases h'; rfl
  | loop b => exact seqc b (.loop b) h
  | exit id => cases h; rfl
  | ret => cases h; rfl
  | label l => cases h; rfl
  | goto l => cases h; rfl
  | scope c => exact qscope_sound hi c 100000 c T M e T' M' h
  | rangeFunc _ _ _ _ => cases h
  | refuse _ => cases h
  | region id ops draw =>
    cases draw with
    | false =>
      have h' : qseq P GL (viaSpecs SP (qenter P qt ih)) nt (ops.toList.map (cop ops)) T M = some (e, T', M') := h
      obtain ⟨rfl, h2⟩ := qseq_sound hc _ _ _ _ _ _ h'
      simp only [astep, cond_false, h2]
    | true =>
      have h' : qstep P GL SP qt ih nt (compR ops) T M = some (e, T', M') := h
      have fin : e = .normal ∧ lexOk ops = true ∧ adrawn P GL (viaSpecs SP (aenter P ih')) ops ⟨T, nt, M⟩ = some ⟨T', nt, M'⟩ → astep P GL SP ih' (.region id ops true) ⟨T, nt, M⟩ = some (e, ⟨T', nt, M'⟩) := fun ⟨h1, h2, h3⟩ => by
        subst h1
        simp only [astep, cond_true, h2, h3]
      apply fin
      unfold compR at h'
      cases hq : (lexOk ops && nilB (stillOps ops.toList (befores ops.toList []) ops.toList (befores ops.toList []) 0)) <;> simp only [hq, cond_true, cond_false] at h'
      · exact drawn_draw hc rfl h'
      · simp only [Bool.and_eq_true] at hq
        have hst := nilB_spec hq.2
        split at h'
        · rename_i hlf
          cases ht : tameGo ops.toList (befores ops.toList []) 0 [] <;> simp only [ht, cond_true, cond_false] at h'
          · exact drawn_draw hc rfl h'
          · obtain ⟨h1, h2⟩ := plain_draw hc hA hst hlf ht h'
            exact ⟨h1, hq.1, h2⟩
        · rename_i f hlf
          cases ht : (tameGo ops.toList.dropLast (befores ops.toList []) 0 [] && nilB (stillsF ops.toList (befores ops.toList []))) <;> simp only [ht, cond_true, cond_false] at h'
          · exact drawn_draw hc rfl h'
          · simp only [Bool.and_eq_true] at ht
            have hsf := nilB_spec ht.2
            have ht := ht.1
            unfold freeOf at h'
            split at h'
            · rename_i t x y hop
              obtain ⟨h1, h2⟩ := free_draw hc hA hsf hlf hop ht h'
              exact ⟨h1, hq.1, h2⟩
            · cases h'
theorem qexec_sound (hN : noNum P) (hm : P.follows .mixedOrders = true) (hQ : QOk P qt) (hB : ∀ id, SP.blocks id = none) (hS : ∀ B, SpecsOk P GL B SP) : ∀ n, XOk (qexec P GL SP qt n) (aexec P GL SP n)
  | 0, nt, c, T, M, e, T', M', h => by cases h
  | n + 1, nt, c, T, M, e, T', M', h => qstep_sound hQ hB (qexec_sound hN hm hQ hB hS n) (viaSpecs_abs (hS 0) (arun_abs hN hm (hS 0) n)) nt c T M e T' M' h
theorem qrun_arun (hN : noNum P) (hm : P.follows .mixedOrders = true) (hQ : QOk P qt) (hB : ∀ id, SP.blocks id = none) (hS : ∀ B, SpecsOk P GL B SP) {n : Nat} {f : FuncId} {args : List Value} {M : Mem} {r : Value × Mem} (h : qrun P GL SP qt n f args M = some r) : arun P GL SP n f args M = some r :=
  qenter_sound hQ (qexec_sound hN hm hQ hB hS n) f args M r h
end exec
def bodyComp (P : Program) (f : FuncId) : Option QC := ((P.funcs[f]?).bind (·.body)).map comp
def qtab : List (Nat × QC) → Tr QC
  | [] => .nil
  | p :: l => (qtab l).set p.1 (some p.2)
theorem QOk.of {l : List (Nat × QC)} (h : ∀ p ∈ l, bodyComp P p.1 = some p.2) : QOk P (qtab l) := by
  induction l with
  | nil => intro f q hq; simp [qtab, Tr.get] at hq
  | cons p l ih =>
    intro f q hq
    simp only [qtab, Tr.get_set] at hq
    by_cases hf : f = p.1
    · rw [if_pos hf] at hq
      cases hq
      have := h p (List.mem_cons_self ..)
      rw [← hf] at this
      unfold bodyComp at this
      cases hfn : P.funcs[f]? with
      | none => rw [hfn] at this; cases this
      | some fn =>
        rw [hfn] at this
        cases hb : fn.body with
        | none => simp [hb] at this
        | some c =>
          simp [hb] at this
          exact ⟨fn, c, rfl, hb, this⟩
    · rw [if_neg hf] at hq
      exact ih (fun p hp => h p (List.mem_cons_of_mem _ hp)) f q hq
theorem SpecOk.qrun (hN : noNum P) (hm : P.follows .mixedOrders = true) {SP : Specs} {qt : Tr QC} (hQ : QOk P qt) (hB : ∀ id, SP.blocks id = none) (hS : ∀ B, SpecsOk P GL B SP) (n : Nat) (f : FuncId) : SpecOk P GL B f (Go.Am.qrun P GL SP qt n f) :=
  ⟨fun args M v M' h => arun_abs hN hm (hS 0) n f args M v M' (qrun_arun hN hm hQ hB hS h), fun args M v M' h φ w hR hG args' ha => arun_calls hN hm (hS B) n (qrun_arun hN hm hQ hB hS h) hR hG args' ha⟩
end Go.Am
end
