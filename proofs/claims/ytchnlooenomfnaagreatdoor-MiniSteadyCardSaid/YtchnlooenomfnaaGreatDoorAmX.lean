/-
  What is proved: MiniSteady: a machine of Make's is steady just if a letter twice is a letter once: for every x, y, every word. For every argument; one laid table (math/bits) is tied by the card.
-/
import Derived.Test.YtchnlooenomfnaaGreatDoorGAmEq
set_option linter.unusedVariables false
set_option linter.unusedSimpArgs false
noncomputable section
namespace Go.Am
open Go
variable {P : Program} {GL : List Nat} {callF : CallF} {SP : Specs}
def noSpec (SP : Specs) (g : FuncId) : Bool := (SP.calls g).isNone
def calleeOf (P : Program) (GL : List Nat) (SP : Specs) (o : Oper) (T : Tr Value) : Option (FuncId × List Value) :=
  match o.op with
  | .call c => match c.callee with
    | .value f => match ev GL T f, evs GL T c.args.toList with
      | some fv, some args => match target fv with
        | some (g, first, captured) => bif hasBody P g && noSpec SP g then some (g, first ++ args ++ captured) else none
        | none => none
      | _, _ => none
    | .invoke x name => match ev GL T x, evs GL T c.args.toList with
      | some (.iface t v), some args => match amethod P t name with
        | some g => bif hasBody P g && noSpec SP g then some (g, v :: args) else none
        | none => none
      | _, _ => none
    | _ => none
  | _ => none
theorem calleeOf_sound {o : Oper} {T : Tr Value} {g : FuncId} {args : List Value} (h : calleeOf P GL SP o T = some (g, args)) :
    SP.calls g = none ∧ ∀ M, aop1 P GL callF o T M = acall callF g args M := by
  have hn : ∀ g, noSpec SP g = true → SP.calls g = none := fun g hg => by
    unfold noSpec at hg
    cases hs : SP.calls g with
    | none => rfl
    | some x => rw [hs] at hg; cases hg
  obtain ⟨dst, op, type, pos, after, guard⟩ := o
  unfold calleeOf at h
  split at h <;> rename_i hop <;> simp only at hop
  · rename_i c
    subst hop
    obtain ⟨callee, args', argTypes⟩ := c
    simp only at h
    split at h
    · rename_i f
      split at h
      · rename_i fv as hf has
        split at h
        · rename_i g' first captured htg
          cases hb : (hasBody P g' && noSpec SP g') <;> simp only [hb, cond_true, cond_false] at h
          · cases h
          · simp only [Bool.and_eq_true] at hb
            simp only [Option.some.injEq, Prod.mk.injEq] at h
            obtain ⟨rfl, rfl⟩ := h
            refine ⟨hn _ hb.2, fun M => ?_⟩
            simp only [aop1, hf, has, htg, hb.1, cond_true]
        · cases h
      · cases h
    · rename_i x name
      split at h
      · rename_i t v as hf has
        split at h
        · rename_i g' hg'
          cases hb : (hasBody P g' && noSpec SP g') <;> simp only [hb, cond_true, cond_false] at h
          · cases h
          · simp only [Bool.and_eq_true] at hb
            simp only [Option.some.injEq, Prod.mk.injEq] at h
            obtain ⟨rfl, rfl⟩ := h
            refine ⟨hn _ hb.2, fun M => ?_⟩
            simp only [aop1, hf, has, hg', hb.1, cond_true]
        · cases h
      · cases h
    · cases h
  · cases h
def calleeAny (P : Program) (GL : List Nat) (o : Oper) (T : Tr Value) : Option (FuncId × List Value) :=
  match o.op with
  | .call c => match c.callee with
    | .value f => match ev GL T f, evs GL T c.args.toList with
      | some fv, some args => match target fv with
        | some (g, first, captured) => bif hasBody P g then some (g, first ++ args ++ captured) else none
        | none => none
      | _, _ => none
    | .invoke x name => match ev GL T x, evs GL T c.args.toList with
      | some (.iface t v), some args => match amethod P t name with
        | some g => bif hasBody P g then some (g, v :: args) else none
        | none => none
      | _, _ => none
    | _ => none
  | _ => none
theorem calleeAny_sound {o : Oper} {T : Tr Value} {g : FuncId} {args : List Value} (h : calleeAny P GL o T = some (g, args)) (M : Mem) : aop1 P GL callF o T M = acall callF g args M := by
  obtain ⟨dst, op, type, pos, after, guard⟩ := o
  unfold calleeAny at h
  split at h <;> rename_i hop <;> simp only at hop
  · rename_i c
    subst hop
    obtain ⟨callee, args', argTypes⟩ := c
    simp only at h
    split at h
    · rename_i f
      split at h
      · rename_i fv as hf has
        split at h
        · rename_i g' first captured htg
          cases hb : hasBody P g' <;> simp only [hb, cond_true, cond_false] at h
          · cases h
          · simp only [Option.some.injEq, Prod.mk.injEq] at h
            obtain ⟨rfl, rfl⟩ := h
            simp only [aop1, hf, has, htg, hb, cond_true]
        · cases h
      · cases h
    · rename_i x name
      split at h
      · rename_i t v as hf has
        split at h
        · rename_i g' hg'
          cases hb : hasBody P g' <;> simp only [hb, cond_true, cond_false] at h
          · cases h
          · simp only [Option.some.injEq, Prod.mk.injEq] at h
            obtain ⟨rfl, rfl⟩ := h
            simp only [aop1, hf, has, hg', hb, cond_true]
        · cases h
      · cases h
    · cases h
  · cases h
def toldCall (F : List Fact) (c : Nat) : Option (Value × List (Nat × Option ABlk) × List ABlk × List Fact) :=
  match F with
  | [] => none
  | f :: F => match f.q with
    | .mcall _ _ _ v olds news => bif Nat.beq f.pt c then some (v, olds, news, F) else none
    | _ => none
abbrev XH := Code → St → List Fact → Nat → HR (AExit × St)
def xenter (P : Program) (ih : XH) (f : FuncId) (args : List Value) (M : Mem) (F : List Fact) (c : Nat) : HR (Value × Mem) :=
  match P.funcs[f]? with
  | some fn => match fn.body with
    | some cd => bif Nat.ble args.length fn.ntmps then
        match ih cd ⟨initT args 0 .nil, fn.ntmps, M⟩ F c with
        | some ((.normal, s), r) => match aresults P fn s with | some v => some ((v, s.M), r) | none => none
        | some ((.ret, s), r) => match aresults P fn s with | some v => some ((v, s.M), r) | none => none
        | _ => none
      else none
    | none => none
  | none => none
def wrapCall (M : Mem) (v : Value) (M' : Mem) : Ans :=
  match below M.next M'.log with
  | [] => (1, .val v, { M' with log := M.log, hide := M.hide })
  | l => (2, .val v, { M' with log := l ++ M.log, hide := M.hide })
theorem wrapCall_loud (M : Mem) (v : Value) (M' : Mem) : (wrapCall M v M').1 ≠ 0 := by
  unfold wrapCall
  split <;> simp
theorem acall_wrap {f : FuncId} {args : List Value} {M M' : Mem} {v : Value} (h : callF f args { M with log := [] } = some (v, M')) : acall callF f args M = some (wrapCall M v M') := by
  unfold acall wrapCall
  rw [h]
  simp only
  cases below M.next M'.log <;> rfl
def xopr (P : Program) (GL : List Nat) (SP : Specs) (callF : CallF) (ih : XH) (o : Oper) (T : Tr Value) (M : Mem) (F : List Fact) (c : Nat) : HR Ans :=
  match toldCall F c with
  | some (v, olds, news, F') => match aop0 P GL o T, calleeAny P GL o T with
    | none, some (g, args) => bif olds.isEmpty && news.isEmpty then some ((1, .val v, M), F', c + 1, [(.callr g args M, (1, .val v, noMem))])
      else some ((2, .val v, M.mut olds news), F', c + 1, [(.mcall g args M v olds news, ansB true)])
    | _, _ => none
  | none => match fact? F c with
  | some (a, F') => match hop P GL o T M a with
    | some (r, q) => some (r, F', c + 1, [(q, a)])
    | none => none
  | none => match aop0 P GL o T with
    | some r => some ((0, r, M), F, c + 1, [])
    | none => match calleeOf P GL SP o T with
      | some (g, args) => match xenter P ih g args { M with log := [] } F (c + 1) with
        | some ((v, M'), r) => some (wrapCall M v M', r)
        | none => none
      | none => match aop1 P GL callF o T M with
        | some (0, _, _) => none
        | some r => some (r, F, c + 1, [])
        | none => none
def xseq (P : Program) (GL : List Nat) (SP : Specs) (callF : CallF) (ih : XH) (ops : Array Oper) : List Oper → St → List Fact → Nat → HR St
  | [], s, F, c => some (s, F, c, [])
  | o :: rest, s, F, c => match hwanted ops s.T o F c with
    | some (true, F1, c1, q1) => match xopr P GL SP callF ih o s.T s.M F1 c1 with
      | some ((_, r, M'), F2, c2, q2) => match aput o r { s with M := M' } with
        | some s' => match xseq P GL SP callF ih ops rest s' F2 c2 with
          | some (s2, F3, c3, q3) => some (s2, F3, c3, q1 ++ q2 ++ q3)
          | none => none
        | none => none
      | none => none
    | some (false, F1, c1, q1) => match aput o .skip s with
      | some s' => match xseq P GL SP callF ih ops rest s' F1 (c1 + 1) with
        | some (s2, F3, c3, q3) => some (s2, F3, c3, q1 ++ q3)
        | none => none
      | none => none
    | none => none
def xdraw (P : Program) (GL : List Nat) (SP : Specs) (callF : CallF) (ih : XH) (ops : Array Oper) (before : List Nat) : List Oper → Nat → List Done → St → List Fact → Nat → HR St
  | [], _, _, s, F, c => some (s, F, c, [])
  | o :: rest, i, dn, s, F, c => match hwanted ops s.T o F c, before[i]? with
    | some (true, F1, c1, q1), some deps => match xopr P GL SP callF ih o s.T { s.M with hide := hides deps dn ++ s.M.hide } F1 c1 with
      | some ((k, r, M'), F2, c2, q2) => bif mayAll deps k dn then
          match aput o r { s with M := { M' with hide := s.M.hide } } with
          | some s' => match xdraw P GL SP callF ih ops before rest (i + 1) (⟨i, k, s.M.next, M'.next⟩ :: dn) s' F2 c2 with
            | some (s2, F3, c3, q3) => some (s2, F3, c3, q1 ++ q2 ++ q3)
            | none => none
          | none => none
        else none
      | none => none
    | some (false, F1, c1, q1), some _ => match aput o .skip s with
      | some s' => match xdraw P GL SP callF ih ops before rest (i + 1) dn s' F1 (c1 + 1) with
        | some (s2, F3, c3, q3) => some (s2, F3, c3, q1 ++ q3)
        | none => none
      | none => none
    | _, _ => none
def xdraw2 (P : Program) (GL : List Nat) (SP : Specs) (callF : CallF) (ih : XH) (ops : Array Oper) (before sl : List Nat) (n0 : Nat) : List Oper → Nat → List Done → List Nat → St → List Fact → Nat → HR (St × List Nat)
  | [], _, _, S, s, F, c => some ((s, S), F, c, [])
  | o :: rest, i, dn, S, s, F, c => match hwanted ops s.T o F c, before[i]? with
    | some (true, F1, c1, q1), some deps => match xopr P GL SP callF ih o s.T { s.M with hide := hides deps dn ++ s.M.hide } F1 c1 with
      | some ((k, r, M'), F2, c2, q2) => match stillAt GL sl n0 o i s.T with
        | some b => match aput o r s with
          | some s' => match xdraw2 P GL SP callF ih ops before sl n0 rest (i + 1) dn (b :: S) s' F2 c2 with
            | some (s2, F3, c3, q3) => some (s2, F3, c3, q1 ++ q2 ++ q3)
            | none => none
          | none => none
        | none => bif mayAll deps k dn then
          match aput o r { s with M := { M' with hide := s.M.hide } } with
          | some s' => match xdraw2 P GL SP callF ih ops before sl n0 rest (i + 1) (⟨i, k, s.M.next, M'.next⟩ :: dn) S s' F2 c2 with
            | some (s2, F3, c3, q3) => some (s2, F3, c3, q1 ++ q2 ++ q3)
            | none => none
          | none => none
        else none
      | none => none
    | some (false, F1, c1, q1), some _ => match aput o .skip s with
      | some s' => match xdraw2 P GL SP callF ih ops before sl n0 rest (i + 1) dn S s' F1 (c1 + 1) with
        | some (s2, F3, c3, q3) => some (s2, F3, c3, q1 ++ q3)
        | none => none
      | none => none
    | _, _ => none
def xdrawn (P : Program) (GL : List Nat) (SP : Specs) (callF : CallF) (ih : XH) (ops : Array Oper) (s : St) (F : List Fact) (c : Nat) : HR St :=
  match lastFree ops.toList (befores ops.toList []) with
  | some f => match xdraw2 P GL SP callF ih ops (befores ops.toList []) (stillsF ops.toList (befores ops.toList [])) s.M.next ops.toList.dropLast 0 [] [] (afresh s) F c with
    | some ((s1, S), F1, c1, q) => bif apartN S s1.M.log then match finF P GL f s s1 with
        | some s' => some (s', F1, c1 + 2, q)
        | none => none
      else none
    | none => none
  | none =>
  match stillOps ops.toList (befores ops.toList []) ops.toList (befores ops.toList []) 0 with
  | [] => xdraw P GL SP callF ih ops (befores ops.toList []) ops.toList 0 [] s F c
  | x :: l => match xdraw2 P GL SP callF ih ops (befores ops.toList []) (x :: l) s.M.next ops.toList 0 [] [] (afresh s) F c with
    | some ((s', S), r) => bif apartN S s'.M.log then some (ajoin s s', r) else none
    | none => none
def xscope (ih : XH) (cd : Code) : Nat → Code → St → List Fact → Nat → HR (AExit × St)
  | 0, _, _, _, _ => none
  | n + 1, d, s, F, c => match ih d s F c with
    | some ((.goto l, s'), F1, c1, q1) => match findLabel cd l with
      | some rest => match xscope ih cd n rest s' F1 c1 with
        | some (r, F2, c2, q2) => some (r, F2, c2, q1 ++ q2)
        | none => none
      | none => some ((.goto l, s'), F1, c1, q1)
    | r => r
def xstep (P : Program) (GL : List Nat) (SP : Specs) (callF : CallF) (ih : XH) (cd : Code) (s : St) (F : List Fact) (c : Nat) : HR (AExit × St) :=
  match cd with
  | .skip => some ((.normal, s), F, c, [])
  | .region _ ops draw =>
    bif draw then
      bif lexOk ops then
        match xdrawn P GL SP callF ih ops s F c with
        | some (s', r) => some ((.normal, s'), r)
        | none => none
      else none
    else match xseq P GL SP callF ih ops ops.toList s F c with
      | some (s', r) => some ((.normal, s'), r)
      | none => none
  | .seq a b => match ih a s F c with
    | some ((.normal, s'), F1, c1, q1) => match ih b s' F1 c1 with
      | some (r, F2, c2, q2) => some (r, F2, c2, q1 ++ q2)
      | none => none
    | r => r
  | .cond x a b => match fact? F c with
    | some (an, F') => match ev GL s.T x, an.2.1 with
      | some (.bool v), .val (.bool t) => match ih (bif t then a else b) s F' (c + 1) with
        | some (r, F2, c2, q2) => some (r, F2, c2, (.bool v, an) :: q2)
        | none => none
      | _, _ => none
    | none => match ev GL s.T x with
      | some (.bool t) => ih (bif t then a else b) s F (c + 1)
      | _ => none
  | .block id b => match SP.blocks id with
    | some _ => match factQ? F c with
      | some (.blk _ _ _ e s', F') => some ((e, s'), F', c + 1, [(.blk id b s e s', ansB true)])
      | _ => none
    | none => match ih b s F c with
      | some ((.exit i, s'), r) => bif Nat.beq i id then some ((.normal, s'), r) else some ((.exit i, s'), r)
      | r => r
  | .loop b => match ih b s F c with
    | some ((.normal, s'), F1, c1, q1) => match ih (.loop b) s' F1 c1 with
      | some (r, F2, c2, q2) => some (r, F2, c2, q1 ++ q2)
      | none => none
    | r => r
  | .exit id => some ((.exit id, s), F, c, [])
  | .ret => some ((.ret, s), F, c, [])
  | .label _ => some ((.normal, s), F, c, [])
  | .goto l => some ((.goto l, s), F, c, [])
  | .scope d => xscope ih d 100000 d s F c
  | _ => none
def xexec (P : Program) (GL : List Nat) (SP : Specs) (n : Nat) : XH :=
  Nat.rec (fun _ _ _ _ => none) (fun n ih => xstep P GL SP (viaSpecs SP (aenter P (aexec P GL SP n))) ih) n
def XSound (P : Program) (SP : Specs) (ih : Code → St → Option (AExit × St)) (hi : XH) : Prop :=
  ∀ cd s F F' c c' e s' q, hi cd s F c = some ((e, s'), F', c', q) → allHold P SP q → ih cd s = some (e, s')
theorem xenter_sound {ih : Code → St → Option (AExit × St)} {hi : XH} (hX : XSound P SP ih hi) {f : FuncId} {args : List Value} {M M' : Mem} {F F' : List Fact} {c c' : Nat} {v : Value} {q : Col}
    (h : xenter P hi f args M F c = some ((v, M'), F', c', q)) (hq : allHold P SP q) : aenter P ih f args M = some (v, M') := by
  unfold xenter at h
  unfold aenter
  cases hf : P.funcs[f]? with
  | none => rw [hf] at h; cases h
  | some fn =>
    rw [hf] at h
    cases hb : fn.body with
    | none => simp only [hb] at h; cases h
    | some cd =>
      simp only [hb] at h ⊢
      generalize Nat.ble args.length fn.ntmps = b at h ⊢
      cases b <;> simp only [cond_true, cond_false] at h ⊢
      · cases h
      · cases hr : hi cd ⟨initT args 0 .nil, fn.ntmps, M⟩ F c with
        | none => rw [hr] at h; cases h
        | some r1 =>
          obtain ⟨⟨e, s⟩, F1, c1, q1⟩ := r1
          rw [hr] at h
          cases e with
          | normal =>
            simp only at h
            split at h
            · rename_i u hu
              simp only [Option.some.injEq, Prod.mk.injEq] at h
              obtain ⟨⟨rfl, rfl⟩, rfl, rfl, rfl⟩ := h
              rw [hX _ _ _ _ _ _ _ _ _ hr hq]
              simp only [hu]
            · cases h
          | ret =>
            simp only at h
            split at h
            · rename_i u hu
              simp only [Option.some.injEq, Prod.mk.injEq] at h
              obtain ⟨⟨rfl, rfl⟩, rfl, rfl, rfl⟩ := h
              rw [hX _ _ _ _ _ _ _ _ _ hr hq]
              simp only [hu]
            · cases h
          | exit i => cases h
          | goto i => cases h
theorem xopr_sound {ih : Code → St → Option (AExit × St)} {hi : XH} (hX : XSound P SP ih hi) {o : Oper} {T : Tr Value} {M : Mem} {F F' : List Fact} {c c' : Nat} {r : Ans} {q : Col}
    (h : xopr P GL SP (viaSpecs SP (aenter P ih)) hi o T M F c = some (r, F', c', q)) (hq : allHold P SP q) : aop P GL (viaSpecs SP (aenter P ih)) o T M = some r := by
  have hK := knows_via SP (aenter P ih)
  unfold xopr at h
  split at h
  · split at h
    · rename_i h0 hc
      generalize (List.isEmpty _ && List.isEmpty _) = z at h
      cases z <;> simp only [cond_true, cond_false, Option.some.injEq, Prod.mk.injEq] at h
      · obtain ⟨rfl, _, _, rfl⟩ := h
        have h1 := hq _ (List.mem_singleton.2 rfl)
        refine aop_of_one h0 ?_ (by simp)
        rw [calleeAny_sound hc]
        exact acall_more hK h1
      · obtain ⟨rfl, _, _, rfl⟩ := h
        have h1 := hq _ (List.mem_singleton.2 rfl)
        refine aop_of_one h0 ?_ (by simp)
        rw [calleeAny_sound hc]
        exact acall_more hK h1
    · cases h
  split at h
  · split at h
    · rename_i r' q' hr
      simp only [Option.some.injEq, Prod.mk.injEq] at h
      obtain ⟨rfl, _, _, rfl⟩ := h
      exact hop_sound hK hr (hq _ (List.mem_singleton.2 rfl))
    · cases h
  · unfold aop
    split at h
    · rename_i r' hr
      simp only [Option.some.injEq, Prod.mk.injEq] at h
      obtain ⟨rfl, _⟩ := h
      rw [hr]
    · rename_i h0
      rw [h0]
      split at h
      · rename_i g args hc
        split at h
        · rename_i v M' r' hx
          simp only [Option.some.injEq, Prod.mk.injEq] at h
          obtain ⟨rfl, rfl⟩ := h
          obtain ⟨h1, h2⟩ := calleeOf_sound (callF := viaSpecs SP (aenter P ih)) hc
          have h3 : viaSpecs SP (aenter P ih) g args { M with log := [] } = some (v, M') := by
            unfold viaSpecs
            rw [h1]
            exact xenter_sound hX hx hq
          rw [h2, acall_wrap h3]
          have hl := wrapCall_loud M v M'
          generalize wrapCall M v M' = z at hl ⊢
          obtain ⟨k, z⟩ := z
          cases k with
          | zero => exact absurd rfl hl
          | succ k => rfl
        · cases h
      · split at h
        · cases h
        · rename_i r' hk hr
          simp only [Option.some.injEq, Prod.mk.injEq] at h
          obtain ⟨rfl, _⟩ := h
          rw [hr]
          obtain ⟨k, z⟩ := r'
          cases k with
          | zero => exact (hk _ _ rfl).elim
          | succ k => rfl
        · cases h
theorem xseq_sound {ih : Code → St → Option (AExit × St)} {hi : XH} (hX : XSound P SP ih hi) {ops : Array Oper} : ∀ (l : List Oper) (s s' : St) (F F' : List Fact) (c c' : Nat) (q : Col),
    xseq P GL SP (viaSpecs SP (aenter P ih)) hi ops l s F c = some (s', F', c', q) → allHold P SP q → aseq P GL (viaSpecs SP (aenter P ih)) ops l s = some s'
  | [], s, s', F, F', c, c', q, h, hq => by
    simp only [xseq, Option.some.injEq, Prod.mk.injEq] at h
    obtain ⟨rfl, _⟩ := h; rfl
  | o :: l, s, s', F, F', c, c', q, h, hq => by
    simp only [xseq] at h
    simp only [aseq]
    split at h
    · rename_i F1 c1 q1 hw
      split at h
      · rename_i k r M' F2 c2 q2 hop
        split at h
        · rename_i s1 hput
          split at h
          · rename_i s2 F3 c3 q3 hrest
            simp only [Option.some.injEq, Prod.mk.injEq] at h
            obtain ⟨rfl, _, _, rfl⟩ := h
            rw [hwanted_sound hw hq.left.left]
            simp only [xopr_sound hX hop hq.left.right, hput]
            exact xseq_sound hX l _ _ _ _ _ _ _ hrest hq.right
          · cases h
        · cases h
      · cases h
    · rename_i F1 c1 q1 hw
      split at h
      · rename_i s1 hput
        split at h
        · rename_i s2 F3 c3 q3 hrest
          simp only [Option.some.injEq, Prod.mk.injEq] at h
          obtain ⟨rfl, _, _, rfl⟩ := h
          rw [hwanted_sound hw hq.left]
          simp only [hput]
          exact xseq_sound hX l _ _ _ _ _ _ _ hrest hq.right
        · cases h
      · cases h
    · cases h
theorem xdraw_sound {ih : Code → St → Option (AExit × St)} {hi : XH} (hX : XSound P SP ih hi) {ops : Array Oper} {before : List Nat} : ∀ (l : List Oper) (i : Nat) (dn : List Done) (s s' : St) (F F' : List Fact) (c c' : Nat) (q : Col),
    xdraw P GL SP (viaSpecs SP (aenter P ih)) hi ops before l i dn s F c = some (s', F', c', q) → allHold P SP q → adraw P GL (viaSpecs SP (aenter P ih)) ops before l i dn s = some s'
  | [], i, dn, s, s', F, F', c, c', q, h, hq => by
    simp only [xdraw, Option.some.injEq, Prod.mk.injEq] at h
    obtain ⟨rfl, _⟩ := h; rfl
  | o :: l, i, dn, s, s', F, F', c, c', q, h, hq => by
    simp only [xdraw] at h
    simp only [adraw]
    split at h
    · rename_i F1 c1 q1 deps hw hb
      split at h
      · rename_i k r M' F2 c2 q2 hop
        cases hmay : mayAll deps k dn <;> simp only [hmay, cond_true, cond_false] at h
        · cases h
        · split at h
          · rename_i s1 hput
            split at h
            · rename_i s2 F3 c3 q3 hrest
              simp only [Option.some.injEq, Prod.mk.injEq] at h
              obtain ⟨rfl, _, _, rfl⟩ := h
              rw [hwanted_sound hw hq.left.left, hb]
              simp only [xopr_sound hX hop hq.left.right, hmay, cond_true, hput]
              exact xdraw_sound hX l _ _ _ _ _ _ _ _ _ hrest hq.right
            · cases h
          · cases h
      · cases h
    · rename_i F1 c1 q1 deps hw hb
      split at h
      · rename_i s1 hput
        split at h
        · rename_i s2 F3 c3 q3 hrest
          simp only [Option.some.injEq, Prod.mk.injEq] at h
          obtain ⟨rfl, _, _, rfl⟩ := h
          rw [hwanted_sound hw hq.left, hb]
          simp only [hput]
          exact xdraw_sound hX l _ _ _ _ _ _ _ _ _ hrest hq.right
        · cases h
      · cases h
    · cases h
theorem xdraw2_sound {ih : Code → St → Option (AExit × St)} {hi : XH} (hX : XSound P SP ih hi) {ops : Array Oper} {before sl : List Nat} {n0 : Nat} : ∀ (l : List Oper) (i : Nat) (dn : List Done) (S : List Nat) (s : St) (s' : St × List Nat) (F F' : List Fact) (c c' : Nat) (q : Col),
    xdraw2 P GL SP (viaSpecs SP (aenter P ih)) hi ops before sl n0 l i dn S s F c = some (s', F', c', q) → allHold P SP q → adraw2 P GL (viaSpecs SP (aenter P ih)) ops before sl n0 l i dn S s = some s'
  | [], i, dn, S, s, s', F, F', c, c', q, h, hq => by
    simp only [xdraw2, Option.some.injEq, Prod.mk.injEq] at h
    obtain ⟨rfl, _⟩ := h; rfl
  | o :: l, i, dn, S, s, s', F, F', c, c', q, h, hq => by
    simp only [xdraw2] at h
    simp only [adraw2]
    split at h
    · rename_i F1 c1 q1 deps hw hb
      split at h
      · rename_i k r M' F2 c2 q2 hop
        split at h
        · rename_i b hst
          split at h
          · rename_i s1 hput
            split at h
            · rename_i s2 F3 c3 q3 hrest
              simp only [Option.some.injEq, Prod.mk.injEq] at h
              obtain ⟨rfl, _, _, rfl⟩ := h
              rw [hwanted_sound hw hq.left.left, hb]
              simp only [xopr_sound hX hop hq.left.right, hst, hput]
              exact xdraw2_sound hX l _ _ _ _ _ _ _ _ _ _ hrest hq.right
            · cases h
          · cases h
        · rename_i hst
          cases hmay : mayAll deps k dn <;> simp only [hmay, cond_true, cond_false] at h
          · cases h
          · split at h
            · rename_i s1 hput
              split at h
              · rename_i s2 F3 c3 q3 hrest
                simp only [Option.some.injEq, Prod.mk.injEq] at h
                obtain ⟨rfl, _, _, rfl⟩ := h
                rw [hwanted_sound hw hq.left.left, hb]
                simp only [xopr_sound hX hop hq.left.right, hst, hmay, cond_true, hput]
                exact xdraw2_sound hX l _ _ _ _ _ _ _ _ _ _ hrest hq.right
              · cases h
            · cases h
      · cases h
    · rename_i F1 c1 q1 deps hw hb
      split at h
      · rename_i s1 hput
        split at h
        · rename_i s2 F3 c3 q3 hrest
          simp only [Option.some.injEq, Prod.mk.injEq] at h
          obtain ⟨rfl, _, _, rfl⟩ := h
          rw [hwanted_sound hw hq.left, hb]
          simp only [hput]
          exact xdraw2_sound hX l _ _ _ _ _ _ _ _ _ _ hrest hq.right
        · cases h
      · cases h
    · cases h
theorem xdrawn_sound {ih : Code → St → Option (AExit × St)} {hi : XH} (hX : XSound P SP ih hi) {ops : Array Oper} {s s' : St} {F F' : List Fact} {c c' : Nat} {q : Col}
    (h : xdrawn P GL SP (viaSpecs SP (aenter P ih)) hi ops s F c = some (s', F', c', q)) (hq : allHold P SP q) : adrawn P GL (viaSpecs SP (aenter P ih)) ops s = some s' := by
  unfold xdrawn at h
  unfold adrawn
  split at h
  · rename_i f hlf
    simp only [hlf]
    unfold adrawF
    split at h
    · rename_i s1 S F1 c1 q1 hr
      cases hp : apartN S s1.M.log <;> simp only [hp, cond_true, cond_false] at h
      · cases h
      · split at h
        · rename_i s2 hf
          simp only [Option.some.injEq, Prod.mk.injEq] at h
          obtain ⟨rfl, _, _, rfl⟩ := h
          simp only [xdraw2_sound hX _ _ _ _ _ _ _ _ _ _ _ hr hq, hp, cond_true, hf]
        · cases h
    · cases h
  rename_i hlf
  simp only [hlf]
  unfold adrawn0
  split at h
  · rename_i hst
    simp only [hst]
    exact xdraw_sound hX _ _ _ _ _ _ _ _ _ _ h hq
  · rename_i x l hst
    simp only [hst]
    split at h
    · rename_i s1 S r hr
      cases hp : apartN S s1.M.log <;> simp only [hp, cond_true, cond_false] at h
      · cases h
      · simp only [Option.some.injEq, Prod.mk.injEq] at h
        obtain ⟨rfl, rfl⟩ := h
        simp only [xdraw2_sound hX _ _ _ _ _ _ _ _ _ _ _ hr hq, hp, cond_true]
    · cases h
theorem xscope_sound {ih : Code → St → Option (AExit × St)} {hi : XH} (hX : XSound P SP ih hi) (cd : Code) : ∀ (n : Nat) (d : Code) (s s' : St) (F F' : List Fact) (c c' : Nat) (e : AExit) (q : Col),
    xscope hi cd n d s F c = some ((e, s'), F', c', q) → allHold P SP q → ascope ih cd n d s = some (e, s')
  | 0, d, s, s', F, F', c, c', e, q, h, hq => by cases h
  | n + 1, d, s, s', F, F', c, c', e, q, h, hq => by
    unfold xscope at h
    unfold ascope
    cases hx : hi d s F c with
    | none => rw [hx] at h; cases h
    | some r1 =>
      obtain ⟨⟨e1, s1⟩, F1, c1, q1⟩ := r1
      rw [hx] at h
      cases e1 with
      | goto l =>
        simp only at h
        split at h
        · rename_i rest hf
          split at h
          · rename_i r F2 c2 q2 hr
            simp only [Option.some.injEq, Prod.mk.injEq] at h
            obtain ⟨rfl, _, _, rfl⟩ := h
            simp only [hX _ _ _ _ _ _ _ _ _ hx hq.left, hf]
            exact xscope_sound hX cd n _ _ _ _ _ _ _ _ _ hr hq.right
          · cases h
        · rename_i hf
          simp only [Option.some.injEq, Prod.mk.injEq] at h
          obtain ⟨⟨rfl, rfl⟩, _, _, rfl⟩ := h
          simp only [hX _ _ _ _ _ _ _ _ _ hx hq, hf]
      | normal =>
        simp only [Option.some.injEq, Prod.mk.injEq] at h
        obtain ⟨⟨rfl, rfl⟩, _, _, rfl⟩ := h
        simp only [hX _ _ _ _ _ _ _ _ _ hx hq]
      | exit i =>
        simp only [Option.some.injEq, Prod.mk.injEq] at h
        obtain ⟨⟨rfl, rfl⟩, _, _, rfl⟩ := h
        simp only [hX _ _ _ _ _ _ _ _ _ hx hq]
      | ret =>
        simp only [Option.some.injEq, Prod.mk.injEq] at h
        obtain ⟨⟨rfl, rfl⟩, _, _, rfl⟩ := h
        simp only [hX _ _ _ _ _ _ _ _ _ hx hq]
theorem xstep_sound {ih : Code → St → Option (AExit × St)} {hi : XH} (h : XSound P SP ih hi) (cd : Code) (s : St) (F F' : List Fact) (c c' : Nat) (e : AExit) (s' : St) (q : Col)
    (hs : xstep P GL SP (viaSpecs SP (aenter P ih)) hi cd s F c = some ((e, s'), F', c', q)) (hq : allHold P SP q) : astep P GL SP ih cd s = some (e, s') := by
  unfold xstep at hs
  unfold astep
  split at hs
  · simp only [Option.some.injEq, Prod.mk.injEq] at hs
    obtain ⟨⟨rfl, rfl⟩, _⟩ := hs; rfl
  · rename_i ops draw
    cases draw <;> simp only [cond_true, cond_false] at hs ⊢
    · split at hs
      · rename_i s1 r hr
        simp only [Option.some.injEq, Prod.mk.injEq] at hs
        obtain ⟨⟨rfl, rfl⟩, rfl⟩ := hs
        rw [xseq_sound h _ _ _ _ _ _ _ _ hr hq]
      · cases hs
    · cases hl : lexOk ops <;> simp only [hl, cond_true, cond_false] at hs ⊢
      · cases hs
      · split at hs
        · rename_i s1 r hr
          simp only [Option.some.injEq, Prod.mk.injEq] at hs
          obtain ⟨⟨rfl, rfl⟩, rfl⟩ := hs
          rw [xdrawn_sound h hr hq]
        · cases hs
  · rename_i x y
    cases hx : hi x s F c with
    | none => rw [hx] at hs; cases hs
    | some r1 =>
      obtain ⟨⟨e1, s1⟩, F1, c1, q1⟩ := r1
      rw [hx] at hs
      cases e1 with
      | normal =>
        simp only at hs
        split at hs
        · rename_i r F2 c2 q2 hy
          simp only [Option.some.injEq, Prod.mk.injEq] at hs
          obtain ⟨rfl, _, _, rfl⟩ := hs
          simp only [h _ _ _ _ _ _ _ _ _ hx hq.left]
          exact h _ _ _ _ _ _ _ _ _ hy hq.right
        · cases hs
      | exit i =>
        simp only [Option.some.injEq, Prod.mk.injEq] at hs
        obtain ⟨⟨rfl, rfl⟩, _, _, rfl⟩ := hs
        simp only [h _ _ _ _ _ _ _ _ _ hx hq]
      | ret =>
        simp only [Option.some.injEq, Prod.mk.injEq] at hs
        obtain ⟨⟨rfl, rfl⟩, _, _, rfl⟩ := hs
        simp only [h _ _ _ _ _ _ _ _ _ hx hq]
      | goto i =>
        simp only [Option.some.injEq, Prod.mk.injEq] at hs
        obtain ⟨⟨rfl, rfl⟩, _, _, rfl⟩ := hs
        simp only [h _ _ _ _ _ _ _ _ _ hx hq]
  · rename_i x a b
    split at hs
    · rename_i an F1 hf
      split at hs
      · rename_i v t hx ha
        split at hs
        · rename_i r F2 c2 q2 hy
          simp only [Option.some.injEq, Prod.mk.injEq] at hs
          obtain ⟨rfl, _, _, rfl⟩ := hs
          have h1 := hq _ (List.mem_cons_self ..)
          simp only [Qu.holds] at h1
          rw [ha] at h1
          cases h1
          simp only [hx]
          exact h _ _ _ _ _ _ _ _ _ hy fun p hp => hq p (List.mem_cons_of_mem _ hp)
        · cases hs
      · cases hs
    · split at hs
      · rename_i t hx
        simp only [hx]
        exact h _ _ _ _ _ _ _ _ _ hs hq
      · cases hs
  · rename_i id b
    split at hs
    · rename_i g hg
      split at hs
      · rename_i e1 s1 F1 hf
        simp only [Option.some.injEq, Prod.mk.injEq] at hs
        obtain ⟨⟨rfl, rfl⟩, _, _, rfl⟩ := hs
        obtain ⟨g', h1, h2⟩ := hq _ (List.mem_singleton.2 rfl)
        rw [hg] at h1; cases h1
        simp only [hg]; exact h2
      · cases hs
    · rename_i hg
      cases hx : hi b s F c with
      | none => rw [hx] at hs; cases hs
      | some r1 =>
        obtain ⟨⟨e1, s1⟩, F1, c1, q1⟩ := r1
        rw [hx] at hs
        have hqq : q1 = q := by
          cases e1 with
          | exit i =>
            simp only at hs
            generalize Nat.beq i id = z at hs
            cases z <;> simp only [cond_true, cond_false, Option.some.injEq, Prod.mk.injEq] at hs <;> exact hs.2.2.2
          | normal => simp only [Option.some.injEq, Prod.mk.injEq] at hs; exact hs.2.2.2
          | ret => simp only [Option.some.injEq, Prod.mk.injEq] at hs; exact hs.2.2.2
          | goto i => simp only [Option.some.injEq, Prod.mk.injEq] at hs; exact hs.2.2.2
        subst hqq
        cases e1 with
        | exit i =>
          simp only [hg, h _ _ _ _ _ _ _ _ _ hx hq]
          simp only at hs ⊢
          generalize Nat.beq i id = z at hs ⊢
          cases z <;> simp only [cond_true, cond_false, Option.some.injEq, Prod.mk.injEq] at hs ⊢ <;> exact hs.1
        | normal =>
          simp only [hg, h _ _ _ _ _ _ _ _ _ hx hq]
          simp only [Option.some.injEq, Prod.mk.injEq] at hs ⊢; exact hs.1
        | ret =>
          simp only [hg, h _ _ _ _ _ _ _ _ _ hx hq]
          simp only [Option.some.injEq, Prod.mk.injEq] at hs ⊢; exact hs.1
        | goto i =>
          simp only [hg, h _ _ _ _ _ _ _ _ _ hx hq]
          simp only [Option.some.injEq, Prod.mk.injEq] at hs ⊢; exact hs.1
  · rename_i b
    cases hx : hi b s F c with
    | none => rw [hx] at hs; cases hs
    | some r1 =>
      obtain ⟨⟨e1, s1⟩, F1, c1, q1⟩ := r1
      rw [hx] at hs
      cases e1 with
      | normal =>
        simp only at hs
        split at hs
        · rename_i r F2 c2 q2 hy
          simp only [Option.some.injEq, Prod.mk.injEq] at hs
          obtain ⟨rfl, _, _, rfl⟩ := hs
          simp only [h _ _ _ _ _ _ _ _ _ hx hq.left]
          exact h _ _ _ _ _ _ _ _ _ hy hq.right
        · cases hs
      | exit i =>
        simp only [Option.some.injEq, Prod.mk.injEq] at hs
        obtain ⟨⟨rfl, rfl⟩, _, _, rfl⟩ := hs
        simp only [h _ _ _ _ _ _ _ _ _ hx hq]
      | ret =>
        simp only [Option.some.injEq, Prod.mk.injEq] at hs
        obtain ⟨⟨rfl, rfl⟩, _, _, rfl⟩ := hs
        simp only [h _ _ _ _ _ _ _ _ _ hx hq]
      | goto i =>
        simp only [Option.some.injEq, Prod.mk.injEq] at hs
        obtain ⟨⟨rfl, rfl⟩, _, _, rfl⟩ := hs
        simp only [h _ _ _ _ _ _ _ _ _ hx hq]
  · simp only [Option.some.injEq, Prod.mk.injEq] at hs
    obtain ⟨⟨rfl, rfl⟩, _⟩ := hs; rfl
  · simp only [Option.some.injEq, Prod.mk.injEq] at hs
    obtain ⟨⟨rfl, rfl⟩, _⟩ := hs; rfl
  · simp only [Option.some.injEq, Prod.mk.injEq] at hs
    obtain ⟨⟨rfl, rfl⟩, _⟩ := hs; rfl
  · simp only [Option.some.injEq, Prod.mk.injEq] at hs
    obtain ⟨⟨rfl, rfl⟩, _⟩ := hs; rfl
  · exact xscope_sound h _ _ _ _ _ _ _ _ _ _ _ hs hq
  · cases hs
theorem xexec_sound : ∀ (n : Nat), XSound P SP (aexec P GL SP n) (xexec P GL SP n)
  | 0 => fun cd s F F' c c' e s' q h hq => by cases h
  | n + 1 => fun cd s F F' c c' e s' q h hq => xstep_sound (xexec_sound n) cd s F F' c c' e s' q h hq
end Go.Am
end
