/-
  THE ABSTRACT MACHINE, QUICKER: the same runs, by smaller steps for the kernel: small words for each kind of operation, regions that only read in the text's order.
-/
import Derived.Test.YtchnlooenomfnaaGreatDoorAmTop
noncomputable section
namespace Go.Am
open Go

variable {P : Program} {GL : List Nat} {B : Bd} {callF : CallF}

abbrev OpF := Oper → Tr Value → Mem → Out

def fV (v : Option Value) (M : Mem) : Out := match v with | some v => some (0, .val v, M) | none => none
def fOr (a b : Out) : Out := match a with | some r => some r | none => b

def kEq : IntKind → IntKind → Bool
  | .i64, .i64 => true
  | .u8, .u8 => true
  | .i32, .i32 => true
  | .u64, .u64 => true
  | _, _ => false

def fbin (op : BinOp) (k : IntKind) (a b : Int) : Option Value :=
  match op with
  | .add => some (.int k (k.wrap (a + b)))
  | .sub => some (.int k (k.wrap (a - b)))
  | .eql => some (.bool (a == b))
  | .neq => some (.bool (a != b))
  | .lss => some (.bool (decide (a < b)))
  | .leq => some (.bool (decide (a ≤ b)))
  | .gtr => some (.bool (decide (a > b)))
  | .geq => some (.bool (decide (a ≥ b)))
  | _ => none

def fBin (op : BinOp) (x y : Option Value) (M : Mem) : Out :=
  match x, y with
  | some (.int k a), some (.int k' b) => bif kEq k k' then fV (fbin op k a b) M else none
  | _, _ => none

def fIdx (P : Program) (t : TypeId) (x ix : Option Value) (M : Mem) : Out :=
  match x, ix, P.underlying t with
  | some (.string s), some (.int _ (.ofNat i)), some .string => match s.data.toList[i]? with
    | some b => some (0, .val (.int .u8 b.toNat), M)
    | none => none
  | _, _, _ => none

def fLen (P : Program) (t : Option TypeId) (x : Option (List Value)) (M : Mem) : Out :=
  match x, t.bind (P.underlying ·) with
  | some [.string s], some .string => some (0, .val (.int .i64 s.size), M)
  | some [.slice (some _) n _], some (.slice _) => some (0, .val (.int .i64 n), M)
  | _, _ => none

def fLd (P : Program) (t : TypeId) (x : Option Value) (M : Mem) : Out :=
  match x with
  | some (.pointer (some a)) => match aload P t a M with
    | some v => some (1, .val v, M)
    | none => none
  | _ => none

def fSt (P : Program) (t : TypeId) (x y : Option Value) (M : Mem) : Out :=
  match x, y with
  | some (.pointer (some a)), some v => match astore P t a v M with
    | some M' => some (2, .skip, M')
    | none => none
  | _, _ => none

def fNc (x : Option Value) (M : Mem) : Out :=
  match x with
  | some (.pointer (some a)) => some (0, .val (.pointer (some a)), M)
  | _ => none

def fFa (P : Program) (s : TypeId) (x : Option Value) (f : Nat) (M : Mem) : Out := match x with | some v => fV (afieldAddr P s v f) M | none => none
def fIa (P : Program) (t : TypeId) (x i : Option Value) (M : Mem) : Out := match x, i with | some v, some i => fV (aindexAddr P t v i) M | _, _ => none
def fEx (x : Option Value) (i : Nat) (M : Mem) : Out := match x with | some (.tuple vs) => fV vs.toList[i]? M | _ => none
def fPk (GL : List Nat) (T : Tr Value) (c : Option Value) (a b : Operand) (M : Mem) : Out := match c with | some (.bool t) => fV (ev GL T (bif t then a else b)) M | _ => none
def fCl (P : Program) (callF : CallF) (g : FuncId) (args : Option (List Value)) (M : Mem) : Out :=
  match args with
  | some args => bif hasBody P g then acall callF g args M else none
  | none => none

def fcall (P : Program) (GL : List Nat) (callF : CallF) (c : Call) (T : Tr Value) (M : Mem) : Out :=
  match c.callee with
  | .value (.func g) => fCl P callF g (evs GL T c.args.toList) M
  | .builtin .len => fLen P c.argTypes[0]? (evs GL T c.args.toList) M
  | _ => none

def fquick (P : Program) (GL : List Nat) (callF : CallF) (op : Op) (T : Tr Value) (M : Mem) : Out :=
  match op with
  | .move x => fV (ev GL T x) M
  | .assign x => fV (ev GL T x) M
  | .nilCheck x => fNc (ev GL T x) M
  | .fieldAddr s x f => fFa P s (ev GL T x) f M
  | .load t x => fLd P t (ev GL T x) M
  | .binOp op _ x y _ => fBin op (ev GL T x) (ev GL T y) M
  | .call c => fcall P GL callF c T M
  | .indexAddr t x i => fIa P t (ev GL T x) (ev GL T i) M
  | .store t x y => fSt P t (ev GL T x) (ev GL T y) M
  | .pick c a b => fPk GL T (ev GL T c) a b M
  | .extract x i => fEx (ev GL T x) i M
  | .index t x i => fIdx P t (ev GL T x) (ev GL T i) M
  | _ => none

def faop (P : Program) (GL : List Nat) (callF : CallF) (o : Oper) (T : Tr Value) (M : Mem) : Out :=
  fOr (fquick P GL callF o.op T M) (aop P GL callF o T M)

theorem kEq_eq {k k' : IntKind} (h : kEq k k' = true) : k = k' := by
  cases k <;> cases k' <;> first | rfl | (simp [kEq] at h)

theorem aop_of_zero {o : Oper} {T : Tr Value} {M : Mem} {r : AR} (h : aop0 P GL o T = some r) : aop P GL callF o T M = some (0, r, M) := by
  unfold aop; rw [h]

theorem fV_inv {v : Option Value} {M : Mem} {r : Ans} (h : fV v M = some r) : ∃ u, v = some u ∧ r = (0, .val u, M) := by
  cases v with
  | none => cases h
  | some u => simp only [fV, Option.some.injEq] at h; exact ⟨u, rfl, h.symm⟩

theorem fquick_sound {o : Oper} {T : Tr Value} {M : Mem} {r : Ans} (h : fquick P GL callF o.op T M = some r) : aop P GL callF o T M = some r := by
  obtain ⟨dst, op, type, pos, after, guard⟩ := o
  cases op <;> simp only [fquick] at h <;> try (cases h; done)
  case move x =>
    obtain ⟨u, hu, rfl⟩ := fV_inv h
    exact aop_of_zero (by simp only [aop0, hu, valO])
  case assign x =>
    obtain ⟨u, hu, rfl⟩ := fV_inv h
    exact aop_of_zero (by simp only [aop0, hu, valO])
  case nilCheck x =>
    unfold fNc at h
    split at h
    · rename_i a hx
      cases h
      exact aop_of_zero (by simp only [aop0, hx])
    · cases h
  case fieldAddr s x f =>
    unfold fFa at h
    split at h
    · rename_i v hx
      obtain ⟨u, hu, rfl⟩ := fV_inv h
      exact aop_of_zero (by simp only [aop0, hx, hu, valO])
    · cases h
  case load t x =>
    unfold fLd at h
    split at h
    · rename_i a hx
      split at h
      · rename_i v hv
        cases h
        exact load_aop rfl hx hv
      · cases h
    · cases h
  case store t x y =>
    unfold fSt at h
    split at h
    · rename_i a v hx hy
      split at h
      · rename_i M' hs
        cases h
        exact store_aop rfl hx hy hs
      · cases h
    · cases h
  case indexAddr t x i =>
    unfold fIa at h
    split at h
    · rename_i v j hx hi
      obtain ⟨u, hu, rfl⟩ := fV_inv h
      exact aop_of_zero (by simp only [aop0, hx, hi, hu, valO])
    · cases h
  case pick c a b =>
    unfold fPk at h
    split at h
    · rename_i t hc
      obtain ⟨u, hu, rfl⟩ := fV_inv h
      exact aop_of_zero (by simp only [aop0, hc, hu, valO])
    · cases h
  case extract x i =>
    unfold fEx at h
    split at h
    · rename_i vs hx
      obtain ⟨u, hu, rfl⟩ := fV_inv h
      rw [Array.getElem?_toList] at hu
      exact aop_of_zero (by simp only [aop0, hx, hu, valO])
    · cases h
  case binOp bop t x y yt =>
    unfold fBin at h
    split at h
    · rename_i k a k' b hx hy
      cases hk : kEq k k' <;> simp only [hk, cond_true, cond_false] at h
      · cases h
      · obtain rfl := kEq_eq hk
        obtain ⟨u, hu, rfl⟩ := fV_inv h
        have hp : ∀ v : Next, pureRun P (pure v) = some v := fun v => rfl
        refine aop_of_zero ?_
        cases bop <;> simp only [fbin, Option.some.injEq] at hu <;> try (cases hu; done)
        all_goals
          subst hu
          simp [aop0, orFlat, aflat, Op.operands, evs, hx, hy, flatL, flat, execOp, eqGuard, binOp, Op.intArith, Op.intCmp, hp]
    · cases h
  case index t x ix =>
    unfold fIdx at h
    split at h
    · rename_i s k i hx hi ht
      split at h
      · rename_i b hb
        cases h
        have hp : ∀ v : Next, pureRun P (pure v) = some v := fun v => rfl
        have hpv : ∀ (v : Next) (k : Program → Sem Next), pureRun P (.program k) = pureRun P (k P) := fun v k => rfl
        have hs : s[i]? = some b := by
          have hlt : i < s.size := by
            have := (List.getElem?_eq_some_iff.1 hb).1
            simpa using this
          rw [getElem?_pos s i hlt]
          have h2 := (List.getElem?_eq_some_iff.1 hb).2
          congr 1
        refine aop_of_zero ?_
        have hrun : pureRun P (execOp (fun x => (ev GL T x).getD undef) ⟨dst, .index t x ix, type, pos, after, guard⟩) = some (.value (.int .u8 b.toNat)) := by
          simp [execOp, Instr.index, asIntOf, underlying, program, bind, Sem.bind, pureRun, pure, hx, hi, ht, hs]
        simp [aop0, orFlat, aflat, Op.operands, evs, hx, hi, flatL, flat, hrun]
      · cases h
    · cases h
  case call c =>
    obtain ⟨callee, args, argTypes⟩ := c
    unfold fcall at h
    simp only at h
    split at h
    · rename_i g
      unfold fCl at h
      split at h
      · rename_i as has
        cases hb : hasBody P g <;> simp only [hb, cond_true, cond_false] at h
        · cases h
        · have hne : r.1 ≠ 0 := by
            unfold acall at h
            split at h
            · split at h <;> (simp only [Option.some.injEq] at h; subst h; exact fun h => by cases h)
            · cases h
          unfold aop
          have h0 : aop0 P GL ⟨dst, .call ⟨.value (.func g), args, argTypes⟩, type, pos, after, guard⟩ T = none := by
            simp only [aop0, ev, target, hb, cond_true]
          have h1 : aop1 P GL callF ⟨dst, .call ⟨.value (.func g), args, argTypes⟩, type, pos, after, guard⟩ T M = some r := by
            simp only [aop1, ev, has, target, hb, cond_true]
            simpa using h
          rw [h0]
          simp only [h1]
          obtain ⟨k, v, M'⟩ := r
          cases k with
          | zero => exact absurd rfl hne
          | succ k => rfl
      · cases h
    · unfold fLen at h
      split at h
      · rename_i s has ht
        cases h
        obtain ⟨t, ht1, ht2⟩ := Option.bind_eq_some_iff.1 ht
        have hp : ∀ v : Next, pureRun P (pure v) = some v := fun v => rfl
        refine aop_of_zero ?_
        have h1 : (Call.operands ⟨.builtin .len, args, argTypes⟩).toList = args.toList := by simp [Call.operands]
        have hrun : pureRun P (execOp (fun x => (ev GL T x).getD undef) ⟨dst, .call ⟨.builtin .len, args, argTypes⟩, type, pos, after, guard⟩) = some (.value (.int .i64 s.size)) := by
          have hargs : args.map (fun x => (ev GL T x).getD undef) = #[.string s] := by
            apply Array.ext'
            rw [Array.toList_map]
            cases hl : args.toList with
            | nil => rw [hl] at has; simp [evs] at has
            | cons x l =>
              rw [hl] at has
              cases l with
              | nil =>
                simp only [evs] at has
                cases hx : ev GL T x with
                | none => rw [hx] at has; simp at has
                | some v => rw [hx] at has; simp at has; simp [hx, has]
              | cons y l =>
                simp only [evs] at has
                cases hx : ev GL T x <;> cases hy : ev GL T y <;> cases hr : evs GL T l <;> rw [hx, hy, hr] at has <;> simp at has
          simp [execOp, resolve, invoke, builtin, Builtin.len_, bind, Sem.bind, pureRun, pure, hargs, goInt, ht1, underlying, program, ht2]
        simp only [aop0, orFlat, aflat, Op.operands, h1, has, flatL, flat, hrun, Bool.and_self, cond_true]
      · rename_i a n cp e has ht
        cases h
        have h1 : (Call.operands ⟨.builtin .len, args, argTypes⟩).toList = args.toList := by simp [Call.operands]
        refine aop_of_zero ?_
        simp only [aop0, orFlat, aflat, Op.operands, h1, has, flatL, flat, ht, valO, Option.isNone, Bool.false_and, cond_false]
      · cases h
    · cases h

/- A region that only reads: in the text's order. -/
def quietOp (o : Oper) : Bool :=
  match o.op with
  | .move _ | .assign _ | .pick _ _ _ | .nilCheck _ | .binOp _ _ _ _ _ | .unOp _ _ _ | .fieldAddr _ _ _ | .field _ _ _ | .indexAddr _ _ _ | .index _ _ _ | .extract _ _ | .load _ _ | .build _ _ | .makeInterface _ _ => true
  | .call c => (match c.callee with | .builtin .len => true | _ => false)
  | _ => false

theorem quiet_aop {o : Oper} {T : Tr Value} {M M' : Mem} {k : Nat} {r : AR} (hq : quietOp o = true) (h : aop P GL callF o T M = some (k, r, M')) : M' = M ∧ k ≤ 1 := by
  obtain ⟨dst, op, type, pos, after, guard⟩ := o
  unfold aop at h
  split at h
  · simp at h
    obtain ⟨rfl, _, rfl⟩ := h
    exact ⟨rfl, by omega⟩
  · rename_i h0
    clear h0
    replace h : aop1 P GL callF { dst := dst, op := op, type := type, pos := pos, after := after, guard := guard } T M = some (k, r, M') := by
      split at h
      · cases h
      · exact h
    cases op <;> simp [quietOp] at hq <;> simp only [aop1] at h <;> try (cases h; done)
    case load t x =>
      split at h <;> try (simp at h; done)
      split at h <;> try (simp at h; done)
      simp at h
      obtain ⟨rfl, _, rfl⟩ := h
      exact ⟨rfl, Nat.le_refl _⟩
    case call c =>
      obtain ⟨callee, args, argTypes⟩ := c
      cases callee with
      | builtin b => cases b <;> simp at hq <;> simp at h
      | value f => simp at hq
      | invoke x n => simp at hq

theorem hides_same {deps : Nat} : ∀ {dn : List Done}, (∀ d ∈ dn, d.lo = d.hi) → hides deps dn = []
  | [], _ => rfl
  | x :: dn, h => by
    unfold hides
    have : (Nat.beq x.loud 0 || deps.testBit x.ix || Nat.beq x.lo x.hi) = true := by simp [h x (by simp)]
    rw [this]
    exact hides_same fun d hd => h d (by simp [hd])

theorem mayAll_quiet {deps k : Nat} (hk : k ≤ 1) : ∀ {dn : List Done}, (∀ d ∈ dn, d.loud ≤ 1) → mayAll deps k dn = true
  | [], _ => rfl
  | x :: dn, h => by
    have h1 := h x (by simp)
    have h2 := mayAll_quiet (deps := deps) hk (dn := dn) fun d hd => h d (List.mem_cons_of_mem _ hd)
    simp only [mayAll, h2, Bool.and_true, Bool.or_eq_true, Bool.and_eq_true, Nat.beq_eq]
    rcases Nat.eq_zero_or_pos x.loud with h3 | h3 <;> rcases Nat.eq_zero_or_pos k with h4 | h4
    · exact .inl (.inl (.inl h3))
    · exact .inl (.inl (.inl h3))
    · exact .inl (.inl (.inr h4))
    · exact .inr ⟨by omega, by omega⟩

theorem adraw_of_aseq {ops : Array Oper} {before : List Nat} : ∀ (l : List Oper) (i : Nat) (dn : List Done) (s s' : St), (∀ o ∈ l, quietOp o = true) → (∀ d ∈ dn, d.lo = d.hi ∧ d.loud ≤ 1) → (∀ j, j < l.length → ∃ d, before[i + j]? = some d) →
    aseq P GL callF ops l s = some s' → adraw P GL callF ops before l i dn s = some s'
  | [], i, dn, s, s', _, _, _, h => h
  | o :: l, i, dn, s, s', hq, hd, hb, h => by
    obtain ⟨d, hbd⟩ := hb 0 (by simp)
    have hb' : ∀ j, j < l.length → ∃ d, before[i + 1 + j]? = some d := fun j hj => by
      obtain ⟨d, h⟩ := hb (j + 1) (by simp; omega)
      exact ⟨d, by rw [show i + 1 + j = i + (j + 1) by omega]; exact h⟩
    simp only [Nat.add_zero] at hbd
    have hq' : ∀ o ∈ l, quietOp o = true := fun o h => hq o (List.mem_cons_of_mem _ h)
    simp only [aseq] at h
    simp only [adraw, hbd, hides_same fun d h => (hd d h).1]
    have hs : ({ s.M with hide := [] ++ s.M.hide } : Mem) = s.M := rfl
    rw [hs]
    split at h
    · rename_i hw
      simp only [hw]
      split at h
      · rename_i k r M' hop
        obtain ⟨rfl, hk⟩ := quiet_aop (hq o (List.mem_cons_self ..)) hop
        simp only [mayAll_quiet hk fun d h => (hd d h).2, cond_true]
        have hs2 : ({ s with M := { s.M with hide := s.M.hide } } : St) = { s with M := s.M } := rfl
        rw [hs2]
        split at h
        · rename_i s1 hp
          simp only [hp]
          exact adraw_of_aseq l _ _ s1 s' hq' (fun d h => by
            rcases List.mem_cons.1 h with rfl | h
            · exact ⟨rfl, hk⟩
            · exact hd d h) hb' h
        · cases h
      · cases h
    · rename_i hw
      simp only [hw]
      cases hp : aput o .skip s with
      | none => rw [hp] at h; cases h
      | some s1 =>
        rw [hp] at h
        exact adraw_of_aseq l _ _ s1 s' hq' hd hb' h
    · cases h

theorem quiet_call {o : Oper} (h : quietOp o = true) : callOp o = false := by
  obtain ⟨dst, op, type, pos, after, guard⟩ := o
  cases op <;> simp [quietOp] at h <;> simp [callOp]
  rename_i c
  obtain ⟨callee, args, argTypes⟩ := c
  simp only at h ⊢
  split at h
  · rfl
  · cases h

theorem freeBeside_none {i di : Nat} : ∀ {ops : List Oper} {before : List Nat} {j : Nat}, (∀ o ∈ ops, callOp o = false) → freeBeside i di ops before j = false
  | [], _, _, _ => rfl
  | o :: l, [], _, _ => rfl
  | o :: l, d :: ds, j, h => by
    simp only [freeBeside, h o (by simp), Bool.false_and, Bool.false_or]
    exact freeBeside_none fun o h' => h o (by simp [h'])

theorem stillOps_none {ops : List Oper} {before : List Nat} (h : ∀ o ∈ ops, callOp o = false) : ∀ (l : List Oper) (ds : List Nat) (i : Nat), stillOps ops before l ds i = []
  | [], _, _ => rfl
  | o :: l, [], _ => rfl
  | o :: l, d :: ds, i => by
    simp only [stillOps, freeBeside_none h, Bool.and_false, cond_false]
    exact stillOps_none h l ds (i + 1)

theorem adrawn_of_aseq {ops : Array Oper} {s s' : St} (hq : ops.toList.all quietOp = true) (h : aseq P GL callF ops ops.toList s = some s') : adrawn P GL callF ops s = some s' := by
  have hq' : ∀ o ∈ ops.toList, quietOp o = true := fun o ho => List.all_eq_true.1 hq o ho
  have hlf : lastFree ops.toList (befores ops.toList []) = none := by
    cases hl : lastFree ops.toList (befores ops.toList []) with
    | none => rfl
    | some f =>
      unfold lastFree at hl
      split at hl
      · rename_i f' d hf hd
        have hc := quiet_call (hq' f' (List.mem_of_getElem? hf))
        have hst : storeOp f' = false := by
          cases hs : storeOp f' with
          | false => rfl
          | true =>
            unfold storeOp at hs
            unfold callOp at hc
            split at hs
            · rename_i heq; rw [heq] at hc; simp at hc
            · cases hs
        simp [hst] at hl
      · cases hl
  have hst := stillOps_none (before := befores ops.toList []) (fun o ho => quiet_call (hq' o ho)) ops.toList (befores ops.toList []) 0
  simp only [adrawn, hlf, adrawn0, hst]
  refine adraw_of_aseq _ _ _ _ _ hq' (fun d hd => by cases hd) (fun j hj => ?_) h
  have hb := (befores_spec ops.toList []).2.2 j ops.toList[j] (by simp)
  obtain ⟨d, h1, _⟩ := hb
  simp only [List.length_nil, Nat.zero_add] at h1
  exact ⟨d, by rw [Nat.zero_add]; exact h1⟩

/- Regions, quicker. -/
def fput (o : Oper) (ih : St → Option St) (r : Out) (s : St) : Option St :=
  match r with
  | some (_, r, M') => match aput o r { s with M := M' } with
    | some s' => ih s'
    | none => none
  | none => none
def fskip (o : Oper) (ih : St → Option St) (s : St) : Option St :=
  match aput o .skip s with
  | some s' => ih s'
  | none => none
def fone (opf : OpF) (ops : Array Oper) (o : Oper) (ih : St → Option St) (s : St) : Option St :=
  match awanted ops s.T o with
  | some true => fput o ih (opf o s.T s.M) s
  | some false => fskip o ih s
  | none => none
def fseq (opf : OpF) (ops : Array Oper) (l : List Oper) : St → Option St :=
  List.rec (motive := fun _ => St → Option St) (fun s => some s) (fun o _ ih s => fone opf ops o ih s) l

theorem fseq_sound {opf : OpF} (hO : ∀ o T M r, opf o T M = some r → aop P GL callF o T M = some r) {ops : Array Oper} : ∀ (l : List Oper) (s s' : St), fseq opf ops l s = some s' → aseq P GL callF ops l s = some s'
  | [], s, s', h => h
  | o :: l, s, s', h => by
    have h' : fone opf ops o (fseq opf ops l) s = some s' := h
    unfold fone at h'
    simp only [aseq]
    split at h'
    · rename_i hw
      simp only [hw]
      unfold fput at h'
      split at h'
      · rename_i k r M' hop
        simp only [hO _ _ _ _ hop]
        split at h'
        · rename_i s1 hp
          simp only [hp]
          exact fseq_sound hO l s1 s' h'
        · cases h'
      · cases h'
    · rename_i hw
      simp only [hw]
      unfold fskip at h'
      cases hp : aput o .skip s with
      | none => rw [hp] at h'; cases h'
      | some s1 =>
        rw [hp] at h'
        exact fseq_sound hO l s1 s' h'
    · cases h'

def fregion (P : Program) (GL : List Nat) (callF : CallF) (ops : Array Oper) (draw : Bool) (s : St) : Option St :=
  bif draw then
    bif lexOk ops then
      bif ops.toList.all quietOp then fseq (faop P GL callF) ops ops.toList s else adrawn P GL callF ops s
    else none
  else fseq (faop P GL callF) ops ops.toList s

def fnorm (s : Option St) : Option (AExit × St) := match s with | some s' => some (.normal, s') | none => none

def fthen (k : St → Option (AExit × St)) (r : Option (AExit × St)) : Option (AExit × St) :=
  match r with
  | some (.normal, s') => k s'
  | r => r

def fcond (ih : Code → St → Option (AExit × St)) (c : Option Value) (x y : Code) (s : St) : Option (AExit × St) :=
  match c with
  | some (.bool t) => ih (bif t then x else y) s
  | _ => none

def fstep (P : Program) (GL : List Nat) (SP : Specs) (ih : Code → St → Option (AExit × St)) (c : Code) (s : St) : Option (AExit × St) :=
  match c with
  | .skip => some (.normal, s)
  | .region _ ops draw => fnorm (fregion P GL (viaSpecs SP (aenter P ih)) ops draw s)
  | .seq a b => fthen (ih b) (ih a s)
  | .cond c x y => fcond ih (ev GL s.T c) x y s
  | .loop b => fthen (ih (.loop b)) (ih b s)
  | c => astep P GL SP ih c s

def fexec (P : Program) (GL : List Nat) (SP : Specs) (n : Nat) : Code → St → Option (AExit × St) :=
  Nat.rec (fun _ _ => none) (fun _ ih => fstep P GL SP ih) n

def frun (P : Program) (GL : List Nat) (SP : Specs) (n : Nat) : FuncId → List Value → Mem → Option (Value × Mem) := aenter P (fexec P GL SP n)

theorem faop_sound {o : Oper} {T : Tr Value} {M : Mem} {r : Ans} (h : faop P GL callF o T M = some r) : aop P GL callF o T M = some r := by
  unfold faop fOr at h
  split at h
  · rename_i r' hr
    cases h
    exact fquick_sound hr
  · exact h

theorem fregion_sound {ops : Array Oper} {draw : Bool} {s s' : St} (h : fregion P GL callF ops draw s = some s') :
    (draw = false ∧ aseq P GL callF ops ops.toList s = some s') ∨ (draw = true ∧ lexOk ops = true ∧ adrawn P GL callF ops s = some s') := by
  unfold fregion at h
  cases draw <;> simp only [cond_true, cond_false] at h
  · exact .inl ⟨rfl, fseq_sound (fun _ _ _ _ => faop_sound) _ _ _ h⟩
  · cases hl : lexOk ops <;> simp only [hl, cond_true, cond_false] at h
    · cases h
    · cases hq : ops.toList.all quietOp <;> simp only [hq, cond_true, cond_false] at h
      · exact .inr ⟨rfl, rfl, h⟩
      · exact .inr ⟨rfl, rfl, adrawn_of_aseq hq (fseq_sound (fun _ _ _ _ => faop_sound) _ _ _ h)⟩

theorem fstep_sound {SP : Specs} {ih ih' : Code → St → Option (AExit × St)} (hi : ∀ c s r, ih c s = some r → ih' c s = some r) (c : Code) (s : St) (r : AExit × St) (h : fstep P GL SP ih c s = some r) : astep P GL SP ih' c s = some r := by
  refine astep_more hi c s r ?_
  unfold fstep at h
  split at h
  · simpa [astep] using h
  · rename_i ops draw
    cases hr : fregion P GL (viaSpecs SP (aenter P ih)) ops draw s with
    | none => rw [hr] at h; cases h
    | some s' =>
      rw [hr] at h
      simp only [fnorm, Option.some.injEq] at h
      subst h
      rcases fregion_sound hr with ⟨rfl, h1⟩ | ⟨rfl, h1, h2⟩
      · simp only [astep, cond_false, h1]
      · simp only [astep, cond_true, h1, h2]
  · simp only [astep]
    unfold fthen at h
    split at h
    · rename_i heq; rw [heq]; exact h
    · rename_i hne
      split
      · rename_i s' heq; exact absurd heq (hne s')
      · exact h
  · simp only [astep]
    exact h
  · simp only [astep]
    unfold fthen at h
    split at h
    · rename_i heq; rw [heq]; exact h
    · rename_i hne
      split
      · rename_i s' heq; exact absurd heq (hne s')
      · exact h
  · exact h

theorem fexec_sound {SP : Specs} : ∀ (n : Nat) (c : Code) (s : St) (r : AExit × St), fexec P GL SP n c s = some r → aexec P GL SP n c s = some r
  | 0, c, s, r, h => by cases h
  | n + 1, c, s, r, h => fstep_sound (fexec_sound n) c s r h

theorem frun_arun {SP : Specs} {n : Nat} {f : FuncId} {args : List Value} {M : Mem} {r : Value × Mem} (h : frun P GL SP n f args M = some r) : arun P GL SP n f args M = some r :=
  aenter_more (fexec_sound n) f args M r h

theorem SpecOk.frun (hN : noNum P) (hm : P.follows .mixedOrders = true) {SP : Specs} (hS : SpecsOk P GL B SP) (n : Nat) (f : FuncId) : SpecOk P GL B f (Go.Am.frun P GL SP n f) :=
  ⟨fun args M v M' h => arun_abs hN hm hS n f args M v M' (frun_arun h), fun _ _ _ _ h _ _ hR hG args' ha => arun_calls hN hm hS n (frun_arun h) hR hG args' ha⟩
end Go.Am
end
