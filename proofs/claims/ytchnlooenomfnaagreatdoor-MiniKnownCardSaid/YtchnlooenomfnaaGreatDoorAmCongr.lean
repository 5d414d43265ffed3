/-
  THE ABSTRACT MACHINE: an operation hangs on the slots that it looks at, alone.
-/
import Derived.Test.YtchnlooenomfnaaGreatDoorAmSeq
namespace Go.Am
open Go

variable {P : Program} {GL : List Nat} {T T' : Tr Value}

theorem evs_congr : ∀ {l : List Operand}, (∀ x ∈ l, ev GL T x = ev GL T' x) → evs GL T l = evs GL T' l
  | [], _ => rfl
  | x :: l, h => by
    simp only [evs]
    rw [h x (by simp), evs_congr (l := l) fun y hy => h y (by simp [hy])]

theorem evParts_congr : ∀ {l : List (Nat × Operand)}, (∀ x ∈ l.map (·.2), ev GL T x = ev GL T' x) → evParts GL T l = evParts GL T' l
  | [], _ => rfl
  | (i, x) :: l, h => by
    simp only [evParts]
    rw [h x (by simp), evParts_congr (l := l) fun y hy => h y (by simp at hy ⊢; exact .inr hy)]

theorem aflat_congr {o : Oper} (hs : ∀ cs b, o.op ≠ .select cs b) (h : ∀ x ∈ o.op.operands, ev GL T x = ev GL T' x) : aflat P GL o T = aflat P GL o T' := by
  unfold aflat
  rw [evs_congr (T' := T') (l := o.op.operands.toList) fun x hx => h x (by simpa using hx),
    execOp_congr (ρ := fun x => (ev GL T x).getD undef) (ρ' := fun x => (ev GL T' x).getD undef) o hs fun x hx => by simp only [h x hx]]

set_option maxHeartbeats 1000000 in
theorem aop0_congr {o : Oper} (h : ∀ x ∈ o.op.operands, ev GL T x = ev GL T' x) : aop0 P GL o T = aop0 P GL o T' := by
  have hf : (∀ cs b, o.op ≠ .select cs b) → aflat P GL o T = aflat P GL o T' := fun hs => aflat_congr hs h
  obtain ⟨dst, op, type, pos, after, guard⟩ := o
  cases op <;> simp only [Op.operands] at h <;> simp only [aop0]
  case move x => rw [h x (by simp)]
  case assign x => rw [h x (by simp)]
  case pick c a b => rw [h c (by simp)]; split <;> first | rfl | (rename_i t _; cases t <;> simp only [cond_true, cond_false] <;> rw [h _ (by simp)])
  case build t parts => rw [evParts_congr (T' := T') fun x hx => h x (by simpa using hx)]
  case nilCheck x => rw [h x (by simp)]
  case binOp op t x y yt => unfold orFlat; rw [hf (by simp), h x (by simp), h y (by simp)]
  case makeInterface t x => rw [h x (by simp)]
  case makeFunc fn first captured => rw [evs_congr (T' := T') (l := first.toList) fun x hx => h x (by simp at hx ⊢; exact .inl hx), evs_congr (T' := T') (l := captured.toList) fun x hx => h x (by simp at hx ⊢; exact .inr hx)]
  case fieldAddr s x f => rw [h x (by simp)]
  case field s x f => rw [h x (by simp)]
  case indexAddr t x i => rw [h x (by simp), h i (by simp)]
  case index t x i => unfold orFlat; rw [hf (by simp), h x (by simp), h i (by simp)]
  case typeAssert x t a ok => rw [h x (by simp)]
  case extract x i => rw [h x (by simp)]
  case call c =>
    split
    · rename_i hc
      unfold orFlat
      rw [hf (by simp), evs_congr (T' := T') (l := c.args.toList) fun x hx => h x (by simp [Call.operands] at hx ⊢; exact .inr hx)]
    · rename_i f hc
      rw [h f (by simp [Call.operands, hc]), hf (by simp)]
    · rfl
    · rfl
    · rfl
    · rename_i hc
      unfold orFlat
      rw [hf (by simp), evs_congr (T' := T') (l := c.args.toList) fun x hx => h x (by simp [Call.operands] at hx ⊢; exact .inr hx)]
    · exact hf (by simp)
  case slice t x lo hi mx => rw [h x (by simp), hf (by simp)]
  case convert s d x => rw [h x (by simp), hf (by simp)]
  all_goals first | rfl | exact hf (by simp)

set_option maxHeartbeats 1000000 in
theorem aop1_congr {callF : CallF} {o : Oper} {M : Mem} (h : ∀ x ∈ o.op.operands, ev GL T x = ev GL T' x) : aop1 P GL callF o T M = aop1 P GL callF o T' M := by
  obtain ⟨dst, op, type, pos, after, guard⟩ := o
  cases op <;> simp only [Op.operands] at h <;> simp only [aop1]
  case box e x => rw [h x (by simp)]
  case buildSlice t n parts => rw [evParts_congr (T' := T') fun x hx => h x (by simpa using hx)]
  case load t x => rw [h x (by simp)]
  case store t x y => rw [h x (by simp), h y (by simp)]
  case convert s d x => rw [h x (by simp)]
  case makeSlice t l c => rw [h l (by simp), h c (by simp)]
  case makeMap t r =>
    cases r with
    | none => rfl
    | some y => simp only [Option.toList, evs, Option.bind]; rw [h y (by simp)]
  case lookup t x k ok => rw [h x (by simp), h k (by simp)]
  case mapUpdate t x k v => rw [h x (by simp), h k (by simp), h v (by simp)]
  case slice t x lo hi mx =>
    have hb : ∀ o : Option Operand, (∀ y, o = some y → ev GL T y = ev GL T' y) → o.bind (ev GL T) = o.bind (ev GL T') := fun o ho => by
      cases o with
      | none => rfl
      | some y => exact ho y rfl
    rw [h x (by simp), evs_congr (T' := T') (l := lo.toList ++ hi.toList ++ mx.toList) fun y hy => h y (by simp at hy ⊢; rcases hy with hy | hy | hy <;> simp [hy]),
      hb lo fun y hy => h y (by simp [hy]), hb hi fun y hy => h y (by simp [hy]), hb mx fun y hy => h y (by simp [hy])]
  case call c =>
    obtain ⟨callee, args, argTypes⟩ := c
    simp only [Call.operands] at h
    have ha : evs GL T args.toList = evs GL T' args.toList := evs_congr fun x hx => h x (by simp at hx ⊢; exact .inr hx)
    simp only [ha]
    cases callee with
    | value f => simp only; rw [h f (by simp)]
    | invoke r m => simp only; rw [h r (by simp)]
    | builtin b => cases b <;> rfl

theorem aop_congr {callF : CallF} {o : Oper} {M : Mem} (h : ∀ x ∈ o.op.operands, ev GL T x = ev GL T' x) : aop P GL callF o T M = aop P GL callF o T' M := by
  unfold aop
  rw [aop0_congr h, aop1_congr h]

theorem awanted_congr {ops : Array Oper} {o : Oper} (h : ∀ g d, o.guard = some g → (ops[g.1]?).bind (·.dst) = some d → T.get d = T'.get d) : awanted ops T o = awanted ops T' o := by
  unfold awanted
  cases hg : o.guard with
  | none => rfl
  | some g =>
    obtain ⟨j, want⟩ := g
    simp only
    cases hd : (ops[j]?).bind (·.dst) with
    | none => rfl
    | some d => simp only; rw [h _ d hg hd]
end Go.Am
