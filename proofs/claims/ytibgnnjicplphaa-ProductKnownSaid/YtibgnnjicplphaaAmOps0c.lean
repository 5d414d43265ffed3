/-
  THE ABSTRACT MACHINE: operations that look at no memory: all of them.
-/
import Derived.Test.YtibgnnjicplphaaAmOps0b
import Derived.Lib.UnsafeStr
namespace Go.Am
open Go

variable {P : Program} {GL : List Nat} {φ : Emb} {T : Tr Value} {n : Nat} {a : Act} {w : World}

theorem valO_some {v : Option Value} {r : AR} (h : valO v = some r) : ∃ u, v = some u ∧ r = .val u := by
  cases v with
  | none => simp [valO] at h
  | some u => simp [valO] at h; exact ⟨u, rfl, h.symm⟩

theorem orFlat_sound (hg : GRel GL φ) (hT : TRel φ T n a.tmps) {o : Oper} (hs : ∀ cs b, o.op ≠ .select cs b) {r : AR} {b : Option Value} (h : orFlat P GL o T b = some r)
    (hb : ∀ v, b = some v → ∃ v', (execOp a.eval o).run P w = .ok (.value v') w ∧ VRel φ v v') :
    ∃ v, r = .val v ∧ ∃ v', (execOp a.eval o).run P w = .ok (.value v') w ∧ VRel φ v v' := by
  unfold orFlat at h
  split at h
  · rename_i r' hr
    simp at h; subst h
    exact aflat_sound hg hT hs hr
  · obtain ⟨u, hu, rfl⟩ := valO_some h
    exact ⟨u, rfl, hb u hu⟩

theorem execOp_val {o : Oper} {s : Sem Value} {v : Value} {w w' : World} (he : execOp a.eval o = (do pure (.value (← s)))) (h : s.run P w = .ok v w') :
    (execOp a.eval o).run P w = .ok (.value v) w' := by
  rw [he]; simp [h]

set_option maxHeartbeats 1000000 in
theorem aop0_sound (hg : GRel GL φ) (hT : TRel φ T n a.tmps) {o : Oper} {r : AR} (h : aop0 P GL o T = some r) :
    ∃ v, r = .val v ∧ ∃ v', (execOp a.eval o).run P w = .ok (.value v') w ∧ VRel φ v v' := by
  obtain ⟨dst, op, type, pos, after, guard⟩ := o
  unfold aop0 at h
  split at h <;> rename_i hop <;> simp only at hop
  case h_1 x | h_2 x =>
    subst hop
    obtain ⟨u, hu, rfl⟩ := valO_some h
    exact ⟨u, rfl, _, rfl, ev_sound hg hT hu⟩
  case h_3 c x y =>
    subst hop
    split at h
    · rename_i t hc
      obtain ⟨u, hu, rfl⟩ := valO_some h
      have h1 := (ev_sound hg hT hc).bool_inv
      have h2 := ev_sound hg hT hu
      refine ⟨u, rfl, a.eval (bif t then x else y), ?_, h2⟩
      simp only [execOp, h1, asBool]
      cases t <;> simp
    · simp at h
  case h_4 t parts =>
    subst hop
    split at h
    · rename_i ps hps
      obtain ⟨u, hu, rfl⟩ := valO_some h
      have h1 := evParts_sound hg hT hps
      obtain ⟨v', e1, e2⟩ := build_sound (w := w) (ps' := parts.map fun (i, x) => (i, a.eval x)) (by simpa using h1.1) (by simpa using h1.2) hu
      exact ⟨u, rfl, v', execOp_val rfl e1, e2⟩
    · simp at h
  case h_5 x =>
    subst hop
    split at h
    · rename_i ad hx
      simp at h; subst h
      have h1 := ev_sound hg hT hx
      obtain ⟨ad', h2, h3⟩ := h1.ptr_inv
      exact ⟨_, rfl, _, by simp [execOp, h2], .ptr h3⟩
    · rename_i t v hx
      simp at h; subst h
      have h1 := ev_sound hg hT hx
      obtain ⟨u, h2, h3⟩ := h1.iface_inv
      exact ⟨_, rfl, _, by simp [execOp, h2], .iface h3⟩
    · rename_i f x1 y1 hx
      simp at h; subst h
      have h1 := ev_sound hg hT hx
      obtain ⟨u, u2, h2, h3⟩ := h1.func_inv rfl
      exact ⟨_, rfl, .func (.func f) u u2, by simp [execOp, h2], by rw [← h2]; exact h1⟩
    · simp at h
  case h_6 bop t x y yt =>
    subst hop
    refine orFlat_sound hg hT (by simp) h fun v hv => ?_
    split at hv
    · rename_i u1 u2 h1 h2
      split at hv
      · rename_i r hr
        simp at hv; subst hv
        obtain ⟨⟨e1, _⟩, e2⟩ := aeql_sound (w := w) (ev_sound hg hT h1) (ev_sound hg hT h2) hr
        exact ⟨_, execOp_val rfl (by simp only [Sem.run_bind, e2, Result.andThen_ok, e1]), .leaf rfl⟩
      · simp at hv
    · rename_i u1 u2 h1 h2
      split at hv
      · rename_i r hr
        simp at hv; subst hv
        obtain ⟨⟨_, e1⟩, e2⟩ := aeql_sound (w := w) (ev_sound hg hT h1) (ev_sound hg hT h2) hr
        exact ⟨_, execOp_val rfl (by simp only [Sem.run_bind, e2, Result.andThen_ok, e1]), .leaf rfl⟩
      · simp at hv
    · simp at hv
  case h_7 xT x =>
    subst hop
    split at h
    · rename_i d v hd hx
      cases hi : isIfaceD d <;> simp only [hi, cond_true, cond_false] at h
      · simp at h; subst h
        refine ⟨_, rfl, .iface xT (a.eval x), execOp_val rfl ?_, .iface (ev_sound hg hT hx)⟩
        simp only [Instr.makeInterface, Sem.run_bind, run_underlying' xT hd, Result.andThen_ok]
        cases d <;> first | rfl | simp [isIfaceD] at hi
      · simp at h
    · simp at h
  case h_8 fn first captured =>
    subst hop
    split at h
    · rename_i l1 l2 h1 h2
      cases hyf : isYield fn <;> simp only [hyf, cond_true, cond_false] at h
      case true => cases h
      simp at h; subst h
      refine ⟨_, rfl, .func fn (first.map a.eval) (captured.map a.eval), rfl, ?_⟩
      have e1 := evs_sound hg hT h1
      have e2 := evs_sound hg hT h2
      have h3 : first.map a.eval = ⟨first.toList.map a.eval⟩ := by apply Array.ext'; simp
      have h4 : captured.map a.eval = ⟨captured.toList.map a.eval⟩ := by apply Array.ext'; simp
      rw [h3, h4]
      exact VRel.func (fn := fn) hyf e1 e2
    · simp at h
  case h_9 s x f =>
    subst hop
    split at h
    · rename_i v hx
      obtain ⟨u, hu, rfl⟩ := valO_some h
      obtain ⟨v', e1, e2⟩ := fieldAddr_sound (w := w) (ev_sound hg hT hx) hu
      exact ⟨u, rfl, v', execOp_val rfl e1, e2⟩
    · simp at h
  case h_10 s x f =>
    subst hop
    split at h
    · rename_i v hx
      obtain ⟨u, hu, rfl⟩ := valO_some h
      obtain ⟨v', e1, e2⟩ := field_sound (w := w) (ev_sound hg hT hx) hu
      exact ⟨u, rfl, v', execOp_val rfl e1, e2⟩
    · simp at h
  case h_11 t x ix =>
    subst hop
    split at h
    · rename_i v i hx hi
      obtain ⟨u, hu, rfl⟩ := valO_some h
      obtain ⟨v', e1, e2⟩ := indexAddr_sound (w := w) (ev_sound hg hT hx) (ev_sound hg hT hi) hu
      exact ⟨u, rfl, v', execOp_val rfl e1, e2⟩
    · simp at h
  case h_12 t x ix =>
    subst hop
    refine orFlat_sound hg hT (by simp) h fun v hv => ?_
    split at hv
    · rename_i v i hx hi
      obtain ⟨v', e1, e2⟩ := index_sound (w := w) (ev_sound hg hT hx) (ev_sound hg hT hi) hv
      exact ⟨v', execOp_val rfl e1, e2⟩
    · simp at hv
  case h_13 x xT asserted ok =>
    subst hop
    split at h
    · rename_i v hx
      obtain ⟨u, hu, rfl⟩ := valO_some h
      obtain ⟨v', e1, e2⟩ := typeAssert_sound (w := w) (xT := xT) (ev_sound hg hT hx) hu
      exact ⟨u, rfl, v', execOp_val rfl e1, e2⟩
    · simp at h
  case h_14 x i =>
    subst hop
    split at h
    · rename_i vs hx
      obtain ⟨u, hu, rfl⟩ := valO_some h
      obtain ⟨vs', e1, e2⟩ := (ev_sound hg hT hx).tuple_inv
      obtain ⟨v', e3, e4⟩ := e2.get (j := i) (v := u) (by simpa using hu)
      have e3' : vs'[i]? = some v' := by simpa using e3
      exact ⟨u, rfl, v', execOp_val rfl (by simp [Instr.extract, e1, e3']), e4⟩
    · simp at h
  case h_15 c =>
    subst hop
    split at h
    · rename_i hc
      refine orFlat_sound hg hT (by simp) h fun v hv => ?_
      split at hv
      · rename_i ad l cp e hx ht
        simp at hv; subst hv
        obtain ⟨callee, args, argTypes⟩ := c
        simp only at hc hx ht
        subst hc
        have h1 := evs_sound hg hT hx
        cases hr : argTypes[0]? with
        | none => simp [hr] at ht
        | some t0 =>
          simp only [hr, Option.bind_some] at ht
          generalize hm : args.toList.map a.eval = m at h1
          cases h1 with
          | cons k1 k2 =>
            cases k2
            obtain ⟨ad', c', rfl⟩ := k1.slice_sh
            have hm' : args.map a.eval = #[.slice (some ad') l c'] := by apply Array.ext'; simpa using hm
            refine ⟨.int .i64 l, ?_, .leaf rfl⟩
            simp [execOp, resolve, invoke, builtin, hm', Builtin.len_, hr, run_underlying' t0 ht, goInt]
      · simp at hv
    · split at h
      · split at h
        · rename_i g _ _ _
          cases hb : hasBody P g <;> simp only [hb, cond_true, cond_false] at h
          · exact aflat_sound hg hT (by simp) h
          · cases h
        · cases h
      · cases h
    · cases h
    · cases h
    · cases h
    · rename_i hc
      refine orFlat_sound hg hT (by simp) h fun v hv => ?_
      split at hv
      · rename_i ad l cp hx
        cases hz : Nat.beq l 0 <;> simp only [hz, cond_true, cond_false] at hv
        · simp at hv; subst hv
          obtain ⟨callee, args, argTypes⟩ := c
          simp only at hc hx
          subst hc
          have h1 := evs_sound hg hT hx
          generalize hm : args.toList.map a.eval = m at h1
          cases h1 with
          | cons k1 k2 =>
            cases k2
            rcases k1.slice_or with ⟨ad', c', rfl, s1, s2, s3, s4, e, s5, s6⟩ | ⟨_, _, hl0, _, _⟩
            case inr => rw [hl0] at hz; exact absurd hz (by decide)
            have hm' : args.map a.eval = #[.slice (some ad') l c'] := by apply Array.ext'; simpa using hm
            have hl : l ≠ 0 := fun h0 => by rw [h0] at hz; exact absurd hz (by decide)
            have hc0 : c' ≠ 0 := by omega
            obtain ⟨t1, t2, _⟩ := s6.resolve_left hc0
            refine ⟨.pointer (some ad'), ?_, .ptr ⟨s1, s2, e, s5, t1, t2⟩⟩
            have := Go.Lib.run_unsafeSliceData_row (P := P) w argTypes type ad' l c' hc0
            simp [execOp, resolve, invoke, builtin, hm', this]
        · cases hv
      · cases hv
    · exact aflat_sound hg hT (by simp) h
  case h_16 x _ _ _ =>
    subst hop
    split at h
    · exact aflat_sound hg hT (by simp) h
    · cases h
  case h_17 dst x =>
    subst hop
    split at h
    · cases h
    · split at h
      · cases h
      · exact aflat_sound hg hT (by simp) h
  all_goals first
    | (cases h; done)
    | exact aflat_sound hg hT (by intro cs b e; simp only at e; subst e; simp_all) h
end Go.Am
