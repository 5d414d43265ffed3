/-
  Proved: of these twenty texts and words whether the word is in the text's language, as milestonelaw5.MatchKnown asks it, holds whatever the argument is. Conditions: those of the given row alone (the table math/bits.deBruijn64tab starts as the program's text lays it).
-/
import Derived.Test.YtfhopcfafbmikaaDoorAmTop
import Derived.RangeFuncRecord
noncomputable section
namespace Go.Am
open Go
variable {P : Program} {GL : List Nat} {B : Bd}
def aparams (n : Nat) : List Tmp → List Value → Tr Value → Option (Tr Value)
  | [], [], T => some T
  | t :: ts, v :: vs, T => bif Nat.blt t n then aparams n ts vs (T.set t (some v)) else none
  | _, _, _ => none
def around (P : Program) (GL : List Nat) (SP : Specs) (n : Nat) (T : Tr Value) (nt : Nat) (ps : List Tmp) (as bd : Code) (args : List Value) (M : Mem) : Option (Value × Mem) :=
  match aparams nt ps args T with
  | some T1 => match aexec P GL SP n as ⟨T1, nt, M⟩ with
    | some (.normal, s1) => match aexec P GL SP n bd s1 with
      | some (.normal, s2) => some (.bool true, s2.M)
      | _ => none
    | _ => none
  | none => none
def Specs.also (SP : Specs) (k : FuncId) (g : List Value → Mem → Option (Value × Mem)) : Specs := ⟨fun f => bif Nat.beq f k then some g else SP.calls f, SP.blocks⟩
def Mem.skip (M : Mem) : Mem := { M with blks := M.blks.set M.next none, next := M.next + 1 }
def arange (P : Program) (GL : List Nat) (SP : Specs) (n : Nat) (f : Operand) (ps : Array Tmp) (as bd : Code) (s : St) : Option (AExit × St) :=
  match ev GL s.T f with
  | some fv => match target fv with
    | some (g, first, captured) =>
      bif hasBody P g then
        match arun P GL (SP.also (YB + s.M.next) (around P GL SP n s.T s.n ps.toList as bd)) n g (first ++ [.func (.yield s.M.next) #[] #[]] ++ captured) s.M.skip with
        | some (_, M2) => some (.normal, { s with M := M2 })
        | none => none
      else none
    | none => none
  | none => none
theorem skip_get (M : Mem) (id : Nat) : M.skip.get id = if id = M.next then none else M.get id := by
  unfold Mem.skip Mem.get
  simp only [Tr.get_set]
  by_cases h : id = M.next
  · simp [h]
  · have h1 : Nat.blt id (M.next + 1) = Nat.blt id M.next := by
      rw [Bool.eq_iff_iff]
      simp only [Nat.blt, Nat.ble_eq]
      omega
    simp only [h, h1, if_false]
theorem skip_abs (M : Mem) : Abs M M.skip [] := ⟨rfl, Nat.le_succ _, rfl, fun id hid _ => by
  show (M.blks.set M.next none).get id = _
  rw [Tr.get_set, if_neg (by omega)], fun t ht => by cases ht⟩
theorem around_abs (hN : noNum P) (hm : P.follows .mixedOrders = true) {SP : Specs} (hS : SpecsOk P GL B SP) {n : Nat} {T : Tr Value} {nt : Nat} {ps : List Tmp} {as bd : Code} {args : List Value} {M : Mem} {v : Value} {M' : Mem}
    (h : around P GL SP n T nt ps as bd args M = some (v, M')) : ∃ L, Abs M M' L := by
  unfold around at h
  split at h
  · split at h
    · rename_i s1 h1
      split at h
      · rename_i s2 h2
        cases h
        obtain ⟨L1, a1⟩ := (aexec_ok hN hm hS n).abs _ _ _ _ h1
        obtain ⟨L2, a2⟩ := (aexec_ok hN hm hS n).abs _ _ _ _ h2
        exact ⟨_, a1.trans a2⟩
      · cases h
    · cases h
  · cases h
theorem Rel.poke {B1 B2 : Bd} {φ : Emb} {M : Mem} {w : World} {l : Nat} {o o1 : Obj} (h : Rel P GL B1 φ M w) (hok : ∀ k, B1.ok k → B2.ok k) (hl : w.heap[l]? = some o1) (ho1 : ∀ c t r, o1 ≠ .cells c t r)
    (hrs : ∀ x ∈ B2.rs, RndOk φ (w.putObj l o) x) : Rel P GL B2 φ M (w.putObj l o) := by
  refine ⟨fun id b hb => ?_, h.sep, h.glob, fun k hk => hok k (h.size k (by rw [World.putObj_size] at hk; exact hk)), h.ids, hrs⟩
  obtain ⟨e, he, hr⟩ := h.blk id b hb
  obtain ⟨c, lo, hi, c1, c2⟩ := hr.cells
  have hne : e.block ≠ l := fun x => by
    rw [x, hl] at c1
    exact ho1 _ _ _ (Option.some.inj c1)
  exact ⟨e, he, hr.esz, ⟨c, lo, hi, by rw [World.putObj_heap_other hne]; exact c1, c2⟩, hr.len, fun hw => hok _ (hr.own hw), hr.whole⟩
theorem RndOk.poke {φ : Emb} {w : World} {x : Rnd} (h : RndOk φ w x) {l : Nat} (o : Obj) (hne : x.l ≠ l) : RndOk φ (w.putObj l o) x :=
  h.step (Emb.le_refl _) (World.putObj_heap_other hne)
theorem aparams_rel {φ : Emb} {nt : Nat} : ∀ {ps : List Tmp} {args args' : List Value} {T T1 : Tr Value} {tmps : Array Value}, aparams nt ps args T = some T1 → LRel φ args args' → TRel φ T nt tmps →
    args'.length = ps.length ∧ TRel φ T1 nt ((ps.zip args').foldl (fun tmps (t, a) => tmps.setIfInBounds t a) tmps)
  | [], [], _, T, T1, tmps, h, ha, hT => by cases ha; simp only [aparams, Option.some.injEq] at h; subst h; exact ⟨rfl, hT⟩
  | [], _ :: _, _, T, T1, tmps, h, ha, hT => by cases h
  | _ :: _, [], _, T, T1, tmps, h, ha, hT => by cases h
  | t :: ps, v :: args, _, T, T1, tmps, h, .cons hv ha, hT => by
    simp only [aparams] at h
    cases hb : Nat.blt t nt <;> simp only [hb, cond_true, cond_false] at h
    · cases h
    · obtain ⟨h1, h2⟩ := aparams_rel h ha (hT.set (Nat.le_of_ble_eq_true hb) hv)
      exact ⟨by simp [h1], by simpa using h2⟩
theorem around_ok (hN : noNum P) (hm : P.follows .mixedOrders = true) {SP : Specs} (hS : ∀ B, SpecsOk P GL B SP) (hB : ∀ id, SP.blocks id = none) {n : Nat} {T : Tr Value} {nt : Nat} {ps : Array Tmp} {as bd : Code}
    {r l : Nat} {R0 : Loop} (hst : R0.state = .ready) (hpe : R0.pending = none) (hps : R0.params = ps) (has : R0.assign = as) (hbd : R0.body = bd)
    {rs : List Rnd} {bn : Nat} {no : List Nat} (hrs : ∀ x ∈ rs, x.l ≠ l)
    {args : List Value} {M : Mem} {v : Value} {M' : Mem} (h : around P GL SP n T nt ps.toList as bd args M = some (v, M')) {φ : Emb} {w : World}
    (hR : Rel P GL ⟨bn, no, ⟨r, l, R0, T, nt⟩ :: rs⟩ φ M w) (hG : Good φ M M') {args' : Array Value} (ha : LRel φ args args'.toList) :
    YieldAt Fence.wide 0 P l args' w fun e w' => ∃ L φ' v', e = .returned v' ∧ M'.log = L ++ M.log ∧ Post P GL ⟨bn, no, ⟨r, l, R0, T, nt⟩ :: rs⟩ φ φ' M M' L w w' ∧ VRel φ' v v' := by
  subst hps; subst has; subst hbd
  let B1 : Bd := ⟨bn, no, ⟨r, l, R0, T, nt⟩ :: rs⟩
  let RB : Loop := { R0 with state := .busy }
  let B2 : Bd := ⟨bn, no, ⟨r, l, RB, T, nt⟩ :: rs⟩
  have h12 : ∀ k, B1.ok k ↔ B2.ok k := fun k => by simp [B1, B2, Bd.ok]
  have hnok : ¬ B1.ok l := fun hk => hk.2.2 _ (List.mem_cons_self ..) rfl
  unfold around at h
  split at h
  case h_2 => cases h
  rename_i T1 hT1
  split at h
  case h_2 => cases h
  rename_i s1 h1
  split at h
  case h_2 => cases h
  rename_i s2 h2
  cases h
  have X := hR.rnd _ (List.mem_cons_self ..)
  have Xl : w.heap[l]? = some (.loop R0) := X.lies
  obtain ⟨L1, a1⟩ := (aexec_ok hN hm (hS B1) n).abs _ _ _ _ h1
  obtain ⟨L2, a2⟩ := (aexec_ok hN hm (hS B1) n).abs _ _ _ _ h2
  obtain ⟨hlen, hT2⟩ := aparams_rel hT1 ha X.tmps
  have hsz : args'.size = R0.params.size := by simpa using hlen
  have hfold : (R0.params.zip args').foldl (fun tmps (t, a) => tmps.setIfInBounds t a) R0.tmps = (R0.params.toList.zip args'.toList).foldl (fun tmps (t, a) => tmps.setIfInBounds t a) R0.tmps := by
    rw [← Array.foldl_toList, Array.toList_zip]
  refine ⟨_, _, _, _, run_yield Xl hsz, roundIn_of_wpIn trivial ?_⟩
  rw [hfold]
  show R0.assign.wpIn (RO (some l)) 0 P _ _ w
  refine (aexec_okR (ro := some l) hN hm (hS B1) (.inr hB) n).2.run _ _ _ _ h1 φ _ w _ hR (hG.sub a2.next) hT2 fun K1 φ1 a1' w1 hlog1 hp1 hTa hd1 => ?_
  show ∃ w₂, (Instr.beginRound l).run P w1 = .ok () w₂ ∧ R0.body.wpIn (RO (some l)) 0 P _ a1' w₂
  have X1 := hp1.rel.rnd _ (List.mem_cons_self ..)
  have X1l : w1.heap[l]? = some (.loop R0) := X1.lies
  have hlt1 : l < w1.heap.size := X1.lt
  refine ⟨_, run_beginRound X1l hst, ?_⟩
  have hR2 : Rel P GL B2 φ1 s1.M (w1.putObj l (.loop RB)) := hp1.rel.poke (fun k hk => (h12 k).1 hk) X1l (fun _ _ _ hc => by cases hc) fun x hx => by
    rcases List.mem_cons.1 hx with rfl | hx
    · exact ⟨X1.emb, World.putObj_heap_same hlt1, X1.tmps⟩
    · exact (hp1.rel.rnd x (List.mem_cons_of_mem _ hx)).poke _ (hrs x hx)
  refine (aexec_okR (ro := some l) hN hm (hS B2) (.inr hB) n).2.run _ _ _ _ h2 φ1 a1' _ _ hR2 (hp1.good hG) hTa fun K2 φ2 a2' w3 hlog2 hp2 hTb hd2 => ?_
  show ∃ v w', (Instr.endRound l none).run P w3 = .ok v w' ∧ _
  have X2 := hp2.rel.rnd _ (List.mem_cons_self ..)
  have X2l : w3.heap[l]? = some (.loop RB) := X2.lies
  have hlt3 : l < w3.heap.size := X2.lt
  have hRe : ({ RB with state := if (none : Option Code).isNone then LoopState.ready else .done, pending := none } : Loop) = R0 := by
    obtain ⟨q1, q2, q3, q4, q5, q6, q7, q8⟩ := R0
    simp only at hst hpe
    subst hst; subst hpe
    rfl
  refine ⟨_, _, run_endRound none X2l, K2 ++ K1, φ2, _, rfl, by rw [hlog2, hlog1, List.append_assoc], ?_, VRel.refl_flat _ _ rfl⟩
  rw [hRe]
  have hR4 : Rel P GL B1 φ2 s2.M (w3.putObj l (.loop R0)) := hp2.rel.poke (fun k hk => (h12 k).2 hk) X2l (fun _ _ _ hc => by cases hc) fun x hx => by
    rcases List.mem_cons.1 hx with rfl | hx
    · exact ⟨X2.emb, World.putObj_heap_same hlt3, X2.tmps⟩
    · exact (hp2.rel.rnd x (List.mem_cons_of_mem _ hx)).poke _ (hrs x hx)
  refine hp1.trans ⟨hp2.ext, hp2.next, hR4, ⟨hp2.fr.os, hp2.fr.tape, hp2.fr.output, by have := hp2.fr.size; rw [World.putObj_size] at this ⊢; exact this, fun k hk => ?_⟩, fun id e q1 q2 q3 => ?_, hp2.logb⟩
  · by_cases hkl : k = l
    · subst hkl
      rw [World.putObj_heap_same hlt3, X1l]; exact .inl rfl
    · rw [World.putObj_heap_other hkl]
      rcases hp2.fr.block k (by rw [World.putObj_size]; exact hk) with q | ⟨q1, q2⟩
      · rw [q, World.putObj_heap_other hkl]; exact .inl rfl
      · exact .inr ⟨(h12 k).2 q1, q2⟩
  · rcases hp2.newb id e q1 q2 q3 with q | q
    · rw [World.putObj_size] at q; exact .inl q
    · exact .inr q
end Go.Am
end
