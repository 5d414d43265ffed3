/-
  What is proved: MiniSteady: a machine of Make's is steady just if a letter twice is a letter once: for every x, y, every word. For every argument; one laid table (math/bits) is tied by the card.
-/
import Derived.Test.YtchnlooenomfnaaGreatDoorGAmTop
import Derived.RangeFuncRecord
import Derived.Test.YtchnlooenomfnaaGreatDoorAmE
set_option linter.unusedVariables false
set_option linter.unusedSimpArgs false
noncomputable section
namespace Go.Am
open Go
variable {P : Program} {GL : List Nat} {B : Bd}
def aparams (n : Nat) : List Tmp → List Value → Tr Value → Option (Tr Value)
  | [], [], T => some T
  | t :: ts, v :: vs, T => bif Nat.blt t n then aparams n ts vs (T.set t (some v)) else none
  | _, _, _ => none
def around (P : Program) (GL : List Nat) (SP : Specs) (n : Nat) (T : Tr Value) (nt : Nat) (ps : List Tmp) (as bd : Code) (args : List Value) (M : Mem) : Option (Value × Mem) :=
  match aparams nt ps args T with
  | some T1 => match aexec P GL SP n as ⟨T1, nt, M⟩ with
    | some (.normal, s1) => match aexec P GL SP n bd s1 with
      | some (.normal, s2) => some (.bool true, s2.M)
      | _ => none
    | _ => none
  | none => none
def Specs.also (SP : Specs) (k : FuncId) (g : List Value → Mem → Option (Value × Mem)) : Specs := ⟨fun f => bif Nat.beq f k then some g else SP.calls f, SP.blocks⟩
def Mem.skip (M : Mem) : Mem := { M with blks := M.blks.set M.next none, next := M.next + 1 }
def arange (P : Program) (GL : List Nat) (SP : Specs) (n : Nat) (f : Operand) (ps : Array Tmp) (as bd : Code) (s : St) : Option (AExit × St) :=
  match ev GL s.T f with
  | some fv => match target fv with
    | some (g, first, captured) =>
      bif hasBody P g then
        match arun P GL (SP.also (YB + s.M.next) (around P GL SP n s.T s.n ps.toList as bd)) n g (first ++ [.func (.yield s.M.next) #[] #[]] ++ captured) s.M.skip with
        | some (_, M2) => some (.normal, { s with M := M2 })
        | none => none
      else none
    | none => none
  | none => none
theorem skip_get (M : Mem) (id : Nat) : M.skip.getA id = if id = M.next then none else M.getA id := by
  unfold Mem.skip Mem.getA
  simp only [Tr.get_set]
  by_cases h : id = M.next
  · simp [h]
  · have h1 : Nat.blt id (M.next + 1) = Nat.blt id M.next := by
      rw [Bool.eq_iff_iff]
      simp only [Nat.blt, Nat.ble_eq]
      omega
    simp only [h, h1, if_false]
theorem skip_abs (M : Mem) : Abs M M.skip [] := ⟨rfl, Nat.le_succ _, rfl, fun id hid _ => by
  show (M.blks.set M.next none).get id = _
  rw [Tr.get_set, if_neg (by omega)], fun t ht => by cases ht⟩
theorem around_abs (hN : noNum P) (hm : P.follows .mixedOrders = true) {SP : Specs} (hS : SpecsOk P GL B SP) {n : Nat} {T : Tr Value} {nt : Nat} {ps : List Tmp} {as bd : Code} {args : List Value} {M : Mem} {v : Value} {M' : Mem}
    (h : around P GL SP n T nt ps as bd args M = some (v, M')) : ∃ L, Abs M M' L := by
  unfold around at h
  split at h
  · split at h
    · rename_i s1 h1
      split at h
      · rename_i s2 h2
        cases h
        obtain ⟨L1, a1⟩ := (aexec_ok hN hm hS n).abs _ _ _ _ h1
        obtain ⟨L2, a2⟩ := (aexec_ok hN hm hS n).abs _ _ _ _ h2
        exact ⟨_, a1.trans a2⟩
      · cases h
    · cases h
  · cases h
theorem URel.bd {B1 B2 : Bd} {φ : Emb} {w : World} {e : Ent} {b : ABlk} (h : URel P B1 φ w e b) (hok : B1.ok e.block → B2.ok e.block) : URel P B2 φ w e b := by
  rcases h with h | h
  · exact .inl ⟨h.esz, h.cells, h.len, fun hw => hok (h.own hw), h.whole, h.real⟩
  · exact .inr ⟨h.isE, h.isM, h.lies, hok h.own, h.app, h.wf⟩
theorem Rel.poke {B1 B2 : Bd} {φ : Emb} {M : Mem} {w : World} {l : Nat} {o o1 : Obj} (h : Rel P GL B1 φ M w) (hok : ∀ k, B1.ok k → B2.ok k) (hl : w.heap[l]? = some o1) (ho1 : ∀ c t r, o1 ≠ .cells c t r) (ho2 : ∀ es c, o1 ≠ .map es c)
    (hrs : ∀ x ∈ B2.rs, RndOk φ (w.putObj l o) x) : Rel P GL B2 φ M (w.putObj l o) := by
  refine ⟨fun id b hb => ?_, h.sepA, h.glob, fun k hk => hok k (h.size k (by rw [World.putObj_size] at hk; exact hk)), h.idsA, hrs⟩
  obtain ⟨e, he, hr⟩ := h.blkA id b hb
  have hne : e.block ≠ l := fun x => by
    rcases hr with hr | hr
    · obtain ⟨c, lo, hi, c1, c2⟩ := hr.cells
      rw [x, hl] at c1
      exact ho1 _ _ _ (Option.some.inj c1)
    · obtain ⟨es, ck, c1, _⟩ := hr.lies
      rw [x, hl] at c1
      exact ho2 _ _ (Option.some.inj c1)
  exact ⟨e, he, (hr.keep (Emb.le_refl φ) (World.putObj_heap_other hne)).bd (hok _)⟩
theorem RndOk.poke {φ : Emb} {w : World} {x : Rnd} (h : RndOk φ w x) {l : Nat} (o : Obj) (hne : x.l ≠ l) : RndOk φ (w.putObj l o) x :=
  h.step (Emb.le_refl _) (World.putObj_heap_other hne)
theorem aparams_rel {φ : Emb} {nt : Nat} : ∀ {ps : List Tmp} {args args' : List Value} {T T1 : Tr Value} {tmps : Array Value}, aparams nt ps args T = some T1 → LRel φ args args' → TRel φ T nt tmps →
    args'.length = ps.length ∧ TRel φ T1 nt ((ps.zip args').foldl (fun tmps (t, a) => tmps.setIfInBounds t a) tmps)
  | [], [], _, T, T1, tmps, h, ha, hT => by cases ha; simp only [aparams, Option.some.injEq] at h; subst h; exact ⟨rfl, hT⟩
  | [], _ :: _, _, T, T1, tmps, h, ha, hT => by cases h
  | _ :: _, [], _, T, T1, tmps, h, ha, hT => by cases h
  | t :: ps, v :: args, _, T, T1, tmps, h, .cons hv ha, hT => by
    simp only [aparams] at h
    cases hb : Nat.blt t nt <;> simp only [hb, cond_true, cond_false] at h
    · cases h
    · obtain ⟨h1, h2⟩ := aparams_rel h ha (hT.set (Nat.le_of_ble_eq_true hb) hv)
      exact ⟨by simp [h1], by simpa using h2⟩
theorem around_ok (hN : noNum P) (hm : P.follows .mixedOrders = true) {SP : Specs} (hS : ∀ B, SpecsOk P GL B SP) (hB : ∀ id, SP.blocks id = none) {n : Nat} {T : Tr Value} {nt : Nat} {ps : Array Tmp} {as bd : Code}
    {r l : Nat} {R0 : Loop} (hst : R0.state = .ready) (hpe : R0.pending = none) (hps : R0.params = ps) (has : R0.assign = as) (hbd : R0.body = bd)
    {rs : List Rnd} {bn : Nat} {no : List Nat} (hrs : ∀ x ∈ rs, x.l ≠ l)
    {args : List Value} {M : Mem} {v : Value} {M' : Mem} (h : around P GL SP n T nt ps.toList as bd args M = some (v, M')) {φ : Emb} {w : World}
    (hR : Rel P GL ⟨bn, no, ⟨r, l, R0, T, nt⟩ :: rs⟩ φ M w) (hG : Good φ M M') {args' : Array Value} (ha : LRel φ args args'.toList) :
    YieldAt Fence.wide 0 P l args' w fun e w' => ∃ L φ' v', e = .returned v' ∧ M'.log = L ++ M.log ∧ Post P GL ⟨bn, no, ⟨r, l, R0, T, nt⟩ :: rs⟩ φ φ' M M' L w w' ∧ VRel φ' v v' := by
  subst hps; subst has; subst hbd
  let B1 : Bd := ⟨bn, no, ⟨r, l, R0, T, nt⟩ :: rs⟩
  let RB : Loop := { R0 with state := .busy }
  let B2 : Bd := ⟨bn, no, ⟨r, l, RB, T, nt⟩ :: rs⟩
  have h12 : ∀ k, B1.ok k ↔ B2.ok k := fun k => by simp [B1, B2, Bd.ok]
  have hnok : ¬ B1.ok l := fun hk => hk.2.2 _ (List.mem_cons_self ..) rfl
  unfold around at h
  split at h
  case h_2 => cases h
  rename_i T1 hT1
  split at h
  case h_2 => cases h
  rename_i s1 h1
  split at h
  case h_2 => cases h
  rename_i s2 h2
  cases h
  have X := hR.rnd _ (List.mem_cons_self ..)
  have Xl : w.heap[l]? = some (.loop R0) := X.lies
  obtain ⟨L1, a1⟩ := (aexec_ok hN hm (hS B1) n).abs _ _ _ _ h1
  obtain ⟨L2, a2⟩ := (aexec_ok hN hm (hS B1) n).abs _ _ _ _ h2
  obtain ⟨hlen, hT2⟩ := aparams_rel hT1 ha X.tmps
  have hsz : args'.size = R0.params.size := by simpa using hlen
  have hfold : (R0.params.zip args').foldl (fun tmps (t, a) => tmps.setIfInBounds t a) R0.tmps = (R0.params.toList.zip args'.toList).foldl (fun tmps (t, a) => tmps.setIfInBounds t a) R0.tmps := by
    rw [← Array.foldl_toList, Array.toList_zip]
  refine ⟨_, _, _, _, run_yield Xl hsz, roundIn_of_wpIn trivial ?_⟩
  rw [hfold]
  show R0.assign.wpIn (RO (some l)) 0 P _ _ w
  refine (aexec_okR (ro := some l) hN hm (hS B1) (.inr hB) n).2.run _ _ _ _ h1 φ _ w _ hR (hG.sub a2.next) hT2 fun K1 φ1 a1' w1 hlog1 hp1 hTa hd1 => ?_
  show ∃ w₂, (Instr.beginRound l).run P w1 = .ok () w₂ ∧ R0.body.wpIn (RO (some l)) 0 P _ a1' w₂
  have X1 := hp1.rel.rnd _ (List.mem_cons_self ..)
  have X1l : w1.heap[l]? = some (.loop R0) := X1.lies
  have hlt1 : l < w1.heap.size := X1.lt
  refine ⟨_, run_beginRound X1l hst, ?_⟩
  have hR2 : Rel P GL B2 φ1 s1.M (w1.putObj l (.loop RB)) := hp1.rel.poke (fun k hk => (h12 k).1 hk) X1l (fun _ _ _ hc => by cases hc) (fun _ _ hc => by cases hc) fun x hx => by
    rcases List.mem_cons.1 hx with rfl | hx
    · exact ⟨X1.emb, World.putObj_heap_same hlt1, X1.tmps⟩
    · exact (hp1.rel.rnd x (List.mem_cons_of_mem _ hx)).poke _ (hrs x hx)
  refine (aexec_okR (ro := some l) hN hm (hS B2) (.inr hB) n).2.run _ _ _ _ h2 φ1 a1' _ _ hR2 (hp1.good hG) hTa fun K2 φ2 a2' w3 hlog2 hp2 hTb hd2 => ?_
  show ∃ v w', (Instr.endRound l none).run P w3 = .ok v w' ∧ _
  have X2 := hp2.rel.rnd _ (List.mem_cons_self ..)
  have X2l : w3.heap[l]? = some (.loop RB) := X2.lies
  have hlt3 : l < w3.heap.size := X2.lt
  have hRe : ({ RB with state := if (none : Option Code).isNone then LoopState.ready else .done, pending := none } : Loop) = R0 := by
    obtain ⟨q1, q2, q3, q4, q5, q6, q7, q8⟩ := R0
    simp only at hst hpe
    subst hst; subst hpe
    rfl
  refine ⟨_, _, run_endRound none X2l, K2 ++ K1, φ2, _, rfl, by rw [hlog2, hlog1, List.append_assoc], ?_, VRel.refl_flat _ _ rfl⟩
  rw [hRe]
  have hR4 : Rel P GL B1 φ2 s2.M (w3.putObj l (.loop R0)) := hp2.rel.poke (fun k hk => (h12 k).2 hk) X2l (fun _ _ _ hc => by cases hc) (fun _ _ hc => by cases hc) fun x hx => by
    rcases List.mem_cons.1 hx with rfl | hx
    · exact ⟨X2.emb, World.putObj_heap_same hlt3, X2.tmps⟩
    · exact (hp2.rel.rnd x (List.mem_cons_of_mem _ hx)).poke _ (hrs x hx)
  refine hp1.trans ⟨hp2.ext, hp2.next, hR4, ⟨hp2.fr.os, hp2.fr.tape, hp2.fr.output, by have := hp2.fr.size; rw [World.putObj_size] at this ⊢; exact this, fun k hk => ?_⟩, fun id e q1 q2 q3 => ?_, hp2.logb⟩
  · by_cases hkl : k = l
    · subst hkl
      rw [World.putObj_heap_same hlt3, X1l]; exact .inl rfl
    · rw [World.putObj_heap_other hkl]
      rcases hp2.fr.block k (by rw [World.putObj_size]; exact hk) with q | ⟨q1, q2⟩
      · rw [q, World.putObj_heap_other hkl]; exact .inl rfl
      · exact .inr ⟨(h12 k).2 q1, q2⟩
  · rcases hp2.newb id e q1 q2 q3 with q | q
    · rw [World.putObj_size] at q; exact .inl q
    · exact .inr q
end Go.Am
end

set_option linter.unusedVariables false
set_option linter.unusedSimpArgs false
noncomputable section
namespace Go.Am
open Go
variable {P : Program} {GL : List Nat}
structure Marks (m : Nat) (B : Bd) (w : World) (ds : List Deferred) : Prop where
  each : ∀ d ∈ ds, ∃ b, d.target = .collected b ∧ w.heap[b]? = some (.deferred (some [])) ∧ ¬ B.ok b ∧ m ≤ b
  size : m ≤ w.heap.size
  pair : ds.Pairwise fun d e => d.target ≠ e.target
theorem Marks.nil {B : Bd} {w : World} : Marks w.heap.size B w [] := ⟨fun d hd => (by cases hd), Nat.le_refl _, .nil⟩
theorem lt_of_heap {w : World} {b : Nat} {o : Obj} (h : w.heap[b]? = some o) : b < w.heap.size := (Array.getElem?_eq_some_iff.1 h).1
theorem Marks.step {m : Nat} {B : Bd} {φ : Emb} {L : List Nat} {w w' : World} {ds : List Deferred} (h : Marks m B w ds) (hf : Fr B φ L w w') : Marks m B w' ds :=
  ⟨fun d hd => by
    obtain ⟨b, h1, h2, h3, h4⟩ := h.each d hd
    refine ⟨b, h1, ?_, h3, h4⟩
    rcases hf.block b (lt_of_heap h2) with q | ⟨q, _⟩
    · rw [q]; exact h2
    · exact absurd q h3, Nat.le_trans h.size hf.size, h.pair⟩
structure Bd.Le (B B' : Bd) : Prop where
  ok : ∀ k, B'.ok k → B.ok k
  rs : ∀ x ∈ B.rs, x ∈ B'.rs
theorem Bd.Le.refl (B : Bd) : B.Le B := ⟨fun _ h => h, fun _ h => h⟩
theorem Bd.Le.trans {A B C : Bd} (h : A.Le B) (k : B.Le C) : A.Le C := ⟨fun i hi => h.ok i (k.ok i hi), fun x hx => k.rs x (h.rs x hx)⟩
theorem Rel.down {B B' : Bd} {φ : Emb} {M : Mem} {w : World} (hle : B.Le B') (h : Rel P GL B' φ M w) : Rel P GL B φ M w :=
  ⟨fun id b hb => let ⟨e, he, hr⟩ := h.blkA id b hb; ⟨e, he, hr.bd (hle.ok _)⟩, h.sepA, h.glob, fun k hk => hle.ok k (h.size k hk), h.idsA, fun x hx => h.rnd x (hle.rs x hx)⟩
theorem Post.down {B B' : Bd} {φ φ' : Emb} {M M' : Mem} {L : List Nat} {w w' : World} (hle : B.Le B') (h : Post P GL B' φ φ' M M' L w w') : Post P GL B φ φ' M M' L w w' :=
  ⟨h.ext, h.next, h.rel.down hle, ⟨h.fr.os, h.fr.tape, h.fr.output, h.fr.size, fun k hk => (h.fr.block k hk).imp id fun ⟨q, r⟩ => ⟨hle.ok k q, r⟩⟩, h.newb, h.logb⟩
def SaysM (P : Program) (GL : List Nat) (s s' : St) (e : AExit) (X : (Exit → Act → World → Prop) → Act → World → Prop) : Prop :=
  ∀ m B φ a w Q, Rel P GL B φ s.M w → Good φ s.M s'.M → TRel φ s.T s.n a.tmps → Marks m B w a.defers →
    (∀ B' L φ' a' w', B.Le B' → s'.M.log = L ++ s.M.log → Post P GL B φ φ' s.M s'.M L w w' → Rel P GL B' φ' s'.M w' → TRel φ' s'.T s'.n a'.tmps → Marks m B' w' a'.defers → Q (conc e) a' w') → X Q a w
theorem Says.marks {s s' : St} {e : AExit} {X : (Exit → Act → World → Prop) → Act → World → Prop} (h : ∀ B, Says P GL B s s' e X) : SaysM P GL s s' e X := by
  intro m B φ a w Q hR hG hT hM hk
  refine h B φ a w Q hR hG hT fun L φ' a' w' h1 h2 h3 h4 => hk B L φ' a' w' (.refl B) h1 h2 h2.rel h3 ?_
  rw [h4]; exact hM.step h2.fr
theorem SaysM.trans {s s1 s2 : St} {e : AExit} {X Y : (Exit → Act → World → Prop) → Act → World → Prop} (hn : s1.M.next ≤ s2.M.next) (h : SaysM P GL s s1 .normal X) (k : SaysM P GL s1 s2 e Y)
    {Z : (Exit → Act → World → Prop) → Act → World → Prop} (hz : ∀ Q a w, X (Exit.then (fun a w => Y Q a w) Q) a w → Z Q a w) : SaysM P GL s s2 e Z := by
  intro m B φ a w Q hR hG hT hM hk
  refine hz Q a w (h m B φ a w _ hR (hG.sub hn) hT hM fun B1 L1 φ1 a1 w1 hle1 hlog1 hp1 hR1 hT1 hM1 => ?_)
  show Y Q a1 w1
  refine k m B1 φ1 a1 w1 Q hR1 (hp1.good hG) hT1 hM1 fun B2 L2 φ2 a2 w2 hle2 hlog2 hp2 hR2 hT2 hM2 => ?_
  exact hk B2 (L2 ++ L1) φ2 a2 w2 (hle1.trans hle2) (by rw [hlog2, hlog1, List.append_assoc]) (hp1.trans (hp2.down hle1)) hR2 hT2 hM2
theorem also_ok (hN : noNum P) (hm : P.follows .mixedOrders = true) {SP : Specs} (hS : ∀ B, SpecsOk P GL B SP) (hB : ∀ id, SP.blocks id = none) {n : Nat} {T : Tr Value} {nt : Nat} {ps : Array Tmp} {as bo : Code}
    {r l : Nat} {R0 : Loop} (hst : R0.state = .ready) (hpe : R0.pending = none) (hps : R0.params = ps) (has : R0.assign = as) (hbd : R0.body = bo)
    {rs : List Rnd} {bn : Nat} {no : List Nat} (hrs : ∀ x ∈ rs, x.l ≠ l) : SpecsOk P GL ⟨bn, no, ⟨r, l, R0, T, nt⟩ :: rs⟩ (SP.also (YB + r) (around P GL SP n T nt ps.toList as bo)) := by
  refine ⟨fun f g hf args M v M' hg => ?_, fun id g hg => (by simp only [Specs.also, hB] at hg; cases hg), fun id g hg => (by simp only [Specs.also, hB] at hg; cases hg), fun f g hf args M v M' hg φ w hR hG args' ha => ?_⟩
  · simp only [Specs.also] at hf
    cases hb : Nat.beq f (YB + r) <;> simp only [hb, cond_true, cond_false] at hf
    · exact (hS ⟨bn, no, ⟨r, l, R0, T, nt⟩ :: rs⟩).abs f g hf args M v M' hg
    · cases hf
      exact around_abs hN hm (hS ⟨bn, no, ⟨r, l, R0, T, nt⟩ :: rs⟩) hg
  · simp only [Specs.also] at hf
    cases hb : Nat.beq f (YB + r) <;> simp only [hb, cond_true, cond_false] at hf
    · exact (hS ⟨bn, no, ⟨r, l, R0, T, nt⟩ :: rs⟩).run f g hf args M v M' hg φ w hR hG args' ha
    · cases hf
      have he : f = YB + r := Nat.eq_of_beq_eq_true hb
      subst he
      refine ⟨fun hlt => absurd hlt (Nat.not_lt.2 (Nat.le_add_right _ _)), fun r' en h1 h2 => ?_⟩
      have h1' : r' = r := Nat.add_left_cancel h1.symm
      subst h1'
      obtain ⟨e0, h3, h4⟩ := (hR.rnd _ (List.mem_cons_self ..)).emb
      simp only at h3 h4
      rw [h2] at h3
      cases h3
      rw [h4]
      exact around_ok hN hm hS hB hst hpe hps has hbd hrs hg hR hG ha
theorem arange_abs (hN : noNum P) (hm : P.follows .mixedOrders = true) {SP : Specs} (hS : ∀ B, SpecsOk P GL B SP) (hB : ∀ id, SP.blocks id = none) {n : Nat} {f : Operand} {ps : Array Tmp} {as bo : Code} {s s' : St} {e : AExit}
    (h : arange P GL SP n f ps as bo s = some (e, s')) : ∃ L, Abs s.M s'.M L := by
  unfold arange at h
  split at h
  case h_2 => cases h
  split at h
  case h_2 => cases h
  rename_i g first captured _
  cases hb : hasBody P g <;> simp only [hb, cond_true, cond_false] at h
  · cases h
  split at h
  case h_2 => cases h
  rename_i v M2 hrun
  cases h
  obtain ⟨L, hL⟩ := arun_abs hN hm (also_ok hN hm hS hB (n := n) (T := s.T) (nt := s.n) (ps := ps) (as := as) (bo := bo) (r := s.M.next) (l := 0)
    (R0 := { state := .ready, pending := none, fn := 0, tmps := #[], params := ps, assign := as, body := bo, defers := 0 }) rfl rfl rfl rfl rfl (rs := []) (bn := 0) (no := []) (fun x hx => by cases hx)) n g _ _ _ _ hrun
  exact ⟨_, (skip_abs s.M).trans hL⟩
theorem arange_says (hN : noNum P) (hm : P.follows .mixedOrders = true) {SP : Specs} (hS : ∀ B, SpecsOk P GL B SP) (hB : ∀ id, SP.blocks id = none) {n : Nat} {f : Operand} {ps : Array Tmp} {as bo : Code} {s s' : St} {e : AExit}
    (h : arange P GL SP n f ps as bo s = some (e, s')) : SaysM P GL s s' e fun Q a w => (Code.rangeFunc f ps as bo).wpIn (RO none) 0 P Q a w := by
  unfold arange at h
  split at h
  case h_2 => cases h
  rename_i fv hf
  split at h
  case h_2 => cases h
  rename_i g first captured htg
  cases hbd : hasBody P g <;> simp only [hbd, cond_true, cond_false] at h
  · cases h
  split at h
  case h_2 => cases h
  rename_i v M2 hrun
  cases h
  intro m B φ a w Q hR hG hT hM hk
  have hg : GRel GL φ := fun g hgl => (hR.glob g hgl).2
  obtain ⟨x', y', e1, e2, e3⟩ := target_inv (ev_sound (a := a) hg hT hf) htg
  refine wpIn_rangeFunc fun fn _ => ?_
  let R0 : Loop := { state := .ready, pending := none, fn, tmps := a.tmps, params := ps, assign := as, body := bo, defers := w.heap.size }
  let l := w.heap.size + 1
  let r := s.M.next
  let w1 : World := (w.alloc (.deferred (some []))).alloc (.loop R0)
  let B1 : Bd := ⟨B.n, w.heap.size :: B.no, ⟨r, l, R0, s.T, s.n⟩ :: B.rs⟩
  have hw1s : w1.heap.size = w.heap.size + 2 := by simp [w1]
  have hold : ∀ k, k < w.heap.size → w1.heap[k]? = w.heap[k]? := fun k hk => by
    show ((w.alloc (.deferred (some []))).alloc (.loop R0)).heap[k]? = _
    rw [heap_alloc_old _ _ (by simp; omega), heap_alloc_old _ _ hk]
  have hdef : w1.heap[w.heap.size]? = some (.deferred (some [])) := by
    show ((w.alloc (.deferred (some []))).alloc (.loop R0)).heap[w.heap.size]? = _
    rw [heap_alloc_old _ _ (by simp), heap_alloc_new]
  have hloop : w1.heap[l]? = some (.loop R0) := by
    have := heap_alloc_new (w.alloc (.deferred (some []))) (.loop R0)
    rw [World.size_alloc] at this
    exact this
  obtain ⟨L0, hA⟩ := arange_abs hN hm hS hB (n := n) (f := f) (ps := ps) (as := as) (bo := bo) (s := s) (s' := { s with M := M2 }) (e := .normal) (by unfold arange; simp only [hf, htg, hbd, cond_true, hrun])
  have hskn : s.M.skip.next = s.M.next + 1 := rfl
  obtain ⟨L1, hA1⟩ := arun_abs hN hm (also_ok hN hm hS hB (n := n) (T := s.T) (nt := s.n) (ps := ps) (as := as) (bo := bo) (r := s.M.next) (l := 0)
    (R0 := { state := .ready, pending := none, fn := 0, tmps := #[], params := ps, assign := as, body := bo, defers := 0 }) rfl rfl rfl rfl rfl (rs := []) (bn := 0) (no := []) (fun x hx => by cases hx)) n g _ _ _ _ hrun
  have hn2 : s.M.next + 1 ≤ M2.next := hA1.next
  let φ1 : Emb := fun id => if id = r then some ⟨l, 0, 0, 0⟩ else φ id
  have hφ1r : φ1 r = some ⟨l, 0, 0, 0⟩ := if_pos rfl
  have hφr : φ r = none := hG r (Nat.le_refl _) (by show s.M.next < M2.next; omega)
  have hle : φ.le φ1 := fun id e he => by
    have : id ≠ r := fun x => by rw [x, hφr] at he; cases he
    simp only [φ1]; rw [if_neg this]; exact he
  have hokB : ∀ k, B1.ok k → B.ok k := fun k hk => ⟨hk.1, fun h => hk.2.1 (List.mem_cons_of_mem _ h), fun x hx => hk.2.2 x (List.mem_cons_of_mem _ hx)⟩
  have hok1 : ∀ k, B.ok k → k < w.heap.size → B1.ok k := fun k hk hlt => ⟨hk.1, fun h => by
    rcases List.mem_cons.1 h with rfl | h
    · omega
    · exact hk.2.1 h, fun x hx => by
    rcases List.mem_cons.1 hx with rfl | hx
    · show k ≠ w.heap.size + 1; omega
    · exact hk.2.2 x hx⟩
  have hrs : ∀ x ∈ B.rs, x.l ≠ l := fun x hx he => by
    have := (hR.rnd x hx).lt
    rw [he] at this
    have : w.heap.size + 1 < w.heap.size := this
    omega
  have hR1 : Rel P GL B1 φ1 s.M.skip w1 := by
    refine ⟨fun id b hb => ?_, fun id1 id2 b1 b2 e1 e2 hne hb1 hb2 ho he1 he2 => ?_, fun g hgl => ?_, fun k hk => ?_, fun id b hb => ?_, fun x hx => ?_⟩
    · rw [skip_get] at hb
      by_cases hid : id = s.M.next
      · rw [if_pos hid] at hb; cases hb
      · rw [if_neg hid] at hb
        obtain ⟨e, he, hr⟩ := hR.blkA id b hb
        have hk := hr.keep hle (hold _ hr.lt)
        exact ⟨e, hle _ _ he, hk.bd fun hq => hok1 _ hq hr.lt⟩
    · rw [skip_get] at hb1 hb2
      by_cases h1 : id1 = s.M.next
      · rw [if_pos h1] at hb1; cases hb1
      · by_cases h2 : id2 = s.M.next
        · rw [if_pos h2] at hb2; cases hb2
        · rw [if_neg h1] at hb1
          rw [if_neg h2] at hb2
          simp only [φ1] at he1 he2
          rw [if_neg h1] at he1
          rw [if_neg h2] at he2
          exact hR.sepA id1 id2 b1 b2 e1 e2 hne hb1 hb2 ho he1 he2
    · obtain ⟨k1, e, k2, k3⟩ := hR.glob g hgl
      exact ⟨Nat.lt_succ_of_lt k1, e, hle _ _ k2, k3⟩
    · have hb := hR.size k (by omega)
      exact ⟨hb.1, fun h => by
        rcases List.mem_cons.1 h with rfl | h
        · omega
        · exact hb.2.1 h, fun x hx => by
        rcases List.mem_cons.1 hx with rfl | hx
        · show k ≠ w.heap.size + 1; omega
        · exact hb.2.2 x hx⟩
    · rw [skip_get] at hb
      by_cases hid : id = s.M.next
      · rw [if_pos hid] at hb; cases hb
      · rw [if_neg hid] at hb
        exact Nat.lt_succ_of_lt (hR.idsA id b hb)
    · rcases List.mem_cons.1 hx with rfl | hx
      · exact ⟨⟨_, hφ1r, rfl⟩, hloop, hT.mono hle⟩
      · exact (hR.rnd x hx).step hle (hold _ (hR.rnd x hx).lt)
  have hG1 : Good φ1 s.M.skip M2 := fun id h1 h2 => by
    have h1' : s.M.next + 1 ≤ id := h1
    have : id ≠ r := by show id ≠ s.M.next; omega
    simp only [φ1]; rw [if_neg this]
    exact hG id (by omega) h2
  have hargs : LRel φ1 (first ++ [Value.func (.yield s.M.next) #[] #[]] ++ captured) (x' ++ #[Value.func (.yield l) #[] #[]] ++ y').toList := by
    have h1 : LRel φ1 [Value.func (.yield s.M.next) #[] #[]] [Value.func (.yield l) #[] #[]] := .cons (.yld (e := ⟨l, 0, 0, 0⟩) hφ1r) .nil
    have := ((LRel.mono hle e2).append h1).append (LRel.mono hle e3)
    simpa using this
  have hcalls := arun_calls hN hm (also_ok hN hm hS hB (n := n) (T := s.T) (nt := s.n) (ps := ps) (as := as) (bo := bo) (r := r) (l := l) (R0 := R0) rfl rfl rfl rfl rfl (rs := B.rs) (bn := B.n) (no := w.heap.size :: B.no) hrs) n hrun hR1 hG1 _ hargs
  refine ⟨l, _, w1, { target := .fn (.func g) y', args := x' ++ #[.func (.yield l) #[] #[]] }, w1, g, x' ++ #[.func (.yield l) #[] #[]] ++ y', w1, run_enterLoop_outer fn a.tmps ps as bo, ?_, fun f' _ => RO_fn _ f', ?_, fun hx => by simp [RO, Fence.wide] at hx, ?_⟩
  · have hc : a.eval (.const (.func (.yield l) #[] #[])) = .func (.yield l) #[] #[] := rfl
    simp [resolve, rangeCall, e1, Deferred.ofValue, hc]
  · simp [invoke, callFunc_run hN hbd]
  · refine CallsIn.mono (R := _) ((callsIn_wide (n := 0 - 1)).2 hcalls) fun e' w3 ⟨L, φ', v', he', hlog, hp, hv'⟩ => ?_
    subst he'
    have X := hp.rel.rnd _ (List.mem_cons_self ..)
    have Xl : w3.heap[l]? = some (.loop R0) := X.lies
    refine ⟨none, _, run_endLoop Xl (by show LoopState.ready ≠ LoopState.busy; exact fun hh => by cases hh), ?_⟩
    show Q .normal _ _
    have hsz3 : w1.heap.size ≤ w3.heap.size := hp.fr.size
    have hdef3 : w3.heap[w.heap.size]? = some (.deferred (some [])) := by
      rcases hp.fr.block w.heap.size (by omega) with q | ⟨q, _⟩
      · rw [q]; exact hdef
      · exact absurd (List.mem_cons_self ..) q.2.1
    let B2 : Bd := ⟨B.n, w.heap.size :: l :: B.no, B.rs⟩
    have hle2 : B.Le B2 := ⟨fun k hk => ⟨hk.1, fun h => hk.2.1 (List.mem_cons_of_mem _ (List.mem_cons_of_mem _ h)), hk.2.2⟩, fun x hx => hx⟩
    have hB12 : ∀ k, B1.ok k → B2.ok k := fun k hk => ⟨hk.1, fun h => by
      rcases List.mem_cons.1 h with rfl | h
      · exact hk.2.1 (List.mem_cons_self ..)
      · rcases List.mem_cons.1 h with rfl | h
        · exact hk.2.2 _ (List.mem_cons_self ..) rfl
        · exact hk.2.1 (List.mem_cons_of_mem _ h), fun x hx => hk.2.2 x (List.mem_cons_of_mem _ hx)⟩
    have hR4 : Rel P GL B2 φ' M2 (w3.putObj l (.loop { R0 with state := .exhausted })) := hp.rel.poke hB12 Xl (fun _ _ _ hc => by cases hc) (fun _ _ hc => by cases hc) fun x hx =>
      (hp.rel.rnd x (List.mem_cons_of_mem _ hx)).poke _ (hrs x hx)
    have hlne : ∀ k, k < w.heap.size → k ≠ l := fun k hk he => by
      have : k = w.heap.size + 1 := he
      omega
    refine hk B2 L φ' _ _ hle2 (by rw [hlog]; rfl) ⟨fun id hid => ?_, by show s.M.next ≤ M2.next; omega, hR4.down hle2, ⟨hp.fr.os, hp.fr.tape, hp.fr.output, by rw [World.putObj_size]; omega, fun k hk2 => ?_⟩, fun id e h1 h2 h3 => ?_, hp.logb⟩ hR4 ⟨hT.1, fun t v hv => ?_⟩ ?_
    · have hnr : id ≠ r := by
        show id ≠ s.M.next
        rcases hid with hid | hid
        · omega
        · have : M2.next ≤ id := hid
          omega
      have := hp.ext id (by
        rcases hid with hid | hid
        · exact .inl (by rw [hskn]; omega)
        · exact .inr hid)
      rw [this]
      simp only [φ1]; rw [if_neg hnr]
    · rw [World.putObj_heap_other (hlne k hk2)]
      rcases hp.fr.block k (by omega) with q | ⟨q1, t, q2, e, q3, q4⟩
      · rw [q]; exact .inl (hold k hk2)
      · refine .inr ⟨hokB k q1, t, q2, e, ?_, q4⟩
        by_cases htr : t = r
        · simp only [φ1] at q3
          rw [if_pos htr] at q3
          cases q3
          exact absurd q4.symm (hlne k hk2)
        · simp only [φ1] at q3
          rw [if_neg htr] at q3; exact q3
    · by_cases hid : id = r
      · have := hp.ext id (.inl (by rw [hskn, hid]; exact Nat.lt_succ_self _))
        rw [this] at h3
        simp only [φ1] at h3
        rw [if_pos hid] at h3
        cases h3
        exact .inl (Nat.le_succ _)
      · have h1' : s.M.next ≤ id := h1
        have hid' : id ≠ s.M.next := hid
        rcases hp.newb id e (by rw [hskn]; omega) h2 h3 with q | ⟨t, q2, e0, q3, q4⟩
        · exact .inl (by omega)
        · by_cases htr : t = r
          · simp only [φ1] at q3
            rw [if_pos htr] at q3
            cases q3
            left
            rw [← q4]
            exact Nat.le_succ _
          · simp only [φ1] at q3
            rw [if_neg htr] at q3
            exact .inr ⟨t, q2, e0, q3, q4⟩
    · obtain ⟨v', h1, h2⟩ := hT.2 t v hv
      exact ⟨v', h1, h2.mono (Emb.le_trans hle (hp.le hG1))⟩
    · refine ⟨fun d hd => ?_, by rw [World.putObj_size]; exact Nat.le_trans hM.size (by omega), ?_⟩
      · rcases List.mem_cons.1 hd with rfl | hd
        · exact ⟨w.heap.size, rfl, by rw [World.putObj_heap_other (by show w.heap.size ≠ w.heap.size + 1; omega)]; exact hdef3, fun hk => hk.2.1 (List.mem_cons_self ..), hM.size⟩
        · obtain ⟨b, h1, h2, h3, h4⟩ := hM.each d hd
          have hb := lt_of_heap h2
          refine ⟨b, h1, ?_, fun hk => h3 (hle2.ok b hk), h4⟩
          rw [World.putObj_heap_other (hlne b hb)]
          rcases hp.fr.block b (by omega) with q | ⟨q, _⟩
          · rw [q, hold b hb]; exact h2
          · exact absurd (hokB b q) h3
      · refine List.pairwise_cons.2 ⟨fun d hd he => ?_, hM.pair⟩
        obtain ⟨b, h1, h2, h3, _⟩ := hM.each d hd
        have hb := lt_of_heap h2
        rw [h1] at he
        cases he
        omega
end Go.Am
end

set_option linter.unusedVariables false
set_option linter.unusedSimpArgs false
noncomputable section
namespace Go.Am
open Go
variable {P : Program} {GL : List Nat}
def rstep (P : Program) (GL : List Nat) (SP : Specs) (n : Nat) (ih : Code → St → Option (AExit × St)) (c : Code) (s : St) : Option (AExit × St) :=
  match c with
  | .seq a b => match ih a s with
    | some (.normal, s') => ih b s'
    | r => r
  | .cond c x y => match ev GL s.T c with
    | some (.bool t) => ih (bif t then x else y) s
    | _ => none
  | .block id b => match ih b s with
    | some (.exit i, s') => bif Nat.beq i id then some (.normal, s') else some (.exit i, s')
    | r => r
  | .loop b => match ih b s with
    | some (.normal, s') => ih (.loop b) s'
    | r => r
  | .rangeFunc f ps as bo => arange P GL SP n f ps as bo s
  | c => aexec P GL SP n c s
def rexec (P : Program) (GL : List Nat) (SP : Specs) (n : Nat) (m : Nat) : Code → St → Option (AExit × St) :=
  Nat.rec (fun _ _ => none) (fun _ ih => rstep P GL SP n ih) m
def rrun (P : Program) (GL : List Nat) (SP : Specs) (n m : Nat) : FuncId → List Value → Mem → Option (Value × Mem) := aenter P (rexec P GL SP n m)
structure ExecM (P : Program) (GL : List Nat) (ih : Code → St → Option (AExit × St)) : Prop where
  abs : ∀ c s e s', ih c s = some (e, s') → ∃ L, Abs s.M s'.M L
  run : ∀ c s e s', ih c s = some (e, s') → SaysM P GL s s' e fun Q a w => c.wpIn (RO none) 0 P Q a w
  loop : ∀ b s e s', ih (.loop b) s = some (e, s') → ∃ n, SaysM P GL s s' e fun Q a w => Code.roundsIn (RO none) 0 P b Q n a w
theorem rstep_loop {SP : Specs} {n : Nat} {ih : Code → St → Option (AExit × St)} (h : ExecM P GL ih) {b : Code} {s s' : St} {e : AExit} (hs : rstep P GL SP n ih (.loop b) s = some (e, s')) :
    ∃ n, SaysM P GL s s' e fun Q a w => Code.roundsIn (RO none) 0 P b Q n a w := by
  simp only [rstep] at hs
  split at hs
  · rename_i s1 h1
    obtain ⟨k, hk⟩ := h.loop _ _ _ _ hs
    exact ⟨k + 1, SaysM.trans (h.abs _ _ _ _ hs).choose_spec.next (h.run _ _ _ _ h1) hk fun Q a w hx => hx⟩
  · rename_i r hne
    cases hs0 : ih b s with
    | none => rw [hs0] at hs; cases hs
    | some r =>
      rw [hs0] at hs
      cases hs
      refine ⟨1, fun m B φ a w Q hR hG hT hM hk => h.run _ _ _ _ hs0 m B φ a w _ hR hG hT hM fun B' L φ' a' w' h0 h1 h2 h3 h4 h5 => ?_⟩
      have hq := hk B' L φ' a' w' h0 h1 h2 h3 h4 h5
      cases e with
      | normal => exact absurd hs0 (hne s')
      | exit i => exact hq
      | ret => exact hq
      | goto i => exact hq
theorem rstep_ok (hN : noNum P) (hm : P.follows .mixedOrders = true) {SP : Specs} (hS : ∀ B, SpecsOk P GL B SP) (hB : ∀ id, SP.blocks id = none) {n : Nat} {ih : Code → St → Option (AExit × St)} (h : ExecM P GL ih) : ExecM P GL (rstep P GL SP n ih) := by
  have leafA : ∀ c s e s', aexec P GL SP n c s = some (e, s') → ∃ L, Abs s.M s'.M L := (aexec_ok hN hm (hS (bd 0)) n).abs
  have leafR : ∀ c s e s', aexec P GL SP n c s = some (e, s') → SaysM P GL s s' e fun Q a w => c.wpIn (RO none) 0 P Q a w := fun c s e s' hs =>
    Says.marks fun B => (aexec_okR hN hm (hS B) (ro := none) (.inl rfl) n).1.run c s e s' hs
  refine ⟨fun c s e s' hs => ?_, fun c s e s' hs => ?_, fun b s e s' hs => rstep_loop h hs⟩
  · unfold rstep at hs
    split at hs
    · split at hs
      · rename_i s1 h1
        obtain ⟨L1, a1⟩ := h.abs _ _ _ _ h1
        obtain ⟨L2, a2⟩ := h.abs _ _ _ _ hs
        exact ⟨_, a1.trans a2⟩
      · exact h.abs _ _ _ _ hs
    · split at hs
      · exact h.abs _ _ _ _ hs
      · cases hs
    · rename_i id b
      split at hs
      · rename_i i s1 h1
        cases hb : Nat.beq i id <;> simp only [hb, cond_true, cond_false] at hs <;> (cases hs; exact h.abs _ _ _ _ h1)
      · exact h.abs _ _ _ _ hs
    · split at hs
      · rename_i s1 h1
        obtain ⟨L1, a1⟩ := h.abs _ _ _ _ h1
        obtain ⟨L2, a2⟩ := h.abs _ _ _ _ hs
        exact ⟨_, a1.trans a2⟩
      · exact h.abs _ _ _ _ hs
    · exact arange_abs hN hm hS hB hs
    · exact leafA _ _ _ _ hs
  · unfold rstep at hs
    split at hs
    · rename_i x y
      split at hs
      · rename_i s1 h1
        exact SaysM.trans (h.abs _ _ _ _ hs).choose_spec.next (h.run _ _ _ _ h1) (h.run _ _ _ _ hs) fun Q a w hx => wpIn_seq hx
      · rename_i r hne
        cases hs0 : ih x s with
        | none => rw [hs0] at hs; cases hs
        | some r =>
          rw [hs0] at hs
          cases hs
          intro m B φ a w Q hR hG hT hM hk
          refine wpIn_seq (h.run _ _ _ _ hs0 m B φ a w _ hR hG hT hM fun B' L φ' a' w' h0 h1 h2 h3 h4 h5 => ?_)
          have hq := hk B' L φ' a' w' h0 h1 h2 h3 h4 h5
          cases e with
          | normal => exact absurd hs0 (hne s')
          | exit i => exact hq
          | ret => exact hq
          | goto i => exact hq
    · rename_i c x y
      split at hs
      · rename_i t hc
        intro m B φ a w Q hR hG hT hM hk
        have hg : GRel GL φ := fun g hgl => (hR.glob g hgl).2
        have := (ev_sound (a := a) hg hT hc).bool_inv
        refine wpIn_cond this ?_
        cases t <;> exact h.run _ _ _ _ hs m B φ a w Q hR hG hT hM hk
      · cases hs
    · rename_i id b
      split at hs
      · rename_i i s1 h1
        have hMe : s1 = s' := by
          cases hb : Nat.beq i id <;> simp only [hb, cond_true, cond_false] at hs <;> (cases hs; rfl)
        subst hMe
        intro m B φ a w Q hR hG hT hM hk
        refine wpIn_block (h.run _ _ _ _ h1 m B φ a w _ hR hG hT hM fun B' L φ' a' w' q0 q1 q2 q3 q4 q5 => ?_)
        cases hb : Nat.beq i id <;> simp only [hb, cond_true, cond_false] at hs
        · cases hs
          have hne : i ≠ id := by intro x; simp [x] at hb
          simp only [conc, Exit.inBlock, hne, if_false]
          exact hk B' L φ' a' w' q0 q1 q2 q3 q4 q5
        · cases hs
          have he : i = id := Nat.eq_of_beq_eq_true hb
          simp only [conc, Exit.inBlock, he, if_true]
          exact hk B' L φ' a' w' q0 q1 q2 q3 q4 q5
      · rename_i r hne
        cases hs0 : ih b s with
        | none => rw [hs0] at hs; cases hs
        | some r =>
          rw [hs0] at hs
          cases hs
          intro m B φ a w Q hR hG hT hM hk
          refine wpIn_block (h.run _ _ _ _ hs0 m B φ a w _ hR hG hT hM fun B' L φ' a' w' h0 h1 h2 h3 h4 h5 => ?_)
          have hq := hk B' L φ' a' w' h0 h1 h2 h3 h4 h5
          cases e with
          | normal => exact hq
          | exit i => exact absurd hs0 (hne i s')
          | ret => exact hq
          | goto i => exact hq
    · rename_i b
      obtain ⟨k, hk⟩ := rstep_loop (SP := SP) (n := n) h (b := b) (s := s) (e := e) (s' := s') hs
      exact fun m B φ a w Q hR hG hT hM hq => wpIn_loop_rounds k (hk m B φ a w Q hR hG hT hM hq)
    · exact arange_says hN hm hS hB hs
    · exact leafR _ _ _ _ hs
theorem rexec_ok (hN : noNum P) (hm : P.follows .mixedOrders = true) {SP : Specs} (hS : ∀ B, SpecsOk P GL B SP) (hB : ∀ id, SP.blocks id = none) {n : Nat} : ∀ m, ExecM P GL (rexec P GL SP n m)
  | 0 => ⟨fun c s e s' h => (by cases h), fun c s e s' h => (by cases h), fun b s e s' h => (by cases h)⟩
  | m + 1 => rstep_ok hN hm hS hB (rexec_ok hN hm hS hB m)
theorem leaves_marks {fn : Func} {tmps : Array Value} {R : Ending → World → Prop} : ∀ (m : Nat) (ds : List Deferred) (B : Bd) (φ : Emb) (M : Mem) (w : World), Marks m B w ds → Rel P GL B φ M w →
    (∀ w', Rel P GL B φ M w' → w'.os = w.os → w'.tape = w.tape → w'.output = w.output → w'.heap.size = w.heap.size → (∀ k, k < m → w'.heap[k]? = w.heap[k]?) → ∃ v, (results fn tmps).run P w' = .ok v w' ∧ R (.returned v) w') →
    LeavesInM Fence.wide 0 P fn tmps R ds .returning w
  | m, [], B, φ, M, w, _, hR, hk => hk w hR rfl rfl rfl rfl (fun _ _ => rfl)
  | m, d :: ds, B, φ, M, w, hM, hR, hk => by
    obtain ⟨b, h1, h2, h3, h4⟩ := hM.each d (List.mem_cons_self ..)
    obtain ⟨hp1, hp2⟩ := List.pairwise_cons.1 hM.pair
    refine ⟨(by intro hc; cases hc), Or.inl ⟨b, _, h1, run_takeDeferred h2, ?_⟩⟩
    have hM' : Marks m B (w.putObj b (.deferred none)) ds := ⟨fun d' hd' => by
      obtain ⟨b', q1, q2, q3, q4⟩ := hM.each d' (List.mem_cons_of_mem _ hd')
      have : b' ≠ b := fun he => hp1 d' hd' (by rw [h1, q1, he])
      exact ⟨b', q1, by rw [World.putObj_heap_other this]; exact q2, q3, q4⟩, by rw [World.putObj_size]; exact hM.size, hp2⟩
    have hR' : Rel P GL B φ M (w.putObj b (.deferred none)) := hR.poke (fun k hk => hk) h2 (fun _ _ _ hc => by cases hc) (fun _ _ hc => by cases hc) fun x hx => (hR.rnd x hx).poke _ (fun he => by
      have := (hR.rnd x hx).lies
      rw [he, h2] at this
      cases this)
    exact leaves_marks m ds B φ M _ hM' hR' fun w' q1 q2 q3 q4 q5 q6 => hk w' q1 q2 q3 q4 (by rw [q5, World.putObj_size]) (fun k hkm => by rw [q6 k hkm, World.putObj_heap_other (by omega)])
theorem rrun_ok (hN : noNum P) (hm : P.follows .mixedOrders = true) {SP : Specs} (hS : ∀ B, SpecsOk P GL B SP) (hB : ∀ id, SP.blocks id = none) (n m : Nat) (f : FuncId) {B : Bd} : SpecOk P GL B f (rrun P GL SP n m f) := by
  have h := rexec_ok hN hm hS hB (n := n) m
  refine ⟨fun args M v M' hc => aenter_abs (P := P) h.abs f args M v M' hc, fun args M v M' hc φ w hR hG args' ha => ?_⟩
  unfold rrun aenter at hc
  split at hc
  · rename_i fn hf
    split at hc
    · rename_i c hb
      cases hq : Nat.ble args.length fn.ntmps <;> simp only [hq, cond_true, cond_false] at hc
      · simp at hc
      · have hlen : args.length ≤ fn.ntmps := Nat.le_of_ble_eq_true hq
        have fin : ∀ (e : AExit) (s : St), (e = .normal ∨ e = .ret) → rexec P GL SP n m c ⟨initT args 0 .nil, fn.ntmps, M⟩ = some (e, s) → aresults P fn s = some v → s.M = M' →
            Calls P f args' w fun e w' => ∃ L φ' v', e = .returned v' ∧ M'.log = L ++ M.log ∧ Post P GL B φ φ' M M' L w w' ∧ VRel φ' v v' := fun e s he hr hres hM => by
          subst hM
          refine (callsIn_wide (n := 0)).1 (callsIn_of_wp_marks hf hb trivial ?_)
          refine h.run _ _ _ _ hr w.heap.size B φ _ w _ hR hG (init_TRel ha hlen) .nil fun B' L φ' a' w' hle hlog hp hR' hT hMk => ?_
          have key : LeavesInM Fence.wide 0 P fn a'.tmps (fun e w' => ∃ L φ' v', e = .returned v' ∧ s.M.log = L ++ M.log ∧ Post P GL B φ φ' M s.M L w w' ∧ VRel φ' v v') a'.defers .returning w' := by
            refine leaves_marks w.heap.size a'.defers B' φ' s.M w' hMk hR' fun w2 hR2 q1 q2 q3 q4 q5 => ?_
            obtain ⟨v', e1, e2⟩ := results_sound hR2 hT hres
            refine ⟨v', e1, L, φ', v', rfl, hlog, ⟨hp.ext, hp.next, hR2.down hle, ⟨q1.trans hp.fr.os, q2.trans hp.fr.tape, q3.trans hp.fr.output, by rw [q4]; exact hp.fr.size, fun k hk => ?_⟩, hp.newb, hp.logb⟩, e2⟩
            rw [q5 k hk]; exact hp.fr.block k hk
          rcases he with rfl | rfl <;> exact key
        split at hc
        · rename_i s hr
          split at hc
          · rename_i v1 hv1
            simp at hc
            obtain ⟨rfl, hM⟩ := hc
            exact fin _ s (.inl rfl) hr hv1 hM
          · simp at hc
        · rename_i s hr
          split at hc
          · rename_i v1 hv1
            simp at hc
            obtain ⟨rfl, hM⟩ := hc
            exact fin _ s (.inr rfl) hr hv1 hM
          · simp at hc
        · simp at hc
    · simp at hc
  · simp at hc
end Go.Am
end

set_option linter.unusedVariables false
set_option linter.unusedSimpArgs false
noncomputable section
namespace Go.Am
open Go
variable {P : Program} {GL : List Nat} {B : Bd}
theorem Rel.noGl {φ : Emb} {M : Mem} {w : World} (h : Rel P GL B φ M w) : Rel P [] B φ M w := ⟨h.blkA, h.sepA, fun g hg => (by cases hg), h.size, h.idsA, h.rnd⟩
theorem Post.gl {φ φ' : Emb} {M M' : Mem} {L : List Nat} {w w' : World} (hR : Rel P GL B φ M w) (h : Post P [] B φ φ' M M' L w w') : Post P GL B φ φ' M M' L w w' :=
  ⟨h.ext, h.next, ⟨h.rel.blkA, h.rel.sepA, fun g hg => let ⟨h1, e, h2, h3⟩ := hR.glob g hg; ⟨Nat.lt_of_lt_of_le h1 h.next, e, by rw [h.ext g (.inl h1)]; exact h2, h3⟩, h.rel.size, h.rel.idsA, h.rel.rnd⟩, h.fr, h.newb, h.logb⟩
theorem SpecOk.gl {f : FuncId} {g : List Value → Mem → Option (Value × Mem)} (h : SpecOk P [] B f g) : SpecOk P GL B f g :=
  ⟨h.abs, fun args M v M' hg φ w hR hG args' ha => (h.run args M v M' hg φ w hR.noGl hG args' ha).mono fun _ _ ⟨L, φ', v', h1, h2, h3, h4⟩ => ⟨L, φ', v', h1, h2, h3.gl hR, h4⟩⟩
theorem Ev.gl {f : FuncId} {args : List Value} {M M' : Mem} {v : Value} (h : Ev P [] f args M v M') : Ev P GL f args M v M' :=
  ⟨h.abs, fun B φ w hR hG args' ha => (h.run B φ w hR.noGl hG args' ha).mono fun _ _ ⟨L, φ', v', h1, h2, h3, h4⟩ => ⟨L, φ', v', h1, h2, h3.gl hR, h4⟩⟩
end Go.Am
end
