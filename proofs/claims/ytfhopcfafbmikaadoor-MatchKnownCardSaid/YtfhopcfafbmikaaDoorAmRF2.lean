/-
  Proved: of these twenty texts and words whether the word is in the text's language, as milestonelaw5.MatchKnown asks it, holds whatever the argument is. Conditions: those of the given row alone (the table math/bits.deBruijn64tab starts as the program's text lays it).
-/
import Derived.Test.YtfhopcfafbmikaaDoorAmRF
noncomputable section
namespace Go.Am
open Go
variable {P : Program} {GL : List Nat}
structure Marks (m : Nat) (B : Bd) (w : World) (ds : List Deferred) : Prop where
  each : ∀ d ∈ ds, ∃ b, d.target = .collected b ∧ w.heap[b]? = some (.deferred (some [])) ∧ ¬ B.ok b ∧ m ≤ b
  size : m ≤ w.heap.size
  pair : ds.Pairwise fun d e => d.target ≠ e.target
theorem Marks.nil {B : Bd} {w : World} : Marks w.heap.size B w [] := ⟨fun d hd => (by cases hd), Nat.le_refl _, .nil⟩
theorem lt_of_heap {w : World} {b : Nat} {o : Obj} (h : w.heap[b]? = some o) : b < w.heap.size := (Array.getElem?_eq_some_iff.1 h).1
theorem Marks.step {m : Nat} {B : Bd} {φ : Emb} {L : List Nat} {w w' : World} {ds : List Deferred} (h : Marks m B w ds) (hf : Fr B φ L w w') : Marks m B w' ds :=
  ⟨fun d hd => by
    obtain ⟨b, h1, h2, h3, h4⟩ := h.each d hd
    refine ⟨b, h1, ?_, h3, h4⟩
    rcases hf.block b (lt_of_heap h2) with q | ⟨q, _⟩
    · rw [q]; exact h2
    · exact absurd q h3, Nat.le_trans h.size hf.size, h.pair⟩
structure Bd.Le (B B' : Bd) : Prop where
  ok : ∀ k, B'.ok k → B.ok k
  rs : ∀ x ∈ B.rs, x ∈ B'.rs
theorem Bd.Le.refl (B : Bd) : B.Le B := ⟨fun _ h => h, fun _ h => h⟩
theorem Bd.Le.trans {A B C : Bd} (h : A.Le B) (k : B.Le C) : A.Le C := ⟨fun i hi => h.ok i (k.ok i hi), fun x hx => k.rs x (h.rs x hx)⟩
theorem Rel.down {B B' : Bd} {φ : Emb} {M : Mem} {w : World} (hle : B.Le B') (h : Rel P GL B' φ M w) : Rel P GL B φ M w :=
  ⟨fun id b hb => let ⟨e, he, hr⟩ := h.blk id b hb; ⟨e, he, hr.esz, hr.cells, hr.len, fun hw => hle.ok _ (hr.own hw), hr.whole⟩, h.sep, h.glob, fun k hk => hle.ok k (h.size k hk), h.ids, fun x hx => h.rnd x (hle.rs x hx)⟩
theorem Post.down {B B' : Bd} {φ φ' : Emb} {M M' : Mem} {L : List Nat} {w w' : World} (hle : B.Le B') (h : Post P GL B' φ φ' M M' L w w') : Post P GL B φ φ' M M' L w w' :=
  ⟨h.ext, h.next, h.rel.down hle, ⟨h.fr.os, h.fr.tape, h.fr.output, h.fr.size, fun k hk => (h.fr.block k hk).imp id fun ⟨q, r⟩ => ⟨hle.ok k q, r⟩⟩, h.newb, h.logb⟩
def SaysM (P : Program) (GL : List Nat) (s s' : St) (e : AExit) (X : (Exit → Act → World → Prop) → Act → World → Prop) : Prop :=
  ∀ m B φ a w Q, Rel P GL B φ s.M w → Good φ s.M s'.M → TRel φ s.T s.n a.tmps → Marks m B w a.defers →
    (∀ B' L φ' a' w', B.Le B' → s'.M.log = L ++ s.M.log → Post P GL B φ φ' s.M s'.M L w w' → Rel P GL B' φ' s'.M w' → TRel φ' s'.T s'.n a'.tmps → Marks m B' w' a'.defers → Q (conc e) a' w') → X Q a w
theorem Says.marks {s s' : St} {e : AExit} {X : (Exit → Act → World → Prop) → Act → World → Prop} (h : ∀ B, Says P GL B s s' e X) : SaysM P GL s s' e X := by
  intro m B φ a w Q hR hG hT hM hk
  refine h B φ a w Q hR hG hT fun L φ' a' w' h1 h2 h3 h4 => hk B L φ' a' w' (.refl B) h1 h2 h2.rel h3 ?_
  rw [h4]; exact hM.step h2.fr
theorem SaysM.trans {s s1 s2 : St} {e : AExit} {X Y : (Exit → Act → World → Prop) → Act → World → Prop} (hn : s1.M.next ≤ s2.M.next) (h : SaysM P GL s s1 .normal X) (k : SaysM P GL s1 s2 e Y)
    {Z : (Exit → Act → World → Prop) → Act → World → Prop} (hz : ∀ Q a w, X (Exit.then (fun a w => Y Q a w) Q) a w → Z Q a w) : SaysM P GL s s2 e Z := by
  intro m B φ a w Q hR hG hT hM hk
  refine hz Q a w (h m B φ a w _ hR (hG.sub hn) hT hM fun B1 L1 φ1 a1 w1 hle1 hlog1 hp1 hR1 hT1 hM1 => ?_)
  show Y Q a1 w1
  refine k m B1 φ1 a1 w1 Q hR1 (hp1.good hG) hT1 hM1 fun B2 L2 φ2 a2 w2 hle2 hlog2 hp2 hR2 hT2 hM2 => ?_
  exact hk B2 (L2 ++ L1) φ2 a2 w2 (hle1.trans hle2) (by rw [hlog2, hlog1, List.append_assoc]) (hp1.trans (hp2.down hle1)) hR2 hT2 hM2
theorem also_ok (hN : noNum P) (hm : P.follows .mixedOrders = true) {SP : Specs} (hS : ∀ B, SpecsOk P GL B SP) (hB : ∀ id, SP.blocks id = none) {n : Nat} {T : Tr Value} {nt : Nat} {ps : Array Tmp} {as bo : Code}
    {r l : Nat} {R0 : Loop} (hst : R0.state = .ready) (hpe : R0.pending = none) (hps : R0.params = ps) (has : R0.assign = as) (hbd : R0.body = bo)
    {rs : List Rnd} {bn : Nat} {no : List Nat} (hrs : ∀ x ∈ rs, x.l ≠ l) : SpecsOk P GL ⟨bn, no, ⟨r, l, R0, T, nt⟩ :: rs⟩ (SP.also (YB + r) (around P GL SP n T nt ps.toList as bo)) := by
  refine ⟨fun f g hf args M v M' hg => ?_, fun id g hg => (by simp only [Specs.also, hB] at hg; cases hg), fun id g hg => (by simp only [Specs.also, hB] at hg; cases hg), fun f g hf args M v M' hg φ w hR hG args' ha => ?_⟩
  · simp only [Specs.also] at hf
    cases hb : Nat.beq f (YB + r) <;> simp only [hb, cond_true, cond_false] at hf
    · exact (hS ⟨bn, no, ⟨r, l, R0, T, nt⟩ :: rs⟩).abs f g hf args M v M' hg
    · cases hf
      exact around_abs hN hm (hS ⟨bn, no, ⟨r, l, R0, T, nt⟩ :: rs⟩) hg
  · simp only [Specs.also] at hf
    cases hb : Nat.beq f (YB + r) <;> simp only [hb, cond_true, cond_false] at hf
    · exact (hS ⟨bn, no, ⟨r, l, R0, T, nt⟩ :: rs⟩).run f g hf args M v M' hg φ w hR hG args' ha
    · cases hf
      have he : f = YB + r := Nat.eq_of_beq_eq_true hb
      subst he
      refine ⟨fun hlt => absurd hlt (Nat.not_lt.2 (Nat.le_add_right _ _)), fun r' en h1 h2 => ?_⟩
      have h1' : r' = r := Nat.add_left_cancel h1.symm
      subst h1'
      obtain ⟨e0, h3, h4⟩ := (hR.rnd _ (List.mem_cons_self ..)).emb
      simp only at h3 h4
      rw [h2] at h3
      cases h3
      rw [h4]
      exact around_ok hN hm hS hB hst hpe hps has hbd hrs hg hR hG ha
theorem arange_abs (hN : noNum P) (hm : P.follows .mixedOrders = true) {SP : Specs} (hS : ∀ B, SpecsOk P GL B SP) (hB : ∀ id, SP.blocks id = none) {n : Nat} {f : Operand} {ps : Array Tmp} {as bo : Code} {s s' : St} {e : AExit}
    (h : arange P GL SP n f ps as bo s = some (e, s')) : ∃ L, Abs s.M s'.M L := by
  unfold arange at h
  split at h
  case h_2 => cases h
  split at h
  case h_2 => cases h
  rename_i g first captured _
  cases hb : hasBody P g <;> simp only [hb, cond_true, cond_false] at h
  · cases h
  split at h
  case h_2 => cases h
  rename_i v M2 hrun
  cases h
  obtain ⟨L, hL⟩ := arun_abs hN hm (also_ok hN hm hS hB (n := n) (T := s.T) (nt := s.n) (ps := ps) (as := as) (bo := bo) (r := s.M.next) (l := 0)
    (R0 := { state := .ready, pending := none, fn := 0, tmps := #[], params := ps, assign := as, body := bo, defers := 0 }) rfl rfl rfl rfl rfl (rs := []) (bn := 0) (no := []) (fun x hx => by cases hx)) n g _ _ _ _ hrun
  exact ⟨_, (skip_abs s.M).trans hL⟩
theorem arange_says (hN : noNum P) (hm : P.follows .mixedOrders = true) {SP : Specs} (hS : ∀ B, SpecsOk P GL B SP) (hB : ∀ id, SP.blocks id = none) {n : Nat} {f : Operand} {ps : Array Tmp} {as bo : Code} {s s' : St} {e : AExit}
    (h : arange P GL SP n f ps as bo s = some (e, s')) : SaysM P GL s s' e fun Q a w => (Code.rangeFunc f ps as bo).wpIn (RO none) 0 P Q a w := by
  unfold arange at h
  split at h
  case h_2 => cases h
  rename_i fv hf
  split at h
  case h_2 => cases h
  rename_i g first captured htg
  cases hbd : hasBody P g <;> simp only [hbd, cond_true, cond_false] at h
  · cases h
  split at h
  case h_2 => cases h
  rename_i v M2 hrun
  cases h
  intro m B φ a w Q hR hG hT hM hk
  have hg : GRel GL φ := fun g hgl => (hR.glob g hgl).2
  obtain ⟨x', y', e1, e2, e3⟩ := target_inv (ev_sound (a := a) hg hT hf) htg
  refine wpIn_rangeFunc fun fn _ => ?_
  let R0 : Loop := { state := .ready, pending := none, fn, tmps := a.tmps, params := ps, assign := as, body := bo, defers := w.heap.size }
  let l := w.heap.size + 1
  let r := s.M.next
  let w1 : World := (w.alloc (.deferred (some []))).alloc (.loop R0)
  let B1 : Bd := ⟨B.n, w.heap.size :: B.no, ⟨r, l, R0, s.T, s.n⟩ :: B.rs⟩
  have hw1s : w1.heap.size = w.heap.size + 2 := by simp [w1]
  have hold : ∀ k, k < w.heap.size → w1.heap[k]? = w.heap[k]? := fun k hk => by
    show ((w.alloc (.deferred (some []))).alloc (.loop R0)).heap[k]? = _
    rw [heap_alloc_old _ _ (by simp; omega), heap_alloc_old _ _ hk]
  have hdef : w1.heap[w.heap.size]? = some (.deferred (some [])) := by
    show ((w.alloc (.deferred (some []))).alloc (.loop R0)).heap[w.heap.size]? = _
    rw [heap_alloc_old _ _ (by simp), heap_alloc_new]
  have hloop : w1.heap[l]? = some (.loop R0) := by
    have := heap_alloc_new (w.alloc (.deferred (some []))) (.loop R0)
    rw [World.size_alloc] at this
    exact this
  obtain ⟨L0, hA⟩ := arange_abs hN hm hS hB (n := n) (f := f) (ps := ps) (as := as) (bo := bo) (s := s) (s' := { s with M := M2 }) (e := .normal) (by unfold arange; simp only [hf, htg, hbd, cond_true, hrun])
  have hskn : s.M.skip.next = s.M.next + 1 := rfl
  obtain ⟨L1, hA1⟩ := arun_abs hN hm (also_ok hN hm hS hB (n := n) (T := s.T) (nt := s.n) (ps := ps) (as := as) (bo := bo) (r := s.M.next) (l := 0)
    (R0 := { state := .ready, pending := none, fn := 0, tmps := #[], params := ps, assign := as, body := bo, defers := 0 }) rfl rfl rfl rfl rfl (rs := []) (bn := 0) (no := []) (fun x hx => by cases hx)) n g _ _ _ _ hrun
  have hn2 : s.M.next + 1 ≤ M2.next := hA1.next
  let φ1 : Emb := fun id => if id = r then some ⟨l, 0, 0, 0⟩ else φ id
  have hφ1r : φ1 r = some ⟨l, 0, 0, 0⟩ := if_pos rfl
  have hφr : φ r = none := hG r (Nat.le_refl _) (by show s.M.next < M2.next; omega)
  have hle : φ.le φ1 := fun id e he => by
    have : id ≠ r := fun x => by rw [x, hφr] at he; cases he
    simp only [φ1]; rw [if_neg this]; exact he
  have hokB : ∀ k, B1.ok k → B.ok k := fun k hk => ⟨hk.1, fun h => hk.2.1 (List.mem_cons_of_mem _ h), fun x hx => hk.2.2 x (List.mem_cons_of_mem _ hx)⟩
  have hok1 : ∀ k, B.ok k → k < w.heap.size → B1.ok k := fun k hk hlt => ⟨hk.1, fun h => by
    rcases List.mem_cons.1 h with rfl | h
    · omega
    · exact hk.2.1 h, fun x hx => by
    rcases List.mem_cons.1 hx with rfl | hx
    · show k ≠ w.heap.size + 1; omega
    · exact hk.2.2 x hx⟩
  have hrs : ∀ x ∈ B.rs, x.l ≠ l := fun x hx he => by
    have := (hR.rnd x hx).lt
    rw [he] at this
    have : w.heap.size + 1 < w.heap.size := this
    omega
  have hR1 : Rel P GL B1 φ1 s.M.skip w1 := by
    refine ⟨fun id b hb => ?_, fun id1 id2 b1 b2 e1 e2 hne hb1 hb2 ho he1 he2 => ?_, fun g hgl => ?_, fun k hk => ?_, fun id b hb => ?_, fun x hx => ?_⟩
    · rw [skip_get] at hb
      by_cases hid : id = s.M.next
      · rw [if_pos hid] at hb; cases hb
      · rw [if_neg hid] at hb
        obtain ⟨e, he, hr⟩ := hR.blk id b hb
        have hk := hr.keep hle (hold _ hr.lt)
        exact ⟨e, hle _ _ he, hk.esz, hk.cells, hk.len, fun hw => hok1 _ (hr.own hw) hr.lt, hk.whole⟩
    · rw [skip_get] at hb1 hb2
      by_cases h1 : id1 = s.M.next
      · rw [if_pos h1] at hb1; cases hb1
      · by_cases h2 : id2 = s.M.next
        · rw [if_pos h2] at hb2; cases hb2
        · rw [if_neg h1] at hb1
          rw [if_neg h2] at hb2
          simp only [φ1] at he1 he2
          rw [if_neg h1] at he1
          rw [if_neg h2] at he2
          exact hR.sep id1 id2 b1 b2 e1 e2 hne hb1 hb2 ho he1 he2
    · obtain ⟨k1, e, k2, k3⟩ := hR.glob g hgl
      exact ⟨Nat.lt_succ_of_lt k1, e, hle _ _ k2, k3⟩
    · have hb := hR.size k (by omega)
      exact ⟨hb.1, fun h => by
        rcases List.mem_cons.1 h with rfl | h
        · omega
        · exact hb.2.1 h, fun x hx => by
        rcases List.mem_cons.1 hx with rfl | hx
        · show k ≠ w.heap.size + 1; omega
        · exact hb.2.2 x hx⟩
    · rw [skip_get] at hb
      by_cases hid : id = s.M.next
      · rw [if_pos hid] at hb; cases hb
      · rw [if_neg hid] at hb
        exact Nat.lt_succ_of_lt (hR.ids id b hb)
    · rcases List.mem_cons.1 hx with rfl | hx
      · exact ⟨⟨_, hφ1r, rfl⟩, hloop, hT.mono hle⟩
      · exact (hR.rnd x hx).step hle (hold _ (hR.rnd x hx).lt)
  have hG1 : Good φ1 s.M.skip M2 := fun id h1 h2 => by
    have h1' : s.M.next + 1 ≤ id := h1
    have : id ≠ r := by show id ≠ s.M.next; omega
    simp only [φ1]; rw [if_neg this]
    exact hG id (by omega) h2
  have hargs : LRel φ1 (first ++ [Value.func (.yield s.M.next) #[] #[]] ++ captured) (x' ++ #[Value.func (.yield l) #[] #[]] ++ y').toList := by
    have h1 : LRel φ1 [Value.func (.yield s.M.next) #[] #[]] [Value.func (.yield l) #[] #[]] := .cons (.yld (e := ⟨l, 0, 0, 0⟩) hφ1r) .nil
    have := ((LRel.mono hle e2).append h1).append (LRel.mono hle e3)
    simpa using this
  have hcalls := arun_calls hN hm (also_ok hN hm hS hB (n := n) (T := s.T) (nt := s.n) (ps := ps) (as := as) (bo := bo) (r := r) (l := l) (R0 := R0) rfl rfl rfl rfl rfl (rs := B.rs) (bn := B.n) (no := w.heap.size :: B.no) hrs) n hrun hR1 hG1 _ hargs
  refine ⟨l, _, w1, { target := .fn (.func g) y', args := x' ++ #[.func (.yield l) #[] #[]] }, w1, g, x' ++ #[.func (.yield l) #[] #[]] ++ y', w1, run_enterLoop_outer fn a.tmps ps as bo, ?_, fun f' _ => RO_fn _ f', ?_, fun hx => by simp [RO, Fence.wide] at hx, ?_⟩
  · have hc : a.eval (.const (.func (.yield l) #[] #[])) = .func (.yield l) #[] #[] := rfl
    simp [resolve, rangeCall, e1, Deferred.ofValue, hc]
  · simp [invoke, callFunc_run hN hbd]
  · refine CallsIn.mono (R := _) ((callsIn_wide (n := 0 - 1)).2 hcalls) fun e' w3 ⟨L, φ', v', he', hlog, hp, hv'⟩ => ?_
    subst he'
    have X := hp.rel.rnd _ (List.mem_cons_self ..)
    have Xl : w3.heap[l]? = some (.loop R0) := X.lies
    refine ⟨none, _, run_endLoop Xl (by show LoopState.ready ≠ LoopState.busy; exact fun hh => by cases hh), ?_⟩
    show Q .normal _ _
    have hsz3 : w1.heap.size ≤ w3.heap.size := hp.fr.size
    have hdef3 : w3.heap[w.heap.size]? = some (.deferred (some [])) := by
      rcases hp.fr.block w.heap.size (by omega) with q | ⟨q, _⟩
      · rw [q]; exact hdef
      · exact absurd (List.mem_cons_self ..) q.2.1
    let B2 : Bd := ⟨B.n, w.heap.size :: l :: B.no, B.rs⟩
    have hle2 : B.Le B2 := ⟨fun k hk => ⟨hk.1, fun h => hk.2.1 (List.mem_cons_of_mem _ (List.mem_cons_of_mem _ h)), hk.2.2⟩, fun x hx => hx⟩
    have hB12 : ∀ k, B1.ok k → B2.ok k := fun k hk => ⟨hk.1, fun h => by
      rcases List.mem_cons.1 h with rfl | h
      · exact hk.2.1 (List.mem_cons_self ..)
      · rcases List.mem_cons.1 h with rfl | h
        · exact hk.2.2 _ (List.mem_cons_self ..) rfl
        · exact hk.2.1 (List.mem_cons_of_mem _ h), fun x hx => hk.2.2 x (List.mem_cons_of_mem _ hx)⟩
    have hR4 : Rel P GL B2 φ' M2 (w3.putObj l (.loop { R0 with state := .exhausted })) := hp.rel.poke hB12 Xl (fun _ _ _ hc => by cases hc) fun x hx =>
      (hp.rel.rnd x (List.mem_cons_of_mem _ hx)).poke _ (hrs x hx)
    have hlne : ∀ k, k < w.heap.size → k ≠ l := fun k hk he => by
      have : k = w.heap.size + 1 := he
      omega
    refine hk B2 L φ' _ _ hle2 (by rw [hlog]; rfl) ⟨fun id hid => ?_, by show s.M.next ≤ M2.next; omega, hR4.down hle2, ⟨hp.fr.os, hp.fr.tape, hp.fr.output, by rw [World.putObj_size]; omega, fun k hk2 => ?_⟩, fun id e h1 h2 h3 => ?_, hp.logb⟩ hR4 ⟨hT.1, fun t v hv => ?_⟩ ?_
    · have hnr : id ≠ r := by
        show id ≠ s.M.next
        rcases hid with hid | hid
        · omega
        · have : M2.next ≤ id := hid
          omega
      have := hp.ext id (by
        rcases hid with hid | hid
        · exact .inl (by rw [hskn]; omega)
        · exact .inr hid)
      rw [this]
      simp only [φ1]; rw [if_neg hnr]
    · rw [World.putObj_heap_other (hlne k hk2)]
      rcases hp.fr.block k (by omega) with q | ⟨q1, t, q2, e, q3, q4⟩
      · rw [q]; exact .inl (hold k hk2)
      · refine .inr ⟨hokB k q1, t, q2, e, ?_, q4⟩
        by_cases htr : t = r
        · simp only [φ1] at q3
          rw [if_pos htr] at q3
          cases q3
          exact absurd q4.symm (hlne k hk2)
        · simp only [φ1] at q3
          rw [if_neg htr] at q3; exact q3
    · by_cases hid : id = r
      · have := hp.ext id (.inl (by rw [hskn, hid]; exact Nat.lt_succ_self _))
        rw [this] at h3
        simp only [φ1] at h3
        rw [if_pos hid] at h3
        cases h3
        exact .inl (Nat.le_succ _)
      · have h1' : s.M.next ≤ id := h1
        have hid' : id ≠ s.M.next := hid
        rcases hp.newb id e (by rw [hskn]; omega) h2 h3 with q | ⟨t, q2, e0, q3, q4⟩
        · exact .inl (by omega)
        · by_cases htr : t = r
          · simp only [φ1] at q3
            rw [if_pos htr] at q3
            cases q3
            left
            rw [← q4]
            exact Nat.le_succ _
          · simp only [φ1] at q3
            rw [if_neg htr] at q3
            exact .inr ⟨t, q2, e0, q3, q4⟩
    · obtain ⟨v', h1, h2⟩ := hT.2 t v hv
      exact ⟨v', h1, h2.mono (Emb.le_trans hle (hp.le hG1))⟩
    · refine ⟨fun d hd => ?_, by rw [World.putObj_size]; exact Nat.le_trans hM.size (by omega), ?_⟩
      · rcases List.mem_cons.1 hd with rfl | hd
        · exact ⟨w.heap.size, rfl, by rw [World.putObj_heap_other (by show w.heap.size ≠ w.heap.size + 1; omega)]; exact hdef3, fun hk => hk.2.1 (List.mem_cons_self ..), hM.size⟩
        · obtain ⟨b, h1, h2, h3, h4⟩ := hM.each d hd
          have hb := lt_of_heap h2
          refine ⟨b, h1, ?_, fun hk => h3 (hle2.ok b hk), h4⟩
          rw [World.putObj_heap_other (hlne b hb)]
          rcases hp.fr.block b (by omega) with q | ⟨q, _⟩
          · rw [q, hold b hb]; exact h2
          · exact absurd (hokB b q) h3
      · refine List.pairwise_cons.2 ⟨fun d hd he => ?_, hM.pair⟩
        obtain ⟨b, h1, h2, h3, _⟩ := hM.each d hd
        have hb := lt_of_heap h2
        rw [h1] at he
        cases he
        omega
end Go.Am
end
