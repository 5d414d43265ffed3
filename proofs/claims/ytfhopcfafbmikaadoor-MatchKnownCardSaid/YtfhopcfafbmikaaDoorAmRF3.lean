/-
  Proved: of these twenty texts and words whether the word is in the text's language, as milestonelaw5.MatchKnown asks it, holds whatever the argument is. Conditions: those of the given row alone (the table math/bits.deBruijn64tab starts as the program's text lays it).
-/
import Derived.Test.YtfhopcfafbmikaaDoorAmRF2
noncomputable section
namespace Go.Am
open Go
variable {P : Program} {GL : List Nat}
def rstep (P : Program) (GL : List Nat) (SP : Specs) (n : Nat) (ih : Code → St → Option (AExit × St)) (c : Code) (s : St) : Option (AExit × St) :=
  match c with
  | .seq a b => match ih a s with
    | some (.normal, s') => ih b s'
    | r => r
  | .cond c x y => match ev GL s.T c with
    | some (.bool t) => ih (bif t then x else y) s
    | _ => none
  | .block id b => match ih b s with
    | some (.exit i, s') => bif Nat.beq i id then some (.normal, s') else some (.exit i, s')
    | r => r
  | .loop b => match ih b s with
    | some (.normal, s') => ih (.loop b) s'
    | r => r
  | .rangeFunc f ps as bo => arange P GL SP n f ps as bo s
  | c => aexec P GL SP n c s
def rexec (P : Program) (GL : List Nat) (SP : Specs) (n : Nat) (m : Nat) : Code → St → Option (AExit × St) :=
  Nat.rec (fun _ _ => none) (fun _ ih => rstep P GL SP n ih) m
def rrun (P : Program) (GL : List Nat) (SP : Specs) (n m : Nat) : FuncId → List Value → Mem → Option (Value × Mem) := aenter P (rexec P GL SP n m)
structure ExecM (P : Program) (GL : List Nat) (ih : Code → St → Option (AExit × St)) : Prop where
  abs : ∀ c s e s', ih c s = some (e, s') → ∃ L, Abs s.M s'.M L
  run : ∀ c s e s', ih c s = some (e, s') → SaysM P GL s s' e fun Q a w => c.wpIn (RO none) 0 P Q a w
  loop : ∀ b s e s', ih (.loop b) s = some (e, s') → ∃ n, SaysM P GL s s' e fun Q a w => Code.roundsIn (RO none) 0 P b Q n a w
theorem rstep_loop {SP : Specs} {n : Nat} {ih : Code → St → Option (AExit × St)} (h : ExecM P GL ih) {b : Code} {s s' : St} {e : AExit} (hs : rstep P GL SP n ih (.loop b) s = some (e, s')) :
    ∃ n, SaysM P GL s s' e fun Q a w => Code.roundsIn (RO none) 0 P b Q n a w := by
  simp only [rstep] at hs
  split at hs
  · rename_i s1 h1
    obtain ⟨k, hk⟩ := h.loop _ _ _ _ hs
    exact ⟨k + 1, SaysM.trans (h.abs _ _ _ _ hs).choose_spec.next (h.run _ _ _ _ h1) hk fun Q a w hx => hx⟩
  · rename_i r hne
    cases hs0 : ih b s with
    | none => rw [hs0] at hs; cases hs
    | some r =>
      rw [hs0] at hs
      cases hs
      refine ⟨1, fun m B φ a w Q hR hG hT hM hk => h.run _ _ _ _ hs0 m B φ a w _ hR hG hT hM fun B' L φ' a' w' h0 h1 h2 h3 h4 h5 => ?_⟩
      have hq := hk B' L φ' a' w' h0 h1 h2 h3 h4 h5
      cases e with
      | normal => exact absurd hs0 (hne s')
      | exit i => exact hq
      | ret => exact hq
      | goto i => exact hq
theorem rstep_ok (hN : noNum P) (hm : P.follows .mixedOrders = true) {SP : Specs} (hS : ∀ B, SpecsOk P GL B SP) (hB : ∀ id, SP.blocks id = none) {n : Nat} {ih : Code → St → Option (AExit × St)} (h : ExecM P GL ih) : ExecM P GL (rstep P GL SP n ih) := by
  have leafA : ∀ c s e s', aexec P GL SP n c s = some (e, s') → ∃ L, Abs s.M s'.M L := (aexec_ok hN hm (hS (bd 0)) n).abs
  have leafR : ∀ c s e s', aexec P GL SP n c s = some (e, s') → SaysM P GL s s' e fun Q a w => c.wpIn (RO none) 0 P Q a w := fun c s e s' hs =>
    Says.marks fun B => (aexec_okR hN hm (hS B) (ro := none) (.inl rfl) n).1.run c s e s' hs
  refine ⟨fun c s e s' hs => ?_, fun c s e s' hs => ?_, fun b s e s' hs => rstep_loop h hs⟩
  · unfold rstep at hs
    split at hs
    · split at hs
      · rename_i s1 h1
        obtain ⟨L1, a1⟩ := h.abs _ _ _ _ h1
        obtain ⟨L2, a2⟩ := h.abs _ _ _ _ hs
        exact ⟨_, a1.trans a2⟩
      · exact h.abs _ _ _ _ hs
    · split at hs
      · exact h.abs _ _ _ _ hs
      · cases hs
    · rename_i id b
      split at hs
      · rename_i i s1 h1
        cases hb : Nat.beq i id <;> simp only [hb, cond_true, cond_false] at hs <;> (cases hs; exact h.abs _ _ _ _ h1)
      · exact h.abs _ _ _ _ hs
    · split at hs
      · rename_i s1 h1
        obtain ⟨L1, a1⟩ := h.abs _ _ _ _ h1
        obtain ⟨L2, a2⟩ := h.abs _ _ _ _ hs
        exact ⟨_, a1.trans a2⟩
      · exact h.abs _ _ _ _ hs
    · exact arange_abs hN hm hS hB hs
    · exact leafA _ _ _ _ hs
  · unfold rstep at hs
    split at hs
    · rename_i x y
      split at hs
      · rename_i s1 h1
        exact SaysM.trans (h.abs _ _ _ _ hs).choose_spec.next (h.run _ _ _ _ h1) (h.run _ _ _ _ hs) fun Q a w hx => wpIn_seq hx
      · rename_i r hne
        cases hs0 : ih x s with
        | none => rw [hs0] at hs; cases hs
        | some r =>
          rw [hs0] at hs
          cases hs
          intro m B φ a w Q hR hG hT hM hk
          refine wpIn_seq (h.run _ _ _ _ hs0 m B φ a w _ hR hG hT hM fun B' L φ' a' w' h0 h1 h2 h3 h4 h5 => ?_)
          have hq := hk B' L φ' a' w' h0 h1 h2 h3 h4 h5
          cases e with
          | normal => exact absurd hs0 (hne s')
          | exit i => exact hq
          | ret => exact hq
          | goto i => exact hq
    · rename_i c x y
      split at hs
      · rename_i t hc
        intro m B φ a w Q hR hG hT hM hk
        have hg : GRel GL φ := fun g hgl => (hR.glob g hgl).2
        have := (ev_sound (a := a) hg hT hc).bool_inv
        refine wpIn_cond this ?_
        cases t <;> exact h.run _ _ _ _ hs m B φ a w Q hR hG hT hM hk
      · cases hs
    · rename_i id b
      split at hs
      · rename_i i s1 h1
        have hMe : s1 = s' := by
          cases hb : Nat.beq i id <;> simp only [hb, cond_true, cond_false] at hs <;> (cases hs; rfl)
        subst hMe
        intro m B φ a w Q hR hG hT hM hk
        refine wpIn_block (h.run _ _ _ _ h1 m B φ a w _ hR hG hT hM fun B' L φ' a' w' q0 q1 q2 q3 q4 q5 => ?_)
        cases hb : Nat.beq i id <;> simp only [hb, cond_true, cond_false] at hs
        · cases hs
          have hne : i ≠ id := by intro x; simp [x] at hb
          simp only [conc, Exit.inBlock, hne, if_false]
          exact hk B' L φ' a' w' q0 q1 q2 q3 q4 q5
        · cases hs
          have he : i = id := Nat.eq_of_beq_eq_true hb
          simp only [conc, Exit.inBlock, he, if_true]
          exact hk B' L φ' a' w' q0 q1 q2 q3 q4 q5
      · rename_i r hne
        cases hs0 : ih b s with
        | none => rw [hs0] at hs; cases hs
        | some r =>
          rw [hs0] at hs
          cases hs
          intro m B φ a w Q hR hG hT hM hk
          refine wpIn_block (h.run _ _ _ _ hs0 m B φ a w _ hR hG hT hM fun B' L φ' a' w' h0 h1 h2 h3 h4 h5 => ?_)
          have hq := hk B' L φ' a' w' h0 h1 h2 h3 h4 h5
          cases e with
          | normal => exact hq
          | exit i => exact absurd hs0 (hne i s')
          | ret => exact hq
          | goto i => exact hq
    · rename_i b
      obtain ⟨k, hk⟩ := rstep_loop (SP := SP) (n := n) h (b := b) (s := s) (e := e) (s' := s') hs
      exact fun m B φ a w Q hR hG hT hM hq => wpIn_loop_rounds k (hk m B φ a w Q hR hG hT hM hq)
    · exact arange_says hN hm hS hB hs
    · exact leafR _ _ _ _ hs
theorem rexec_ok (hN : noNum P) (hm : P.follows .mixedOrders = true) {SP : Specs} (hS : ∀ B, SpecsOk P GL B SP) (hB : ∀ id, SP.blocks id = none) {n : Nat} : ∀ m, ExecM P GL (rexec P GL SP n m)
  | 0 => ⟨fun c s e s' h => (by cases h), fun c s e s' h => (by cases h), fun b s e s' h => (by cases h)⟩
  | m + 1 => rstep_ok hN hm hS hB (rexec_ok hN hm hS hB m)
theorem leaves_marks {fn : Func} {tmps : Array Value} {R : Ending → World → Prop} : ∀ (m : Nat) (ds : List Deferred) (B : Bd) (φ : Emb) (M : Mem) (w : World), Marks m B w ds → Rel P GL B φ M w →
    (∀ w', Rel P GL B φ M w' → w'.os = w.os → w'.tape = w.tape → w'.output = w.output → w'.heap.size = w.heap.size → (∀ k, k < m → w'.heap[k]? = w.heap[k]?) → ∃ v, (results fn tmps).run P w' = .ok v w' ∧ R (.returned v) w') →
    LeavesInM Fence.wide 0 P fn tmps R ds .returning w
  | m, [], B, φ, M, w, _, hR, hk => hk w hR rfl rfl rfl rfl (fun _ _ => rfl)
  | m, d :: ds, B, φ, M, w, hM, hR, hk => by
    obtain ⟨b, h1, h2, h3, h4⟩ := hM.each d (List.mem_cons_self ..)
    obtain ⟨hp1, hp2⟩ := List.pairwise_cons.1 hM.pair
    refine ⟨(by intro hc; cases hc), Or.inl ⟨b, _, h1, run_takeDeferred h2, ?_⟩⟩
    have hM' : Marks m B (w.putObj b (.deferred none)) ds := ⟨fun d' hd' => by
      obtain ⟨b', q1, q2, q3, q4⟩ := hM.each d' (List.mem_cons_of_mem _ hd')
      have : b' ≠ b := fun he => hp1 d' hd' (by rw [h1, q1, he])
      exact ⟨b', q1, by rw [World.putObj_heap_other this]; exact q2, q3, q4⟩, by rw [World.putObj_size]; exact hM.size, hp2⟩
    have hR' : Rel P GL B φ M (w.putObj b (.deferred none)) := hR.poke (fun k hk => hk) h2 (fun _ _ _ hc => by cases hc) fun x hx => (hR.rnd x hx).poke _ (fun he => by
      have := (hR.rnd x hx).lies
      rw [he, h2] at this
      cases this)
    exact leaves_marks m ds B φ M _ hM' hR' fun w' q1 q2 q3 q4 q5 q6 => hk w' q1 q2 q3 q4 (by rw [q5, World.putObj_size]) (fun k hkm => by rw [q6 k hkm, World.putObj_heap_other (by omega)])
theorem rrun_ok (hN : noNum P) (hm : P.follows .mixedOrders = true) {SP : Specs} (hS : ∀ B, SpecsOk P GL B SP) (hB : ∀ id, SP.blocks id = none) (n m : Nat) (f : FuncId) {B : Bd} : SpecOk P GL B f (rrun P GL SP n m f) := by
  have h := rexec_ok hN hm hS hB (n := n) m
  refine ⟨fun args M v M' hc => aenter_abs (P := P) h.abs f args M v M' hc, fun args M v M' hc φ w hR hG args' ha => ?_⟩
  unfold rrun aenter at hc
  split at hc
  · rename_i fn hf
    split at hc
    · rename_i c hb
      cases hq : Nat.ble args.length fn.ntmps <;> simp only [hq, cond_true, cond_false] at hc
      · simp at hc
      · have hlen : args.length ≤ fn.ntmps := Nat.le_of_ble_eq_true hq
        have fin : ∀ (e : AExit) (s : St), (e = .normal ∨ e = .ret) → rexec P GL SP n m c ⟨initT args 0 .nil, fn.ntmps, M⟩ = some (e, s) → aresults P fn s = some v → s.M = M' →
            Calls P f args' w fun e w' => ∃ L φ' v', e = .returned v' ∧ M'.log = L ++ M.log ∧ Post P GL B φ φ' M M' L w w' ∧ VRel φ' v v' := fun e s he hr hres hM => by
          subst hM
          refine (callsIn_wide (n := 0)).1 (callsIn_of_wp_marks hf hb trivial ?_)
          refine h.run _ _ _ _ hr w.heap.size B φ _ w _ hR hG (init_TRel ha hlen) .nil fun B' L φ' a' w' hle hlog hp hR' hT hMk => ?_
          have key : LeavesInM Fence.wide 0 P fn a'.tmps (fun e w' => ∃ L φ' v', e = .returned v' ∧ s.M.log = L ++ M.log ∧ Post P GL B φ φ' M s.M L w w' ∧ VRel φ' v v') a'.defers .returning w' := by
            refine leaves_marks w.heap.size a'.defers B' φ' s.M w' hMk hR' fun w2 hR2 q1 q2 q3 q4 q5 => ?_
            obtain ⟨v', e1, e2⟩ := results_sound hR2 hT hres
            refine ⟨v', e1, L, φ', v', rfl, hlog, ⟨hp.ext, hp.next, hR2.down hle, ⟨q1.trans hp.fr.os, q2.trans hp.fr.tape, q3.trans hp.fr.output, by rw [q4]; exact hp.fr.size, fun k hk => ?_⟩, hp.newb, hp.logb⟩, e2⟩
            rw [q5 k hk]; exact hp.fr.block k hk
          rcases he with rfl | rfl <;> exact key
        split at hc
        · rename_i s hr
          split at hc
          · rename_i v1 hv1
            simp at hc
            obtain ⟨rfl, hM⟩ := hc
            exact fin _ s (.inl rfl) hr hv1 hM
          · simp at hc
        · rename_i s hr
          split at hc
          · rename_i v1 hv1
            simp at hc
            obtain ⟨rfl, hM⟩ := hc
            exact fin _ s (.inr rfl) hr hv1 hM
          · simp at hc
        · simp at hc
    · simp at hc
  · simp at hc
end Go.Am
end
