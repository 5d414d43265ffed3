/-
  THE ABSTRACT MACHINE: what a loop comes to, by an invariant.
-/
import Derived.Test.YtchnlooenomfnaaGreatDoorAmLoop
import Derived.Test.YtchnlooenomfnaaGreatDoorAmTop
noncomputable section
namespace Go.Am
open Go

variable {P : Program} {GL : List Nat} {B : Bd}

def View (n0 nx : Nat) (mv : Moves) (keep L lg : List Nat) (s s2 : St) : Prop :=
  rebase n0 nx mv keep L lg s = some s2 ∧ ∀ l ∈ stills s.M mv, renL mv l = some l

theorem rebase_out {n0 nx : Nat} {mv : Moves} {keep L lg : List Nat} {s s2 : St} (h : rebase n0 nx mv keep L lg s = some s2) :
    s2.M.log = L ++ lg ∧ s2.M.next = nx ∧ s2.M.hide = [] ∧ s2.n = s.n ∧ n0 ≤ nx ∧ s.M.hide = [] ∧ (∀ t ∈ L, t < n0) ∧ ∃ R, rebB mv s.M mv = some R ∧ s2.M.blks = R := by
  unfold rebase at h
  split at h <;> try cases h
  rename_i hh
  generalize hc : (Nat.ble n0 nx && distinct (mv.map (·.1)) && distinct (mv.map (·.2.1)) && movesOk n0 nx L mv && logOk n0 L s.M.log && allLt n0 L) = c at h
  cases c <;> simp only [cond_true, cond_false] at h
  · cases h
  simp only [Bool.and_eq_true] at hc
  split at h <;> try cases h
  rename_i T R hT hB
  exact ⟨rfl, rfl, rfl, rfl, Nat.le_of_ble_eq_true hc.1.1.1.1.1, hh, fun t ht => allLt_mem hc.2 ht, R, hB, rfl⟩

theorem loop_says (hN : noNum P) (hm : P.follows .mixedOrders = true) {δ : Type} (I : δ → St) (Inv : δ → Prop) (meas : δ → Nat) {s0 sF : St} {b : Code} {e : AExit} {n0 K nx0 : Nat} {L keep0 : List Nat} {mv0 : Moves} {d0 : δ}
    (he : e ≠ .normal) (hn : s0.M.next = n0) (hent : View n0 nx0 mv0 keep0 L s0.M.log s0 (I d0)) (hd0 : Inv d0) (hK0 : n0 ≤ K)
    (step : ∀ d, Inv d → ∃ SP n s1, SpecsOk P GL B SP ∧ s1.M.next ≤ K ∧
      ((∃ nx mv keep d', aexec P GL SP n b (I d) = some (.normal, s1) ∧ View n0 nx mv keep L s0.M.log s1 (I d') ∧ Inv d' ∧ meas d' < meas d) ∨
        (∃ mv keep, aexec P GL SP n b (I d) = some (e, s1) ∧ View n0 K mv keep L s0.M.log s1 sF))) :
    sF.M.log = L ++ s0.M.log → sF.M.next = K → Says P GL B s0 sF e fun Q a w => Code.rounds P b Q (meas d0 + 1) a w := by
  intro hFl hFn φ a w Q hR hG hT hk
  have hG' : ∀ id, n0 ≤ id → id < K → φ id = none := fun id h1 h2 => hG id (by omega) (by omega)
  have hIK : ∀ d, Inv d → (I d).M.next ≤ K := fun d hd => by
    obtain ⟨SP, n, s1, hS, hs1, hstep⟩ := step d hd
    rcases hstep with ⟨_, _, _, _, hx, _⟩ | ⟨_, _, hx, _⟩ <;> exact Nat.le_trans ((aexec_ok hN hm hS n).abs _ _ _ _ hx).choose_spec.next hs1
  have key : ∀ m d, Inv d → meas d < m → (I d).M.log = L ++ s0.M.log → ∀ φ' a' w', Post P GL B φ φ' s0.M (I d).M L w w' → TRel φ' (I d).T (I d).n a'.tmps → a'.defers = a.defers → Code.rounds P b Q m a' w' := by
    intro m
    induction m with
    | zero => intro d _ h; omega
    | succ m ih =>
      intro d hd hlt hlog φ' a' w' hp hT' hdef
      obtain ⟨SP, n, s1, hS, hs1, hstep⟩ := step d hd
      have hGd : ∀ s1 : St, s1.M.next ≤ K → Good φ' (I d).M s1.M := fun s1 hs id h1 h2 => by
        rw [hp.ext id (.inr h1)]
        have := hp.next
        exact hG' id (by omega) (by omega)
      have body : ∀ {e1}, aexec P GL SP n b (I d) = some (e1, s1) → (∀ φ1 a1 w1 L1, Post P GL B φ φ1 s0.M s1.M L1 w w1 → s1.M.log = L1 ++ s0.M.log → TRel φ1 s1.T s1.n a1.tmps → a1.defers = a.defers → Exit.then (Code.rounds P b Q m) Q (conc e1) a1 w1) → Code.rounds P b Q (m + 1) a' w' := fun hx hq => by
        rw [rounds_succ]
        refine (aexec_ok hN hm hS n).run _ _ _ _ hx φ' a' w' _ hp.rel (hGd s1 hs1) hT' fun L1 φ1 a1 w1 h1 h2 h3 h4 => ?_
        exact hq φ1 a1 w1 (L1 ++ L) (hp.trans h2) (by rw [h1, hlog, List.append_assoc]) h3 (h4.trans hdef)
      rcases hstep with ⟨nx, mv, keep, d', hx, hv, hi, hlt'⟩ | ⟨mv, keep, hx, hv⟩
      · refine body hx fun φ1 a1 w1 L1 h1 h2 h3 h4 => ?_
        obtain ⟨φ2, h5, h6⟩ := reb_post hR hn hG' hs1 (by have := hIK d' hi; rw [(rebase_out hv.1).2.1] at this; exact this) h1 h2 hv.1 hv.2
        exact ih d' hi (by omega) (rebase_out hv.1).1 φ2 a1 w1 h5 (h6 _ h3) h4
      · refine body hx fun φ1 a1 w1 L1 h1 h2 h3 h4 => ?_
        obtain ⟨φ2, h5, h6⟩ := reb_post hR hn hG' hs1 (Nat.le_refl _) h1 h2 hv.1 hv.2
        have hq := hk L φ2 a1 w1 hFl h5 (h6 _ h3) h4
        cases e with
        | normal => exact absurd rfl he
        | exit i => exact hq
        | ret => exact hq
        | goto i => exact hq
  obtain ⟨φ2, h5, h6⟩ := reb_post hR hn hG' (by omega) (by have := hIK d0 hd0; rw [(rebase_out hent.1).2.1] at this; exact this) (Post.refl hR) rfl hent.1 hent.2
  exact key _ d0 hd0 (Nat.lt_succ_self _) (rebase_out hent.1).1 φ2 a w h5 (h6 _ hT) rfl

/- Which old blocks are as they were? -/
def keepsOk (L : List Nat) (mv : Moves) (M : Mem) : Nat → Bool
  | 0 => true
  | n + 1 => (memN n L || mv.any (fun p => Nat.beq p.1 n && Nat.beq p.2.1 n && p.2.2) || ((M.blks.get n).isNone && !memN n (mv.map (·.1)))) && keepsOk L mv M n

theorem keepsOk_mem {L : List Nat} {mv : Moves} {M : Mem} : ∀ {n id : Nat}, keepsOk L mv M n = true → id < n → memN id L || mv.any (fun p => Nat.beq p.1 id && Nat.beq p.2.1 id && p.2.2) || ((M.blks.get id).isNone && !memN id (mv.map (·.1)))
  | 0, _, _, h => absurd h (Nat.not_lt_zero _)
  | n + 1, id, h, hlt => by
    simp only [keepsOk, Bool.and_eq_true] at h
    by_cases he : id = n
    · subst he; exact h.1
    · exact keepsOk_mem h.2 (by omega)

theorem rebB_has {ρ : Moves} {M : Mem} {t s : Nat} {fl : Bool} : ∀ {mv : Moves} {R : Tr ABlk}, rebB ρ M mv = some R → (t, s, fl) ∈ mv → ∃ b, M.get s = some b
  | [], _, _, hm => by cases hm
  | (t1, s1, f1) :: mv, R, hR, hm => by
    simp only [rebB] at hR
    split at hR
    · rename_i b0 R1 hb0 hR1
      rcases List.mem_cons.1 hm with hm | hm
      · cases hm; exact ⟨b0, hb0⟩
      · exact rebB_has hR1 hm
    · cases hR
theorem rebB_same {ρ : Moves} {M : Mem} {t : Nat} : ∀ {mv : Moves} {R : Tr ABlk}, rebB ρ M mv = some R → distinct (mv.map (·.1)) = true → (t, t, true) ∈ mv → R.get t = M.get t
  | [], _, _, _, h => by cases h
  | (t0, s, fl) :: mv, R, h, hd, hm => by
    simp only [rebB] at h
    simp only [List.map_cons, distinct, Bool.and_eq_true, Bool.not_eq_true'] at hd
    split at h
    · rename_i b0 R1 h1 h2
      rcases List.mem_cons.1 hm with hm | hm
      · cases hm
        simp only [cond_true, Option.some.injEq] at h
        subst h
        rw [Tr.get_set, if_pos rfl, h1]
      · have hne : t ≠ t0 := fun he => by
          have : t0 ∈ mv.map (·.1) := List.mem_map.2 ⟨(t, t, true), hm, he⟩
          rw [memN_iff.2 this] at hd
          cases hd.1
        have ih := rebB_same h2 hd.2 hm
        cases fl <;> simp only [cond_true, cond_false] at h
        · split at h
          · cases h
            rw [Tr.get_set, if_neg hne, ih]
          · cases h
        · cases h
          rw [Tr.get_set, if_neg hne, ih]
    · cases h

theorem rebB_none {ρ : Moves} {M : Mem} {t : Nat} : ∀ {mv : Moves} {R : Tr ABlk}, rebB ρ M mv = some R → memN t (mv.map (·.1)) = false → R.get t = none
  | [], R, h, _ => by
    simp only [rebB, Option.some.injEq] at h
    subst h; simp [Tr.get]
  | (t0, s, fl) :: mv, R, h, hm => by
    simp only [rebB] at h
    simp only [List.map_cons, memN, Bool.or_eq_false_iff] at hm
    have hne : t ≠ t0 := fun he => by subst he; simp at hm
    split at h
    · rename_i b0 R1 h1 h2
      have ih := rebB_none h2 hm.2
      cases fl <;> simp only [cond_true, cond_false] at h
      · split at h
        · cases h
          rw [Tr.get_set, if_neg hne, ih]
        · cases h
      · cases h
        rw [Tr.get_set, if_neg hne, ih]
    · cases h

/- How a loop is met: from which memory on, what is kept, under which numbers. -/
structure Door where
  n0 : Nat
  nx : Nat
  mv : Moves
  keep : List Nat
  L : List Nat
  lg : List Nat

structure Door.At (D : Door) (s t : St) : Prop where
  next : s.M.next = D.n0
  log : s.M.log = D.lg
  view : View D.n0 D.nx D.mv D.keep D.L D.lg s t
  keeps : keepsOk D.L D.mv s.M D.n0 = true

def blkEnd (id : Nat) : AExit → AExit
  | .exit i => bif Nat.beq i id then .normal else .exit i
  | e => e

open Classical in
noncomputable def loopG (b0 : Code) (D : Door) (t : St) (r : AExit × St) : Code → St → Option (AExit × St) := fun b s =>
  if b = b0 ∧ D.At s t then some r else none

theorem loopG_eq {b0 : Code} {D : Door} {t s : St} {r : AExit × St} (h : D.At s t) : loopG b0 D t r b0 s = some r := if_pos ⟨rfl, h⟩

theorem loopG_ok (hN : noNum P) (hm : P.follows .mixedOrders = true) {δ : Type} (I : δ → St) (Inv : δ → Prop) (meas : δ → Nat) {sF : St} {b : Code} {e : AExit} {D : Door} {K id : Nat} {d0 : δ}
    (he : e ≠ .normal) (hd0 : Inv d0) (hK0 : D.n0 ≤ K) (hFl : sF.M.log = D.L ++ D.lg) (hFn : sF.M.next = K) (hFh : sF.M.hide = [])
    (hkeep : ∀ id, id < D.n0 → id ∉ D.L → sF.M.blks.get id = (I d0).M.blks.get id)
    (step : ∀ d, Inv d → ∃ SP n s1, SpecsOk P GL B SP ∧ s1.M.next ≤ K ∧
      ((∃ nx mv keep d', aexec P GL SP n b (I d) = some (.normal, s1) ∧ View D.n0 nx mv keep D.L D.lg s1 (I d') ∧ Inv d' ∧ meas d' < meas d) ∨
        (∃ mv keep, aexec P GL SP n b (I d) = some (e, s1) ∧ View D.n0 K mv keep D.L D.lg s1 sF))) :
    BlkOk P GL B id (loopG (.loop b) D (I d0) (blkEnd id e, sF)) := by
  refine ⟨fun b1 s e1 s' h => ?_, fun b1 s e1 s' h => ?_⟩
  · unfold loopG at h
    split at h
    · rename_i hh
      obtain ⟨rfl, hD⟩ := hh
      cases h
      obtain ⟨k1, k2, k3, k4, k5, k6, k7, R, k8, k9⟩ := rebase_out hD.view.1
      refine ⟨D.L, by rw [hFh, k6], by rw [hFn, hD.next]; exact hK0, by rw [hFl, hD.log], fun id hid hn => ?_, fun t ht => by rw [hFn]; exact Nat.lt_of_lt_of_le (k7 t ht) hK0⟩
      rw [hD.next] at hid
      rw [hkeep id hid hn, k9]
      have hkk := keepsOk_mem hD.keeps hid
      simp only [Bool.or_eq_true, Bool.and_eq_true, Bool.not_eq_true'] at hkk
      rcases hkk with (h1 | h1) | h1
      · exact absurd (memN_iff.1 h1) hn
      · obtain ⟨⟨t, s1, fl⟩, h2, h3⟩ := List.any_eq_true.1 h1
        simp only [Bool.and_eq_true] at h3
        obtain ⟨⟨h3, h4⟩, h5⟩ := h3
        have e1 : t = id := Nat.eq_of_beq_eq_true h3
        have e2 : s1 = id := Nat.eq_of_beq_eq_true h4
        subst e1; subst e2; subst h5
        have hdist : distinct (D.mv.map (·.1)) = true := by
          have := hD.view.1
          unfold rebase at this
          rw [k6] at this
          simp only at this
          generalize hc : (Nat.ble D.n0 D.nx && distinct (D.mv.map (·.1)) && distinct (D.mv.map (·.2.1)) && movesOk D.n0 D.nx D.L D.mv && logOk D.n0 D.L s.M.log && allLt D.n0 D.L) = c at this
          cases c
          · simp only [cond_false] at this; cases this
          · simp only [Bool.and_eq_true] at hc
            exact hc.1.1.1.1.2
        rw [rebB_same k8 hdist h2]
        obtain ⟨b0, hg⟩ := rebB_has k8 h2
        rw [hg]
        exact (getA_spec.1 (get_A hg)).2.2.symm
      · rw [rebB_none k8 h1.2]
        cases hb : s.M.blks.get id with
        | none => rfl
        | some b0 => rw [hb] at h1; cases h1.1
    · cases h
  · unfold loopG at h
    split at h
    · rename_i hh
      obtain ⟨rfl, hD⟩ := hh
      cases h
      have hent : View D.n0 D.nx D.mv D.keep D.L s.M.log s (I d0) := by rw [hD.log]; exact hD.view
      have hs := loop_says hN hm I Inv meas (s0 := s) (sF := sF) (b := b) (e := e) he hD.next hent hd0 hK0 (by rw [hD.log]; exact step) (by rw [hD.log]; exact hFl) hFn
      intro φ a w Q hR hG hT hk
      refine wp_block (wp_loop_rounds _ (hs φ a w _ hR hG hT fun L φ' a' w' h1 h2 h3 h4 => ?_))
      have hq := hk L φ' a' w' h1 h2 h3 h4
      cases e with
      | normal => exact absurd rfl he
      | ret => exact hq
      | goto i => exact hq
      | exit i =>
        simp only [blkEnd] at hq
        cases hb : Nat.beq i id <;> rw [hb] at hq <;> simp only [cond_true, cond_false] at hq
        · have hne : i ≠ id := by intro x; simp [x] at hb
          simp only [conc, Exit.inBlock, hne, if_false]
          exact hq
        · have he : i = id := Nat.eq_of_beq_eq_true hb
          simp only [conc, Exit.inBlock, he, if_true]
          exact hq
    · cases h

end Go.Am
end
