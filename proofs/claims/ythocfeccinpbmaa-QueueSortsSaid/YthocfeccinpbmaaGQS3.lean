/-
  QueueSorts: whatever the two rows, the call returns true, and its arguments read as they did.
-/
import Derived.Test.YthocfeccinpbmaaGQS2
open Go Go.Am Go.Proofs
namespace Go.Proofs.Ythocfeccinpbmaa
set_option maxRecDepth 100000

theorem specs4N (bs : List (Nat × (Code → St → Option (AExit × St)))) (B : Nat) (hb : ∀ p ∈ bs, BlkOk Try.prog [] B p.1 p.2) : SpecsOk Try.prog [] B (SP4N bs) := specsB_ok (fun p hp => by
  rw [List.mem_singleton.1 hp]
  exact okKnown B) hb
theorem specs4Q (bs : List (Nat × (Code → St → Option (AExit × St)))) (B : Nat) (hb : ∀ p ∈ bs, BlkOk Try.prog [] B p.1 p.2) : SpecsOk Try.prog [] B (SP4Q bs) := specsB_ok (fun p hp => by
  simp only [List.mem_cons, List.not_mem_nil, or_false] at hp
  rcases hp with rfl | rfl | rfl
  · exact okKnown B
  · exact ok20 B
  · exact ok16 B) hb
theorem qm4 {p r e pl n m : Nat} {E : List En} {Pl : List Int} (hn : E.length = n) (hm : Pl.length = m) (hd : Go.Am.distinct [p, r, e, pl] = true) {M : Mem}
    (h : [p, r, e, pl].map M.get = [some (lineB r e pl n m), some (own fns 41 1), some (own (ents E) 43 2), some (own (ints Pl) 3 1)]) : QM M p r e pl E Pl := by
  subst hn; subst hm
  simp only [List.map_cons, List.map_nil, List.cons.injEq, and_true] at h
  exact ⟨h.1, h.2.1, h.2.2.1, h.2.2.2, hd⟩
def SA4 (av : Value) (ob : List (Nat × ABlk)) (n el : Nat) (zs : List Int) (j : Nat) (s : QS) (t : RS) : St :=
  match s.E with
  | none => A4 zs.length av ob n el (ints zs) (j : Int) s.Pl t.K (lineN 2 3 n) [] 6
  | some E => A4 zs.length av ob n el (ints zs) (j : Int) s.Pl t.K (lineB 2 6 3 E.length n) [(6, own (ents E) 43 2)] 7
theorem stepA1 (ed : Nat) (ms : List Int) (n el : Nat) (zs : List Int) (B j : Nat) (s : QS) (t : RS) (h : AI n j s t) (hj : j < n) (hn0 : n ≤ zs.length) (hn60 : n ≤ 60) :
    ∃ SP m s1, SpecsOk Try.prog [] B SP ∧ s1.M.next ≤ 24 ∧ ∃ nx mv keep, aexec Try.prog [] SP m loop4a (SA4 (sl 1 ms.length) [(1, ro (ints ms) ed 1)] n el zs j s t) = some (.normal, s1) ∧
    View 6 nx mv keep [3, 4, 5] [] s1 (SA4 (sl 1 ms.length) [(1, ro (ints ms) ed 1)] n el zs (j + 1) (putS s (j : Int) (zs.getD j 0)).2 (rputR t (j : Int) (zs.getD j 0)).2) := by
  obtain ⟨E, Pl⟩ := s
  obtain ⟨K, Is, N⟩ := t
  have hlp : Pl.length = n := h.same.lp
  have hlk : K.length = n := h.same.lk
  have hiv : IntKind.wrap .i64 (((j : Nat) : Int) + (1 : Int)) = ((j + 1 : Nat) : Int) := by rw [IntWalk.i64_in _ (by omega)]; omega
  obtain ⟨z, hz0⟩ : ∃ z, zs.getD j 0 = z := ⟨_, rfl⟩
  have hz : zs[j]? = some z := by rw [getD_some (d := 0) (show j < zs.length by omega), hz0]
  obtain ⟨q1, q2, q3⟩ := h.put hj z
  rw [hz0]
  simp only at q3
  cases E with
  | none =>
    have hwf := h.same.ok
    have hpn := putS_nil hwf (id := (j : Int)) (key := z) (by omega) (by rw [hlp]; omega)
    have hpz : Pl[((j : Nat) : Int).toNat]? = some 0 := by
      have hg : Pl[((j : Nat) : Int).toNat]? = some (Pl.getD ((j : Nat) : Int).toNat 0) := getD_some (by omega)
      rcases hwf.wf.no _ _ hg with h2 | ⟨_, _, h2, _⟩
      · rw [hg, h2]
      · simp [QS.es] at h2
    rw [hpn]
    have h1 := s4A1e0w0 zs.length ms.length n el ed (ints zs) (ints ms) j Pl K z
    unfold rnd4A1e0 at h1
    rw [hiv] at h1
    obtain ⟨s1, k1, k2, k3⟩ := xround_of h1 (hold_cons (qd (by omega)) (hold_cons (qib (by omega)) (hold_cons (ldR hz) (hold_cons (qib (by omega)) (hold_cons (stI (by omega)) (hold_cons (qib (by omega)) (hold_cons (ldR hz) (hold_cons (qd (by omega)) (hold_cons (qd (by omega)) (hold_cons (qd (by omega)) (hold_cons (qd (by omega)) (hold_cons (qd (by omega)) (hold_cons (qd (by omega)) (hold_cons (qd (by omega)) (hold_cons (qd (by omega)) (hold_cons (qb (by simp <;> omega)) (hold_cons (qd (by omega)) (hold_cons (qd (by omega)) (hold_cons (qd (by omega)) (hold_cons (qd (by omega)) (hold_cons (qd (by omega)) (hold_cons (qd (by omega)) (hold_cons (qd (by omega)) (hold_cons (qd (by omega)) (hold_cons (qb (by simp <;> omega)) (hold_cons (qb (by simp <;> omega)) (hold_cons (qb (by simp <;> omega)) (hold_cons (qb (by simp <;> omega)) (hold_cons (qb (by simp <;> omega)) (hold_cons (qb (by simp <;> omega)) (hold_cons (qib (by omega)) (hold_cons (qb (by simp <;> omega)) (hold_cons (ldI hpz) (hold_cons (qb (by simp <;> omega)) (hold_cons (qb (by simp <;> omega)) (hold_cons (qib (by omega)) (hold_cons (stI (by omega)) hold_nil))))))))))))))))))))))))))))))))))))) (still_cons (renL_flat _ _ (ints_flat _)) (still_cons (renL_flat _ _ (ints_flat _)) (still_cons rfl (still_cons (renL_flat _ _ (ints_flat _)) (still_cons (renL_flat _ _ (ints_flat _)) (still_cons rfl still_nil))))))
    have hfin : SA4 (sl 1 ms.length) [(1, ro (ints ms) ed 1)] n el zs (j + 1) ⟨some [((j : Int), z)], Pl.set ((j : Nat) : Int).toNat 1⟩ (rputR ⟨K, Is, N⟩ (j : Int) z).2 = A4 zs.length (sl 1 ms.length) [(1, ro (ints ms) ed 1)] n el (ints zs) ((j + 1 : Nat) : Int) (Pl.set ((j : Nat) : Int).toNat 1) (K.set ((j : Nat) : Int).toNat z) (lineB 2 6 3 1 n) [(6, own [i64 (j : Int), i64 z] 43 2)] 7 := by
      unfold SA4
      simp only [q3, Int.toNat_natCast]
      rfl
    rw [← hfin] at k3
    exact ⟨_, 400, s1, specs4N [] B (fun p hp => by cases hp), k1, _, _, _, k2, k3⟩
  | some E =>
    obtain ⟨k, hk⟩ : ∃ k, E.length = k := ⟨_, rfl⟩
    have hwf : WF E Pl := h.same.ok.wf
    have hps : putS ⟨some E, Pl⟩ (j : Int) z = ((putR E Pl (j : Int) z).1, ⟨some (putR E Pl (j : Int) z).2.1, (putR E Pl (j : Int) z).2.2⟩) := by
      unfold putS QS.es
      simp
    rw [hps] at q1 q2 ⊢
    simp only at q1
    have hpe : putR E Pl (j : Int) z = (true, ((putR E Pl (j : Int) z).2.1, (putR E Pl (j : Int) z).2.2)) := by rw [← q1]
    have hlp2 : (putR E Pl (j : Int) z).2.2.length = n := q2.same.lp
    have hI : SA4 (sl 1 ms.length) [(1, ro (ints ms) ed 1)] n el zs j ⟨some E, Pl⟩ ⟨K, Is, N⟩ = A4 zs.length (sl 1 ms.length) [(1, ro (ints ms) ed 1)] n el (ints zs) (j : Int) Pl K (lineB 2 6 3 k n) [(6, own (ents E) 43 2)] 7 := by subst hk; rfl
    rw [hI]
    have h1 := s4A1e6w0 zs.length ms.length n el ed (ints zs) (ints ms) j Pl K k E z (putR E Pl (j : Int) z).2.1 (putR E Pl (j : Int) z).2.2 (putR E Pl (j : Int) z).2.1.length
    unfold rnd4A1e6 at h1
    rw [hiv] at h1
    obtain ⟨s1, k1, k2, k3⟩ := xround_of h1 (hold_cons (qd (by omega)) (hold_cons (qib (by omega)) (hold_cons (ldR hz) (hold_cons (qib (by omega)) (hold_cons (stI (by omega)) (hold_cons (qib (by omega)) (hold_cons (ldR hz) (hold_cons (putQ rfl (fun M h => qm4 hk hlp rfl h) hwf hpe rfl hlp2 (by decide) (by decide) (by decide)) hold_nil)))))))) (still_cons (renL_flat _ _ (ints_flat _)) (still_cons (renL_flat _ _ (ints_flat _)) (still_cons rfl (still_cons (renL_flat _ _ (ints_flat _)) (still_cons (renL_flat _ _ (ints_flat _)) (still_cons (renL_flat _ _ (ents_flat _)) still_nil))))))
    have hfin : SA4 (sl 1 ms.length) [(1, ro (ints ms) ed 1)] n el zs (j + 1) ⟨some (putR E Pl (j : Int) z).2.1, (putR E Pl (j : Int) z).2.2⟩ (rputR ⟨K, Is, N⟩ (j : Int) z).2 = A4 zs.length (sl 1 ms.length) [(1, ro (ints ms) ed 1)] n el (ints zs) ((j + 1 : Nat) : Int) (putR E Pl (j : Int) z).2.2 (K.set ((j : Nat) : Int).toNat z) (lineB 2 6 3 (putR E Pl (j : Int) z).2.1.length n) [(6, own (ents (putR E Pl (j : Int) z).2.1) 43 2)] 7 := by
      unfold SA4
      simp only [q3, Int.toNat_natCast]
    rw [← hfin] at k3
    exact ⟨_, 400, s1, specs4Q [] B (fun p hp => by cases hp), k1, _, _, _, k2, k3⟩
def DA1 : Door := ⟨6, 6, [(0, 0, true), (1, 1, true), (2, 2, true), (3, 3, true), (4, 4, true), (5, 5, true)], [0, 1, 5, 6, 7, 8], [3, 4, 5], []⟩
theorem loopA1_ok (ed : Nat) (ms : List Int) (n el : Nat) (zs : List Int) (hn : 0 < n) (hn0 : n ≤ zs.length) (hn60 : n ≤ 60) (E : List En) (Pl : List Int) (t : RS) (hE : itA zs n n = (⟨some E, Pl⟩, t)) (B : Nat) :
    BlkOk Try.prog [] B 0 (loopG (.loop loop4a) DA1 (SA4 (sl 1 ms.length) [(1, ro (ints ms) ed 1)] n el zs 0 ⟨none, List.replicate n 0⟩ ⟨List.replicate n 0, List.replicate n false, 0⟩) (.normal, FA4 (sl 1 ms.length) [(1, ro (ints ms) ed 1)] n el (ints zs) Pl t.K (lineB 2 6 3 E.length n) [(6, own (ents E) 43 2)] 24)) := by
  refine loopG_ok noNumP mixedP (fun j => SA4 (sl 1 ms.length) [(1, ro (ints ms) ed 1)] n el zs j (itA zs n j).1 (itA zs n j).2) (fun j => j ≤ n) (fun j => n - j) (d0 := 0) (e := .exit 0) (K := 24) (by intro h; cases h) (Nat.zero_le _) (by decide) rfl rfl rfl (fun id h1 h2 => ?_) (fun j hj => ?_)
  · match id, h1 with
    | 0, _ => rfl
    | 1, _ => rfl
    | 2, _ => rfl
    | 3, _ => exact absurd (by decide) h2
    | 4, _ => exact absurd (by decide) h2
    | 5, _ => exact absurd (by decide) h2
    | n + 6, h => exact absurd (show n + 6 < 6 from h) (by omega)
  · by_cases hlt : j < n
    · obtain ⟨SP, m, s1, g1, g2, nx, mv, keep, g3, g4⟩ := stepA1 ed ms n el zs B j _ _ (itA_ok zs n hn60 j hj) hlt hn0 hn60
      exact ⟨SP, m, s1, g1, g2, .inl ⟨nx, mv, keep, j + 1, g3, g4, hlt, by omega⟩⟩
    · obtain rfl : j = n := by omega
      rw [hE]
      have hI : SA4 (sl 1 ms.length) [(1, ro (ints ms) ed 1)] j el zs j ⟨some E, Pl⟩ t = A4 zs.length (sl 1 ms.length) [(1, ro (ints ms) ed 1)] j el (ints zs) ((j : Nat) : Int) Pl t.K (lineB 2 6 3 E.length j) [(6, own (ents E) 43 2)] 7 := rfl
      rw [hI]
      obtain ⟨k, hk⟩ : ∃ k, E.length = k := ⟨_, rfl⟩
      rw [hk]
      obtain ⟨K, Is, N⟩ := t
      have h1 := s4A1e6w1 zs.length ms.length j el ed (ints zs) (ints ms) j Pl K k E
      unfold end4A1e6 at h1
      obtain ⟨s1, k1, k2, k3⟩ := xround_of h1 (hold_cons (qdn (by omega)) hold_nil) (still_cons (renL_flat _ _ (ints_flat _)) (still_cons (renL_flat _ _ (ints_flat _)) (still_cons rfl (still_cons (renL_flat _ _ (ints_flat _)) (still_cons rfl (still_cons (renL_flat _ _ (ints_flat _)) (still_cons (renL_flat _ _ (ents_flat _)) still_nil)))))))
      exact ⟨_, 400, s1, specs4Q [] B (fun p hp => by cases hp), k1, .inr ⟨_, _, k2, k3⟩⟩
theorem stepA0 (n el : Nat) (zs : List Int) (B j : Nat) (s : QS) (t : RS) (h : AI n j s t) (hj : j < n) (hn0 : n ≤ zs.length) (hn60 : n ≤ 60) :
    ∃ SP m s1, SpecsOk Try.prog [] B SP ∧ s1.M.next ≤ 24 ∧ ∃ nx mv keep, aexec Try.prog [] SP m loop4a (SA4 (.slice none 0 0) [] n el zs j s t) = some (.normal, s1) ∧
    View 6 nx mv keep [3, 4, 5] [] s1 (SA4 (.slice none 0 0) [] n el zs (j + 1) (putS s (j : Int) (zs.getD j 0)).2 (rputR t (j : Int) (zs.getD j 0)).2) := by
  obtain ⟨E, Pl⟩ := s
  obtain ⟨K, Is, N⟩ := t
  have hlp : Pl.length = n := h.same.lp
  have hlk : K.length = n := h.same.lk
  have hiv : IntKind.wrap .i64 (((j : Nat) : Int) + (1 : Int)) = ((j + 1 : Nat) : Int) := by rw [IntWalk.i64_in _ (by omega)]; omega
  obtain ⟨z, hz0⟩ : ∃ z, zs.getD j 0 = z := ⟨_, rfl⟩
  have hz : zs[j]? = some z := by rw [getD_some (d := 0) (show j < zs.length by omega), hz0]
  obtain ⟨q1, q2, q3⟩ := h.put hj z
  rw [hz0]
  simp only at q3
  cases E with
  | none =>
    have hwf := h.same.ok
    have hpn := putS_nil hwf (id := (j : Int)) (key := z) (by omega) (by rw [hlp]; omega)
    have hpz : Pl[((j : Nat) : Int).toNat]? = some 0 := by
      have hg : Pl[((j : Nat) : Int).toNat]? = some (Pl.getD ((j : Nat) : Int).toNat 0) := getD_some (by omega)
      rcases hwf.wf.no _ _ hg with h2 | ⟨_, _, h2, _⟩
      · rw [hg, h2]
      · simp [QS.es] at h2
    rw [hpn]
    have h1 := s4A0e0w0 zs.length n el (ints zs) j Pl K z
    unfold rnd4A0e0 at h1
    rw [hiv] at h1
    obtain ⟨s1, k1, k2, k3⟩ := xround_of h1 (hold_cons (qd (by omega)) (hold_cons (qib (by omega)) (hold_cons (ldR hz) (hold_cons (qib (by omega)) (hold_cons (stI (by omega)) (hold_cons (qib (by omega)) (hold_cons (ldR hz) (hold_cons (qd (by omega)) (hold_cons (qd (by omega)) (hold_cons (qd (by omega)) (hold_cons (qd (by omega)) (hold_cons (qd (by omega)) (hold_cons (qd (by omega)) (hold_cons (qd (by omega)) (hold_cons (qd (by omega)) (hold_cons (qb (by simp <;> omega)) (hold_cons (qd (by omega)) (hold_cons (qd (by omega)) (hold_cons (qd (by omega)) (hold_cons (qd (by omega)) (hold_cons (qd (by omega)) (hold_cons (qd (by omega)) (hold_cons (qd (by omega)) (hold_cons (qd (by omega)) (hold_cons (qb (by simp <;> omega)) (hold_cons (qb (by simp <;> omega)) (hold_cons (qb (by simp <;> omega)) (hold_cons (qb (by simp <;> omega)) (hold_cons (qb (by simp <;> omega)) (hold_cons (qb (by simp <;> omega)) (hold_cons (qib (by omega)) (hold_cons (qb (by simp <;> omega)) (hold_cons (ldI hpz) (hold_cons (qb (by simp <;> omega)) (hold_cons (qb (by simp <;> omega)) (hold_cons (qib (by omega)) (hold_cons (stI (by omega)) hold_nil))))))))))))))))))))))))))))))))))))) (still_cons (renL_flat _ _ (ints_flat _)) (still_cons rfl (still_cons (renL_flat _ _ (ints_flat _)) (still_cons (renL_flat _ _ (ints_flat _)) (still_cons rfl still_nil)))))
    have hfin : SA4 (.slice none 0 0) [] n el zs (j + 1) ⟨some [((j : Int), z)], Pl.set ((j : Nat) : Int).toNat 1⟩ (rputR ⟨K, Is, N⟩ (j : Int) z).2 = A4 zs.length (.slice none 0 0) [] n el (ints zs) ((j + 1 : Nat) : Int) (Pl.set ((j : Nat) : Int).toNat 1) (K.set ((j : Nat) : Int).toNat z) (lineB 2 6 3 1 n) [(6, own [i64 (j : Int), i64 z] 43 2)] 7 := by
      unfold SA4
      simp only [q3, Int.toNat_natCast]
      rfl
    rw [← hfin] at k3
    exact ⟨_, 400, s1, specs4N [] B (fun p hp => by cases hp), k1, _, _, _, k2, k3⟩
  | some E =>
    obtain ⟨k, hk⟩ : ∃ k, E.length = k := ⟨_, rfl⟩
    have hwf : WF E Pl := h.same.ok.wf
    have hps : putS ⟨some E, Pl⟩ (j : Int) z = ((putR E Pl (j : Int) z).1, ⟨some (putR E Pl (j : Int) z).2.1, (putR E Pl (j : Int) z).2.2⟩) := by
      unfold putS QS.es
      simp
    rw [hps] at q1 q2 ⊢
    simp only at q1
    have hpe : putR E Pl (j : Int) z = (true, ((putR E Pl (j : Int) z).2.1, (putR E Pl (j : Int) z).2.2)) := by rw [← q1]
    have hlp2 : (putR E Pl (j : Int) z).2.2.length = n := q2.same.lp
    have hI : SA4 (.slice none 0 0) [] n el zs j ⟨some E, Pl⟩ ⟨K, Is, N⟩ = A4 zs.length (.slice none 0 0) [] n el (ints zs) (j : Int) Pl K (lineB 2 6 3 k n) [(6, own (ents E) 43 2)] 7 := by subst hk; rfl
    rw [hI]
    have h1 := s4A0e6w0 zs.length n el (ints zs) j Pl K k E z (putR E Pl (j : Int) z).2.1 (putR E Pl (j : Int) z).2.2 (putR E Pl (j : Int) z).2.1.length
    unfold rnd4A0e6 at h1
    rw [hiv] at h1
    obtain ⟨s1, k1, k2, k3⟩ := xround_of h1 (hold_cons (qd (by omega)) (hold_cons (qib (by omega)) (hold_cons (ldR hz) (hold_cons (qib (by omega)) (hold_cons (stI (by omega)) (hold_cons (qib (by omega)) (hold_cons (ldR hz) (hold_cons (putQ rfl (fun M h => qm4 hk hlp rfl h) hwf hpe rfl hlp2 (by decide) (by decide) (by decide)) hold_nil)))))))) (still_cons (renL_flat _ _ (ints_flat _)) (still_cons rfl (still_cons (renL_flat _ _ (ints_flat _)) (still_cons (renL_flat _ _ (ints_flat _)) (still_cons (renL_flat _ _ (ents_flat _)) still_nil)))))
    have hfin : SA4 (.slice none 0 0) [] n el zs (j + 1) ⟨some (putR E Pl (j : Int) z).2.1, (putR E Pl (j : Int) z).2.2⟩ (rputR ⟨K, Is, N⟩ (j : Int) z).2 = A4 zs.length (.slice none 0 0) [] n el (ints zs) ((j + 1 : Nat) : Int) (putR E Pl (j : Int) z).2.2 (K.set ((j : Nat) : Int).toNat z) (lineB 2 6 3 (putR E Pl (j : Int) z).2.1.length n) [(6, own (ents (putR E Pl (j : Int) z).2.1) 43 2)] 7 := by
      unfold SA4
      simp only [q3, Int.toNat_natCast]
    rw [← hfin] at k3
    exact ⟨_, 400, s1, specs4Q [] B (fun p hp => by cases hp), k1, _, _, _, k2, k3⟩
def DA0 : Door := ⟨6, 6, [(0, 0, true), (2, 2, true), (3, 3, true), (4, 4, true), (5, 5, true)], [0, 1, 5, 6, 7, 8], [3, 4, 5], []⟩
theorem loopA0_ok (n el : Nat) (zs : List Int) (hn : 0 < n) (hn0 : n ≤ zs.length) (hn60 : n ≤ 60) (E : List En) (Pl : List Int) (t : RS) (hE : itA zs n n = (⟨some E, Pl⟩, t)) (B : Nat) :
    BlkOk Try.prog [] B 0 (loopG (.loop loop4a) DA0 (SA4 (.slice none 0 0) [] n el zs 0 ⟨none, List.replicate n 0⟩ ⟨List.replicate n 0, List.replicate n false, 0⟩) (.normal, FA4 (.slice none 0 0) [] n el (ints zs) Pl t.K (lineB 2 6 3 E.length n) [(6, own (ents E) 43 2)] 24)) := by
  refine loopG_ok noNumP mixedP (fun j => SA4 (.slice none 0 0) [] n el zs j (itA zs n j).1 (itA zs n j).2) (fun j => j ≤ n) (fun j => n - j) (d0 := 0) (e := .exit 0) (K := 24) (by intro h; cases h) (Nat.zero_le _) (by decide) rfl rfl rfl (fun id h1 h2 => ?_) (fun j hj => ?_)
  · match id, h1 with
    | 0, _ => rfl
    | 1, _ => rfl
    | 2, _ => rfl
    | 3, _ => exact absurd (by decide) h2
    | 4, _ => exact absurd (by decide) h2
    | 5, _ => exact absurd (by decide) h2
    | n + 6, h => exact absurd (show n + 6 < 6 from h) (by omega)
  · by_cases hlt : j < n
    · obtain ⟨SP, m, s1, g1, g2, nx, mv, keep, g3, g4⟩ := stepA0 n el zs B j _ _ (itA_ok zs n hn60 j hj) hlt hn0 hn60
      exact ⟨SP, m, s1, g1, g2, .inl ⟨nx, mv, keep, j + 1, g3, g4, hlt, by omega⟩⟩
    · obtain rfl : j = n := by omega
      rw [hE]
      have hI : SA4 (.slice none 0 0) [] j el zs j ⟨some E, Pl⟩ t = A4 zs.length (.slice none 0 0) [] j el (ints zs) ((j : Nat) : Int) Pl t.K (lineB 2 6 3 E.length j) [(6, own (ents E) 43 2)] 7 := rfl
      rw [hI]
      obtain ⟨k, hk⟩ : ∃ k, E.length = k := ⟨_, rfl⟩
      rw [hk]
      obtain ⟨K, Is, N⟩ := t
      have h1 := s4A0e6w1 zs.length j el (ints zs) j Pl K k E
      unfold end4A0e6 at h1
      obtain ⟨s1, k1, k2, k3⟩ := xround_of h1 (hold_cons (qdn (by omega)) hold_nil) (still_cons (renL_flat _ _ (ints_flat _)) (still_cons rfl (still_cons (renL_flat _ _ (ints_flat _)) (still_cons rfl (still_cons (renL_flat _ _ (ints_flat _)) (still_cons (renL_flat _ _ (ents_flat _)) still_nil))))))
      exact ⟨_, 400, s1, specs4Q [] B (fun p hp => by cases hp), k1, .inr ⟨_, _, k2, k3⟩⟩
def SB4 (ed : Nat) (ms : List Int) (n el : Nat) (zs : List Int) (j : Nat) (s : QS) (t : RS) : St :=
  match j with
  | 0 => B4s (sl 1 ms.length) [(1, ro (ints ms) ed 1)] n el (ints zs) ((0 : Nat) : Int) s.Pl t.K (lineB 2 6 3 s.es.length n) [(6, own (ents s.es) 43 2)] 24
  | j + 1 => B4s (sl 1 ms.length) [(1, ro (ints ms) ed 1)] n el (ints zs) ((j + 1 : Nat) : Int) s.Pl t.K (lineB 2 24 3 s.es.length n) [(24, own (ents s.es) 43 2)] 25
theorem stepB (ed : Nat) (ms : List Int) (n el : Nat) (zs : List Int) (B j : Nat) (s : QS) (t : RS) (h : BI n s t) (hn : 0 < n) (hn60 : n ≤ 60) (hj : j < ms.length) (hj60 : j < 60) :
    ∃ SP m s1, SpecsOk Try.prog [] B SP ∧ s1.M.next ≤ 48 ∧ ∃ nx mv keep, aexec Try.prog [] SP m loop4b (SB4 ed ms n el zs j s t) = some (.normal, s1) ∧
    View 24 nx mv keep [3, 4, 5, 6] [3, 4, 5] s1 (SB4 ed ms n el zs (j + 1) (putS s ((j % n : Nat) : Int) (ms.getD j 0)).2 (rputR t ((j % n : Nat) : Int) (ms.getD j 0)).2) := by
  obtain ⟨E, hE, _⟩ := put_in (z := 0) h.same hn (h.is 0 hn)
  obtain ⟨E0, Pl⟩ := s
  simp only at hE
  subst hE
  obtain ⟨K, Is, N⟩ := t
  have hlp : Pl.length = n := h.same.lp
  have hlk : K.length = n := h.same.lk
  have hiv : IntKind.wrap .i64 (((j : Nat) : Int) + (1 : Int)) = ((j + 1 : Nat) : Int) := by rw [IntWalk.i64_in _ (by omega)]; omega
  obtain ⟨y, hy0⟩ : ∃ y, ms.getD j 0 = y := ⟨_, rfl⟩
  have hy : ms[j]? = some y := by rw [getD_some (d := 0) (show j < ms.length by omega), hy0]
  have hjn : j % n < n := Nat.mod_lt _ hn
  obtain ⟨q1, q2, q3⟩ := h.put hjn y
  rw [hy0]
  simp only at q1 q3
  have hkz : K[((j % n : Nat) : Int).toNat]? = some (K.getD (j % n) 0) := by rw [Int.toNat_natCast]; exact getD_some (by omega)
  obtain ⟨k, hk⟩ : ∃ k, E.length = k := ⟨_, rfl⟩
  have hwf : WF E Pl := h.same.ok.wf
  have hps : putS ⟨some E, Pl⟩ ((j % n : Nat) : Int) y = ((putR E Pl ((j % n : Nat) : Int) y).1, ⟨some (putR E Pl ((j % n : Nat) : Int) y).2.1, (putR E Pl ((j % n : Nat) : Int) y).2.2⟩) := by
    unfold putS QS.es
    simp
  rw [hps] at q1 q2 ⊢
  simp only at q1
  have hpe : putR E Pl ((j % n : Nat) : Int) y = (decide (y < K.getD (j % n) 0), ((putR E Pl ((j % n : Nat) : Int) y).2.1, (putR E Pl ((j % n : Nat) : Int) y).2.2)) := by rw [← q1]
  have hlp2 : (putR E Pl ((j % n : Nat) : Int) y).2.2.length = n := q2.same.lp
  have hfin : SB4 ed ms n el zs (j + 1) ⟨some (putR E Pl ((j % n : Nat) : Int) y).2.1, (putR E Pl ((j % n : Nat) : Int) y).2.2⟩ (rputR ⟨K, Is, N⟩ ((j % n : Nat) : Int) y).2 = B4s (sl 1 ms.length) [(1, ro (ints ms) ed 1)] n el (ints zs) ((j + 1 : Nat) : Int) (putR E Pl ((j % n : Nat) : Int) y).2.2 (K.set ((j % n : Nat) : Int).toNat (minN (K.getD (j % n) 0) y)) (lineB 2 24 3 (putR E Pl ((j % n : Nat) : Int) y).2.1.length n) [(24, own (ents (putR E Pl ((j % n : Nat) : Int) y).2.1) 43 2)] 25 := by
    unfold SB4
    simp only [q3, Int.toNat_natCast]
    rfl
  cases j with
  | zero =>
    have hI : SB4 ed ms n el zs 0 ⟨some E, Pl⟩ ⟨K, Is, N⟩ = B4s (sl 1 ms.length) [(1, ro (ints ms) ed 1)] n el (ints zs) ((0 : Nat) : Int) Pl K (lineB 2 6 3 k n) [(6, own (ents E) 43 2)] 24 := by subst hk; rfl
    rw [hI]
    have h1 := s4B1e6w0 ms.length n el ed (ints zs) (ints ms) 0 Pl K k E y (K.getD (0 % n) 0) (decide (y < K.getD (0 % n) 0)) (putR E Pl ((0 % n : Nat) : Int) y).2.1 (putR E Pl ((0 % n : Nat) : Int) y).2.2 (putR E Pl ((0 % n : Nat) : Int) y).2.1.length
    unfold rnd4B1e6 at h1
    rw [hiv, show (((0 : Nat) : Int)).tmod (((n : Nat) : Int)) = ((0 % n : Nat) : Int) from rfl] at h1
    obtain ⟨s1, k1, k2, k3⟩ := xround_of h1 (hold_cons (qd (by omega)) (hold_cons (qd (by omega)) (hold_cons (qd (by omega)) (hold_cons (qd (by omega)) (hold_cons (qd (by omega)) (hold_cons (qd (by omega)) (hold_cons (qd (by omega)) (hold_cons (qnz (by omega)) (hold_cons (qib (by omega)) (hold_cons (ldR hy) (hold_cons (putQ rfl (fun M h => qm4 hk hlp rfl h) hwf hpe rfl hlp2 (by decide) (by decide) (by decide)) (hold_cons (qib (by omega)) (hold_cons (ldR hy) (hold_cons (qib (by omega)) (hold_cons (ldI hkz) (hold_cons (qb (by simp)) (hold_cons (qib (by omega)) (hold_cons (ldI hkz) (hold_cons (qib (by omega)) (hold_cons (ldR hy) (hold_cons (qib (by omega)) (hold_cons (stI (by omega)) hold_nil)))))))))))))))))))))) (still_cons (renL_flat _ _ (ints_flat _)) (still_cons (renL_flat _ _ (ints_flat _)) (still_cons rfl (still_cons (renL_flat _ _ (ints_flat _)) (still_cons (renL_flat _ _ (ints_flat _)) (still_cons (renL_flat _ _ (ents_flat _)) still_nil))))))
    rw [← hfin] at k3
    exact ⟨_, 400, s1, specs4Q [] B (fun p hp => by cases hp), k1, _, _, _, k2, k3⟩
  | succ j =>
    have hI : SB4 ed ms n el zs (j + 1) ⟨some E, Pl⟩ ⟨K, Is, N⟩ = B4s (sl 1 ms.length) [(1, ro (ints ms) ed 1)] n el (ints zs) ((j + 1 : Nat) : Int) Pl K (lineB 2 24 3 k n) [(24, own (ents E) 43 2)] 25 := by subst hk; rfl
    rw [hI]
    have h1 := s4B1e24w0 ms.length n el ed (ints zs) (ints ms) (j + 1) Pl K k E y (K.getD ((j + 1) % n) 0) (decide (y < K.getD ((j + 1) % n) 0)) (putR E Pl (((j + 1) % n : Nat) : Int) y).2.1 (putR E Pl (((j + 1) % n : Nat) : Int) y).2.2 (putR E Pl (((j + 1) % n : Nat) : Int) y).2.1.length
    unfold rnd4B1e24 at h1
    rw [hiv, show ((((j + 1) : Nat) : Int)).tmod (((n : Nat) : Int)) = (((j + 1) % n : Nat) : Int) from rfl] at h1
    obtain ⟨s1, k1, k2, k3⟩ := xround_of h1 (hold_cons (qd (by omega)) (hold_cons (qd (by omega)) (hold_cons (qd (by omega)) (hold_cons (qd (by omega)) (hold_cons (qd (by omega)) (hold_cons (qd (by omega)) (hold_cons (qd (by omega)) (hold_cons (qnz (by omega)) (hold_cons (qib (by omega)) (hold_cons (ldR hy) (hold_cons (putQ rfl (fun M h => qm4 hk hlp rfl h) hwf hpe rfl hlp2 (by decide) (by decide) (by decide)) (hold_cons (qib (by omega)) (hold_cons (ldR hy) (hold_cons (qib (by omega)) (hold_cons (ldI hkz) (hold_cons (qb (by simp)) (hold_cons (qib (by omega)) (hold_cons (ldI hkz) (hold_cons (qib (by omega)) (hold_cons (ldR hy) (hold_cons (qib (by omega)) (hold_cons (stI (by omega)) hold_nil)))))))))))))))))))))) (still_cons (renL_flat _ _ (ints_flat _)) (still_cons (renL_flat _ _ (ints_flat _)) (still_cons rfl (still_cons (renL_flat _ _ (ints_flat _)) (still_cons (renL_flat _ _ (ints_flat _)) (still_cons (renL_flat _ _ (ents_flat _)) still_nil))))))
    rw [← hfin] at k3
    exact ⟨_, 400, s1, specs4Q [] B (fun p hp => by cases hp), k1, _, _, _, k2, k3⟩
def DB : Door := ⟨24, 24, [(0, 0, true), (1, 1, true), (2, 2, true), (3, 3, true), (4, 4, true), (5, 5, true), (6, 6, true)], [1, 5, 6, 7, 9], [3, 4, 5, 6], [3, 4, 5]⟩
theorem loopB_ok (ed : Nat) (ms : List Int) (n el : Nat) (zs : List Int) (hn : 0 < n) (hn60 : n ≤ 60) (hms : ms ≠ []) (p : QS × RS) (hp : BI n p.1 p.2) (E : List En) (Pl : List Int) (t : RS) (hE : itB ms n p (min ms.length 60) = (⟨some E, Pl⟩, t)) (B : Nat) :
    BlkOk Try.prog [] B 2 (loopG (.loop loop4b) DB (SB4 ed ms n el zs 0 p.1 p.2) (.normal, FB4 [(1, ro (ints ms) ed 1)] n el (ints zs) Pl t.K (lineB 2 24 3 E.length n) [(24, own (ents E) 43 2)] 48)) := by
  have hpos : 0 < ms.length := List.length_pos_iff.2 hms
  refine loopG_ok noNumP mixedP (fun j => SB4 ed ms n el zs j (itB ms n p j).1 (itB ms n p j).2) (fun j => j ≤ min ms.length 60) (fun j => 60 - j) (d0 := 0) (e := .exit 2) (K := 48) (by intro h; cases h) (Nat.zero_le _) (by decide) rfl rfl rfl (fun id h1 h2 => ?_) (fun j hj => ?_)
  · match id, h1 with
    | 0, _ => rfl
    | 1, _ => rfl
    | 2, _ => rfl
    | 3, _ => exact absurd (by decide) h2
    | 4, _ => exact absurd (by decide) h2
    | 5, _ => exact absurd (by decide) h2
    | 6, _ => exact absurd (by decide) h2
    | 7, _ => rfl
    | 8, _ => rfl
    | 9, _ => rfl
    | 10, _ => rfl
    | 11, _ => rfl
    | 12, _ => rfl
    | 13, _ => rfl
    | 14, _ => rfl
    | 15, _ => rfl
    | 16, _ => rfl
    | 17, _ => rfl
    | 18, _ => rfl
    | 19, _ => rfl
    | 20, _ => rfl
    | 21, _ => rfl
    | 22, _ => rfl
    | 23, _ => rfl
    | n + 24, h => exact absurd (show n + 24 < 24 from h) (by omega)
  · by_cases hlt : j < min ms.length 60
    · obtain ⟨SP, m, s1, g1, g2, nx, mv, keep, g3, g4⟩ := stepB ed ms n el zs B j _ _ (itB_ok ms n hn p hp j) hn hn60 (by omega) (by omega)
      exact ⟨SP, m, s1, g1, g2, .inl ⟨nx, mv, keep, j + 1, g3, g4, by omega, by omega⟩⟩
    · obtain rfl : j = min ms.length 60 := by omega
      rw [hE]
      obtain ⟨j, hjm⟩ : ∃ j, min ms.length 60 = j + 1 := ⟨min ms.length 60 - 1, by omega⟩
      rw [hjm]
      have hI : SB4 ed ms n el zs (j + 1) ⟨some E, Pl⟩ t = B4s (sl 1 ms.length) [(1, ro (ints ms) ed 1)] n el (ints zs) ((j + 1 : Nat) : Int) Pl t.K (lineB 2 24 3 E.length n) [(24, own (ents E) 43 2)] 25 := rfl
      rw [hI]
      obtain ⟨k, hk⟩ : ∃ k, E.length = k := ⟨_, rfl⟩
      rw [hk]
      obtain ⟨K, Is, N⟩ := t
      by_cases c0 : j + 1 < ms.length
      · have h1 := s4B1e24w1 ms.length n el ed (ints zs) (ints ms) (j + 1) Pl K k E
        unfold end4B1e24 at h1
        obtain ⟨s1, k1, k2, k3⟩ := xround_of h1 (hold_cons (qd (by omega)) (hold_cons (qd (by omega)) (hold_cons (qd (by omega)) (hold_cons (qdn (by omega)) (hold_cons (qdn (by omega)) (hold_cons (qdn (by omega)) hold_nil)))))) (still_cons (renL_flat _ _ (ints_flat _)) (still_cons (renL_flat _ _ (ints_flat _)) (still_cons rfl (still_cons (renL_flat _ _ (ints_flat _)) (still_cons rfl (still_cons (renL_flat _ _ (ints_flat _)) (still_cons (renL_flat _ _ (ents_flat _)) still_nil)))))))
        exact ⟨_, 400, s1, specs4Q [] B (fun p hp => by cases hp), k1, .inr ⟨_, _, k2, k3⟩⟩
      · have h1 := s4B1e24w2 ms.length n el ed (ints zs) (ints ms) (j + 1) Pl K k E
        unfold end4B1e24 at h1
        obtain ⟨s1, k1, k2, k3⟩ := xround_of h1 (hold_cons (qdn (by omega)) (hold_cons (qdn (by omega)) (hold_cons (qdn (by omega)) hold_nil))) (still_cons (renL_flat _ _ (ints_flat _)) (still_cons (renL_flat _ _ (ints_flat _)) (still_cons rfl (still_cons (renL_flat _ _ (ints_flat _)) (still_cons rfl (still_cons (renL_flat _ _ (ints_flat _)) (still_cons (renL_flat _ _ (ents_flat _)) still_nil)))))))
        exact ⟨_, 400, s1, specs4Q [] B (fun p hp => by cases hp), k1, .inr ⟨_, _, k2, k3⟩⟩
end Go.Proofs.Ythocfeccinpbmaa
