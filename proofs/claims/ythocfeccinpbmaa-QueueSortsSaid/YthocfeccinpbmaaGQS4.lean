/-
  QueueSorts: whatever the two rows, the call returns true, and its arguments read as they did.
-/
import Derived.Test.YthocfeccinpbmaaGQS3
open Go Go.Am Go.Proofs
namespace Go.Proofs.Ythocfeccinpbmaa
set_option maxRecDepth 100000

structure CD where
  j : Nat
  last : Int
  lid : Int
  E : List En
  Pl : List Int
  t : RS
def SCC1 (ed : Nat) (ms : List Int) (n el : Nat) (zs K : List Int) (d : CD) : St :=
  match d.j with
  | 0 => C4 [(1, ro (ints ms) ed 1)] n el (ints zs) d.last d.lid ((0 : Nat) : Int) d.Pl K (lineB 2 6 3 d.E.length n) [(6, own (ents d.E) 43 2)] 24 ([3, 4, 5, 6] ++ [3, 4, 5])
  | j + 1 => C4 [(1, ro (ints ms) ed 1)] n el (ints zs) d.last d.lid ((j + 1 : Nat) : Int) d.Pl K (lineB 2 24 3 d.E.length n) [(24, own (ents d.E) 43 2)] 25 ([3, 4, 5, 6] ++ [3, 4, 5])
def DCC1 : Door := ⟨24, 24, [(0, 0, true), (1, 1, true), (2, 2, true), (3, 3, true), (4, 4, true), (5, 5, true), (6, 6, true)], [5, 6, 7, 11, 12, 13], [3, 4, 5, 6], [3, 4, 5]⟩
theorem loopCC1_ok (ed : Nat) (ms : List Int) (n el : Nat) (zs K : List Int) (hn : 0 < n) (hn60 : n ≤ 60) (d0 : CD) (hd0 : d0.j ≤ n ∧ CI n d0.j K d0.last d0.lid ⟨some d0.E, d0.Pl⟩ d0.t) (hj0 : d0.j = 0) (B : Nat) :
    BlkOk Try.prog [] B 4 (loopG (.loop loop4c) DCC1 (SCC1 ed ms n el zs K d0) (.normal, FC4 [(1, ro (ints ms) ed 1)] n el (ints zs) (List.replicate n 0) K (lineB 2 24 3 0 n) [(24, own (ents []) 43 2)] 48 ([3, 4, 5, 6] ++ [3, 4, 5]))) := by
  refine loopG_ok noNumP mixedP (SCC1 ed ms n el zs K) (fun d => d.j ≤ n ∧ CI n d.j K d.last d.lid ⟨some d.E, d.Pl⟩ d.t) (fun d => n - d.j) (e := .exit 4) (K := 48) (by intro h; cases h) hd0 (by decide) rfl rfl rfl (fun id h1 h2 => ?_) (fun d hd => ?_)
  · obtain ⟨j0, l1, l2, E0, P0, t0⟩ := d0
    simp only at hj0
    subst hj0
    match id, h1 with
    | 0, _ => rfl
    | 1, _ => rfl
    | 2, _ => rfl
    | 3, _ => exact absurd (by decide) h2
    | 4, _ => exact absurd (by decide) h2
    | 5, _ => exact absurd (by decide) h2
    | 6, _ => exact absurd (by decide) h2
    | 7, _ => rfl
    | 8, _ => rfl
    | 9, _ => rfl
    | 10, _ => rfl
    | 11, _ => rfl
    | 12, _ => rfl
    | 13, _ => rfl
    | 14, _ => rfl
    | 15, _ => rfl
    | 16, _ => rfl
    | 17, _ => rfl
    | 18, _ => rfl
    | 19, _ => rfl
    | 20, _ => rfl
    | 21, _ => rfl
    | 22, _ => rfl
    | 23, _ => rfl
    | n + 24, h => exact absurd (show n + 24 < 24 from h) (by omega)
  · obtain ⟨j, last, lid, E, Pl, t⟩ := d
    obtain ⟨hle, h⟩ := hd
    simp only at hle h
    have hlp : Pl.length = n := h.same.lp
    have hlk : K.length = n := by rw [← h.k]; exact h.same.lk
    have hwf : WF E Pl := h.same.ok.wf
    obtain ⟨k, hk⟩ : ∃ k, E.length = k := ⟨_, rfl⟩
    by_cases hj : j < n
    · have hiv : IntKind.wrap .i64 (((j : Nat) : Int) + (1 : Int)) = ((j + 1 : Nat) : Int) := by rw [IntWalk.i64_in _ (by omega)]; omega
      obtain ⟨b, hb, hp, hnew, hlow, hz0⟩ := h.pop hj
      have hkz0 : K[b]? = some (K.getD b 0) := getD_some (by omega)
      generalize hkb : K.getD b 0 = kb at hp hnew hlow hkz0
      have hkz : K[((b : Nat) : Int).toNat]? = some kb := by rw [Int.toNat_natCast]; exact hkz0
      have hpz : (popR E Pl).2.2[((b : Nat) : Int).toNat]? = some 0 := by rw [Int.toNat_natCast]; exact hz0
      have hpe : popR E Pl = (.tuple ⟨[i64 (b : Int), i64 kb, .bool true]⟩, ((popR E Pl).2.1, (popR E Pl).2.2)) := by
        have : (popS ⟨some E, Pl⟩).1 = (popR E Pl).1 := rfl
        rw [this] at hp
        rw [← hp]
      have hlp2 : (popR E Pl).2.2.length = n := hnew.same.lp
      have hk2 : (((popR E Pl).2.1.length : Nat) : Int) = IntKind.wrap .i64 (IntKind.wrap .i64 (((n : Nat) : Int) - (1 : Int)) - ((j : Nat) : Int)) := by
        have h1 := hnew.same.num
        have h2 := hnew.num
        have h3 : (QS.es (popS ⟨some E, Pl⟩).2).length = (popR E Pl).2.1.length := rfl
        rw [h3] at h1
        rw [IntWalk.i64_in (((n : Nat) : Int) - (1 : Int)) (by omega), IntWalk.i64_in _ (by omega)]
        omega
      cases j with
      | zero =>
        have hI : SCC1 ed ms n el zs K ⟨0, last, lid, E, Pl, t⟩ = C4 [(1, ro (ints ms) ed 1)] n el (ints zs) last lid ((0 : Nat) : Int) Pl K (lineB 2 6 3 k n) [(6, own (ents E) 43 2)] 24 ([3, 4, 5, 6] ++ [3, 4, 5]) := by subst hk; rfl
        rw [hI]
        have h1 := s4C1e6w2 n el ed (ints zs) (ints ms) 0 last lid Pl K k E kb b (popR E Pl).2.1 (popR E Pl).2.2 (popR E Pl).2.1.length
        unfold rnd4C1e6 at h1
        rw [hiv] at h1
        obtain ⟨s1, k1, k2, k3⟩ := xround_of h1 (hold_cons (qd (by omega)) (hold_cons (popQ rfl (fun M h => qm4 hk hlp rfl h) hwf hpe rfl hlp2 (by decide) (by decide) (by decide)) (hold_cons (qdn (by omega)) (hold_cons (qdn (by omega)) (hold_cons (qdn (by omega)) (hold_cons (qdn (by omega)) (hold_cons (qdn (by omega)) (hold_cons (qdn (by omega)) (hold_cons (qdn (by omega)) (hold_cons (qdn (by omega)) (hold_cons (qib (by omega)) (hold_cons (qdn (by omega)) (hold_cons (ldI hkz) (hold_cons (qdn (by omega)) (hold_cons (qdn (by omega)) (hold_cons (qb (by simp <;> omega)) (hold_cons (qb (by simp <;> omega)) (hold_cons (qb (by simp <;> omega)) (hold_cons (qdn (by omega)) (hold_cons (qdn (by omega)) (hold_cons (qdn (by omega)) (hold_cons (qdn (by omega)) (hold_cons (qdn (by omega)) (hold_cons (qb (by simp <;> omega)) (hold_cons (qdn (by omega)) (hold_cons (qb (by simp <;> omega)) (hold_cons (qb (by rw [hk2]; simp)) (hold_cons (qd (by omega)) (hold_cons (qd (by omega)) (hold_cons (qd (by omega)) (hold_cons (qd (by omega)) (hold_cons (qd (by omega)) (hold_cons (qd (by omega)) (hold_cons (qd (by omega)) (hold_cons (qd (by omega)) (hold_cons (qb (by simp <;> omega)) (hold_cons (qb (by simp <;> omega)) (hold_cons (qb (by simp <;> omega)) (hold_cons (qb (by simp <;> omega)) (hold_cons (qb (by simp <;> omega)) (hold_cons (qb (by simp <;> omega)) (hold_cons (qib (by omega)) (hold_cons (qb (by simp <;> omega)) (hold_cons (ldI hpz) (hold_cons (qb (by simp <;> omega)) (hold_cons (qb (by simp <;> omega)) hold_nil)))))))))))))))))))))))))))))))))))))))))))))) (still_cons (renL_flat _ _ (ints_flat _)) (still_cons (renL_flat _ _ (ints_flat _)) (still_cons rfl (still_cons (renL_flat _ _ (ints_flat _)) (still_cons (renL_flat _ _ (ints_flat _)) (still_cons (renL_flat _ _ (ents_flat _)) still_nil))))))
        exact ⟨_, 400, s1, specs4Q [] B (fun p hp => by cases hp), k1, .inl ⟨_, _, _, ⟨0 + 1, kb, (b : Int), (popR E Pl).2.1, (popR E Pl).2.2, (rpopR t).2⟩, k2, k3, ⟨by simp only; omega, hnew⟩, by simp only; omega⟩⟩
      | succ j =>
        have hI : SCC1 ed ms n el zs K ⟨j + 1, last, lid, E, Pl, t⟩ = C4 [(1, ro (ints ms) ed 1)] n el (ints zs) last lid ((j + 1 : Nat) : Int) Pl K (lineB 2 24 3 k n) [(24, own (ents E) 43 2)] 25 ([3, 4, 5, 6] ++ [3, 4, 5]) := by subst hk; rfl
        rw [hI]
        have hlow := hlow (by omega)
        by_cases hkl : kb = last
        · have hlb : lid < (b : Int) := by omega
          have h1 := s4C1e24w0 n el ed (ints zs) (ints ms) (j + 1) last lid Pl K k E kb b (popR E Pl).2.1 (popR E Pl).2.2 (popR E Pl).2.1.length
          unfold rnd4C1e24 at h1
          rw [hiv] at h1
          obtain ⟨s1, k1, k2, k3⟩ := xround_of h1 (hold_cons (qd (by omega)) (hold_cons (popQ rfl (fun M h => qm4 hk hlp rfl h) hwf hpe rfl hlp2 (by decide) (by decide) (by decide)) (hold_cons (qdn (by omega)) (hold_cons (qdn (by omega)) (hold_cons (qdn (by omega)) (hold_cons (qdn (by omega)) (hold_cons (qdn (by omega)) (hold_cons (qdn (by omega)) (hold_cons (qdn (by omega)) (hold_cons (qdn (by omega)) (hold_cons (qib (by omega)) (hold_cons (qdn (by omega)) (hold_cons (ldI hkz) (hold_cons (qdn (by omega)) (hold_cons (qdn (by omega)) (hold_cons (qb (by simp <;> omega)) (hold_cons (qb (by simp <;> omega)) (hold_cons (qb (by simp <;> omega)) (hold_cons (qd (by omega)) (hold_cons (qd (by omega)) (hold_cons (qd (by omega)) (hold_cons (qd (by omega)) (hold_cons (qdn (by omega)) (hold_cons (qdn (by omega)) (hold_cons (qdn (by omega)) (hold_cons (qdn (by omega)) (hold_cons (qb (by simp [hkl])) (hold_cons (qb (by simp [hkl])) (hold_cons (qb (by simp [hkl])) (hold_cons (qdn (by omega)) (hold_cons (qb (by simp [hkl])) (hold_cons (qd (by omega)) (hold_cons (qdn (by omega)) (hold_cons (qb (by simp <;> omega)) (hold_cons (qd (by omega)) (hold_cons (qb (by simp <;> omega)) (hold_cons (qdn (by omega)) (hold_cons (qdn (by omega)) (hold_cons (qdn (by omega)) (hold_cons (qdn (by omega)) (hold_cons (qdn (by omega)) (hold_cons (qdn (by omega)) (hold_cons (qdn (by omega)) (hold_cons (qdn (by omega)) (hold_cons (qb (by rw [hk2]; simp)) (hold_cons (qd (by omega)) (hold_cons (qd (by omega)) (hold_cons (qd (by omega)) (hold_cons (qd (by omega)) (hold_cons (qd (by omega)) (hold_cons (qd (by omega)) (hold_cons (qd (by omega)) (hold_cons (qd (by omega)) (hold_cons (qb (by simp <;> omega)) (hold_cons (qb (by simp <;> omega)) (hold_cons (qb (by simp <;> omega)) (hold_cons (qb (by simp <;> omega)) (hold_cons (qb (by simp <;> omega)) (hold_cons (qb (by simp <;> omega)) (hold_cons (qib (by omega)) (hold_cons (qb (by simp <;> omega)) (hold_cons (ldI hpz) (hold_cons (qb (by simp <;> omega)) (hold_cons (qb (by simp <;> omega)) hold_nil)))))))))))))))))))))))))))))))))))))))))))))))))))))))))))))))) (still_cons (renL_flat _ _ (ints_flat _)) (still_cons (renL_flat _ _ (ints_flat _)) (still_cons rfl (still_cons (renL_flat _ _ (ints_flat _)) (still_cons (renL_flat _ _ (ints_flat _)) (still_cons (renL_flat _ _ (ents_flat _)) still_nil))))))
          exact ⟨_, 400, s1, specs4Q [] B (fun p hp => by cases hp), k1, .inl ⟨_, _, _, ⟨(j + 1) + 1, kb, (b : Int), (popR E Pl).2.1, (popR E Pl).2.2, (rpopR t).2⟩, k2, k3, ⟨by simp only; omega, hnew⟩, by simp only; omega⟩⟩
        · have hll : last < kb := by omega
          have h1 := s4C1e24w1 n el ed (ints zs) (ints ms) (j + 1) last lid Pl K k E kb b (popR E Pl).2.1 (popR E Pl).2.2 (popR E Pl).2.1.length
          unfold rnd4C1e24 at h1
          rw [hiv] at h1
          obtain ⟨s1, k1, k2, k3⟩ := xround_of h1 (hold_cons (qd (by omega)) (hold_cons (popQ rfl (fun M h => qm4 hk hlp rfl h) hwf hpe rfl hlp2 (by decide) (by decide) (by decide)) (hold_cons (qdn (by omega)) (hold_cons (qdn (by omega)) (hold_cons (qdn (by omega)) (hold_cons (qdn (by omega)) (hold_cons (qdn (by omega)) (hold_cons (qdn (by omega)) (hold_cons (qdn (by omega)) (hold_cons (qdn (by omega)) (hold_cons (qib (by omega)) (hold_cons (qdn (by omega)) (hold_cons (ldI hkz) (hold_cons (qdn (by omega)) (hold_cons (qdn (by omega)) (hold_cons (qb (by simp <;> omega)) (hold_cons (qb (by simp <;> omega)) (hold_cons (qb (by simp <;> omega)) (hold_cons (qd (by omega)) (hold_cons (qd (by omega)) (hold_cons (qd (by omega)) (hold_cons (qd (by omega)) (hold_cons (qdn (by omega)) (hold_cons (qdn (by omega)) (hold_cons (qdn (by omega)) (hold_cons (qdn (by omega)) (hold_cons (qb (by simp [hkl])) (hold_cons (qb (by simp [hkl])) (hold_cons (qb (by simp [hkl])) (hold_cons (qdn (by omega)) (hold_cons (qb (by simp [hkl])) (hold_cons (qd (by omega)) (hold_cons (qdn (by omega)) (hold_cons (qb (by simp <;> omega)) (hold_cons (qd (by omega)) (hold_cons (qb (by simp <;> omega)) (hold_cons (qb (by rw [hk2]; simp)) (hold_cons (qd (by omega)) (hold_cons (qd (by omega)) (hold_cons (qd (by omega)) (hold_cons (qd (by omega)) (hold_cons (qd (by omega)) (hold_cons (qd (by omega)) (hold_cons (qd (by omega)) (hold_cons (qd (by omega)) (hold_cons (qb (by simp <;> omega)) (hold_cons (qb (by simp <;> omega)) (hold_cons (qb (by simp <;> omega)) (hold_cons (qb (by simp <;> omega)) (hold_cons (qb (by simp <;> omega)) (hold_cons (qb (by simp <;> omega)) (hold_cons (qib (by omega)) (hold_cons (qb (by simp <;> omega)) (hold_cons (ldI hpz) (hold_cons (qb (by simp <;> omega)) (hold_cons (qb (by simp <;> omega)) hold_nil)))))))))))))))))))))))))))))))))))))))))))))))))))))))) (still_cons (renL_flat _ _ (ints_flat _)) (still_cons (renL_flat _ _ (ints_flat _)) (still_cons rfl (still_cons (renL_flat _ _ (ints_flat _)) (still_cons (renL_flat _ _ (ints_flat _)) (still_cons (renL_flat _ _ (ents_flat _)) still_nil))))))
          exact ⟨_, 400, s1, specs4Q [] B (fun p hp => by cases hp), k1, .inl ⟨_, _, _, ⟨(j + 1) + 1, kb, (b : Int), (popR E Pl).2.1, (popR E Pl).2.2, (rpopR t).2⟩, k2, k3, ⟨by simp only; omega, hnew⟩, by simp only; omega⟩⟩
    · obtain rfl : j = n := by omega
      obtain ⟨rfl, rfl⟩ := h.done
      obtain ⟨j', rfl⟩ : ∃ j', j = j' + 1 := ⟨j - 1, by omega⟩
      have hI : SCC1 ed ms (j' + 1) el zs K ⟨j' + 1, last, lid, [], List.replicate (j' + 1) 0, t⟩ = C4 [(1, ro (ints ms) ed 1)] (j' + 1) el (ints zs) last lid ((j' + 1 : Nat) : Int) (List.replicate (j' + 1) 0) K (lineB 2 24 3 0 (j' + 1)) [(24, own (ents []) 43 2)] 25 ([3, 4, 5, 6] ++ [3, 4, 5]) := rfl
      rw [hI]
      have h1 := s4C1e24w3 (j' + 1) el ed (ints zs) (ints ms) (j' + 1) last lid (List.replicate (j' + 1) 0) K 0 []
      unfold end4C1e24 at h1
      obtain ⟨s1, k1, k2, k3⟩ := xround_of h1 (hold_cons (qdn (by omega)) hold_nil) (still_cons (renL_flat _ _ (ints_flat _)) (still_cons (renL_flat _ _ (ints_flat _)) (still_cons rfl (still_cons (renL_flat _ _ (ints_flat _)) (still_cons rfl (still_cons (renL_flat _ _ (ints_flat _)) (still_cons (renL_flat _ _ (ents_flat _)) still_nil)))))))
      exact ⟨_, 400, s1, specs4Q [] B (fun p hp => by cases hp), k1, .inr ⟨_, _, k2, k3⟩⟩
def SCC0 (n el : Nat) (zs K : List Int) (d : CD) : St :=
  match d.j with
  | 0 => C4 [] n el (ints zs) d.last d.lid ((0 : Nat) : Int) d.Pl K (lineB 2 6 3 d.E.length n) [(6, own (ents d.E) 43 2)] 24 ([3, 4, 5, 6] ++ [3, 4, 5])
  | j + 1 => C4 [] n el (ints zs) d.last d.lid ((j + 1 : Nat) : Int) d.Pl K (lineB 2 24 3 d.E.length n) [(24, own (ents d.E) 43 2)] 25 ([3, 4, 5, 6] ++ [3, 4, 5])
def DCC0 : Door := ⟨24, 24, [(0, 0, true), (2, 2, true), (3, 3, true), (4, 4, true), (5, 5, true), (6, 6, true)], [5, 6, 7, 11, 12, 13], [3, 4, 5, 6], [3, 4, 5]⟩
theorem loopCC0_ok (n el : Nat) (zs K : List Int) (hn : 0 < n) (hn60 : n ≤ 60) (d0 : CD) (hd0 : d0.j ≤ n ∧ CI n d0.j K d0.last d0.lid ⟨some d0.E, d0.Pl⟩ d0.t) (hj0 : d0.j = 0) (B : Nat) :
    BlkOk Try.prog [] B 4 (loopG (.loop loop4c) DCC0 (SCC0 n el zs K d0) (.normal, FC4 [] n el (ints zs) (List.replicate n 0) K (lineB 2 24 3 0 n) [(24, own (ents []) 43 2)] 48 ([3, 4, 5, 6] ++ [3, 4, 5]))) := by
  refine loopG_ok noNumP mixedP (SCC0 n el zs K) (fun d => d.j ≤ n ∧ CI n d.j K d.last d.lid ⟨some d.E, d.Pl⟩ d.t) (fun d => n - d.j) (e := .exit 4) (K := 48) (by intro h; cases h) hd0 (by decide) rfl rfl rfl (fun id h1 h2 => ?_) (fun d hd => ?_)
  · obtain ⟨j0, l1, l2, E0, P0, t0⟩ := d0
    simp only at hj0
    subst hj0
    match id, h1 with
    | 0, _ => rfl
    | 1, _ => rfl
    | 2, _ => rfl
    | 3, _ => exact absurd (by decide) h2
    | 4, _ => exact absurd (by decide) h2
    | 5, _ => exact absurd (by decide) h2
    | 6, _ => exact absurd (by decide) h2
    | 7, _ => rfl
    | 8, _ => rfl
    | 9, _ => rfl
    | 10, _ => rfl
    | 11, _ => rfl
    | 12, _ => rfl
    | 13, _ => rfl
    | 14, _ => rfl
    | 15, _ => rfl
    | 16, _ => rfl
    | 17, _ => rfl
    | 18, _ => rfl
    | 19, _ => rfl
    | 20, _ => rfl
    | 21, _ => rfl
    | 22, _ => rfl
    | 23, _ => rfl
    | n + 24, h => exact absurd (show n + 24 < 24 from h) (by omega)
  · obtain ⟨j, last, lid, E, Pl, t⟩ := d
    obtain ⟨hle, h⟩ := hd
    simp only at hle h
    have hlp : Pl.length = n := h.same.lp
    have hlk : K.length = n := by rw [← h.k]; exact h.same.lk
    have hwf : WF E Pl := h.same.ok.wf
    obtain ⟨k, hk⟩ : ∃ k, E.length = k := ⟨_, rfl⟩
    by_cases hj : j < n
    · have hiv : IntKind.wrap .i64 (((j : Nat) : Int) + (1 : Int)) = ((j + 1 : Nat) : Int) := by rw [IntWalk.i64_in _ (by omega)]; omega
      obtain ⟨b, hb, hp, hnew, hlow, hz0⟩ := h.pop hj
      have hkz0 : K[b]? = some (K.getD b 0) := getD_some (by omega)
      generalize hkb : K.getD b 0 = kb at hp hnew hlow hkz0
      have hkz : K[((b : Nat) : Int).toNat]? = some kb := by rw [Int.toNat_natCast]; exact hkz0
      have hpz : (popR E Pl).2.2[((b : Nat) : Int).toNat]? = some 0 := by rw [Int.toNat_natCast]; exact hz0
      have hpe : popR E Pl = (.tuple ⟨[i64 (b : Int), i64 kb, .bool true]⟩, ((popR E Pl).2.1, (popR E Pl).2.2)) := by
        have : (popS ⟨some E, Pl⟩).1 = (popR E Pl).1 := rfl
        rw [this] at hp
        rw [← hp]
      have hlp2 : (popR E Pl).2.2.length = n := hnew.same.lp
      have hk2 : (((popR E Pl).2.1.length : Nat) : Int) = IntKind.wrap .i64 (IntKind.wrap .i64 (((n : Nat) : Int) - (1 : Int)) - ((j : Nat) : Int)) := by
        have h1 := hnew.same.num
        have h2 := hnew.num
        have h3 : (QS.es (popS ⟨some E, Pl⟩).2).length = (popR E Pl).2.1.length := rfl
        rw [h3] at h1
        rw [IntWalk.i64_in (((n : Nat) : Int) - (1 : Int)) (by omega), IntWalk.i64_in _ (by omega)]
        omega
      cases j with
      | zero =>
        have hI : SCC0 n el zs K ⟨0, last, lid, E, Pl, t⟩ = C4 [] n el (ints zs) last lid ((0 : Nat) : Int) Pl K (lineB 2 6 3 k n) [(6, own (ents E) 43 2)] 24 ([3, 4, 5, 6] ++ [3, 4, 5]) := by subst hk; rfl
        rw [hI]
        have h1 := s4C0e6w2 n el (ints zs) 0 last lid Pl K k E kb b (popR E Pl).2.1 (popR E Pl).2.2 (popR E Pl).2.1.length
        unfold rnd4C0e6 at h1
        rw [hiv] at h1
        obtain ⟨s1, k1, k2, k3⟩ := xround_of h1 (hold_cons (qd (by omega)) (hold_cons (popQ rfl (fun M h => qm4 hk hlp rfl h) hwf hpe rfl hlp2 (by decide) (by decide) (by decide)) (hold_cons (qdn (by omega)) (hold_cons (qdn (by omega)) (hold_cons (qdn (by omega)) (hold_cons (qdn (by omega)) (hold_cons (qdn (by omega)) (hold_cons (qdn (by omega)) (hold_cons (qdn (by omega)) (hold_cons (qdn (by omega)) (hold_cons (qib (by omega)) (hold_cons (qdn (by omega)) (hold_cons (ldI hkz) (hold_cons (qdn (by omega)) (hold_cons (qdn (by omega)) (hold_cons (qb (by simp <;> omega)) (hold_cons (qb (by simp <;> omega)) (hold_cons (qb (by simp <;> omega)) (hold_cons (qdn (by omega)) (hold_cons (qdn (by omega)) (hold_cons (qdn (by omega)) (hold_cons (qdn (by omega)) (hold_cons (qdn (by omega)) (hold_cons (qb (by simp <;> omega)) (hold_cons (qdn (by omega)) (hold_cons (qb (by simp <;> omega)) (hold_cons (qb (by rw [hk2]; simp)) (hold_cons (qd (by omega)) (hold_cons (qd (by omega)) (hold_cons (qd (by omega)) (hold_cons (qd (by omega)) (hold_cons (qd (by omega)) (hold_cons (qd (by omega)) (hold_cons (qd (by omega)) (hold_cons (qd (by omega)) (hold_cons (qb (by simp <;> omega)) (hold_cons (qb (by simp <;> omega)) (hold_cons (qb (by simp <;> omega)) (hold_cons (qb (by simp <;> omega)) (hold_cons (qb (by simp <;> omega)) (hold_cons (qb (by simp <;> omega)) (hold_cons (qib (by omega)) (hold_cons (qb (by simp <;> omega)) (hold_cons (ldI hpz) (hold_cons (qb (by simp <;> omega)) (hold_cons (qb (by simp <;> omega)) hold_nil)))))))))))))))))))))))))))))))))))))))))))))) (still_cons (renL_flat _ _ (ints_flat _)) (still_cons rfl (still_cons (renL_flat _ _ (ints_flat _)) (still_cons (renL_flat _ _ (ints_flat _)) (still_cons (renL_flat _ _ (ents_flat _)) still_nil)))))
        exact ⟨_, 400, s1, specs4Q [] B (fun p hp => by cases hp), k1, .inl ⟨_, _, _, ⟨0 + 1, kb, (b : Int), (popR E Pl).2.1, (popR E Pl).2.2, (rpopR t).2⟩, k2, k3, ⟨by simp only; omega, hnew⟩, by simp only; omega⟩⟩
      | succ j =>
        have hI : SCC0 n el zs K ⟨j + 1, last, lid, E, Pl, t⟩ = C4 [] n el (ints zs) last lid ((j + 1 : Nat) : Int) Pl K (lineB 2 24 3 k n) [(24, own (ents E) 43 2)] 25 ([3, 4, 5, 6] ++ [3, 4, 5]) := by subst hk; rfl
        rw [hI]
        have hlow := hlow (by omega)
        by_cases hkl : kb = last
        · have hlb : lid < (b : Int) := by omega
          have h1 := s4C0e24w0 n el (ints zs) (j + 1) last lid Pl K k E kb b (popR E Pl).2.1 (popR E Pl).2.2 (popR E Pl).2.1.length
          unfold rnd4C0e24 at h1
          rw [hiv] at h1
          obtain ⟨s1, k1, k2, k3⟩ := xround_of h1 (hold_cons (qd (by omega)) (hold_cons (popQ rfl (fun M h => qm4 hk hlp rfl h) hwf hpe rfl hlp2 (by decide) (by decide) (by decide)) (hold_cons (qdn (by omega)) (hold_cons (qdn (by omega)) (hold_cons (qdn (by omega)) (hold_cons (qdn (by omega)) (hold_cons (qdn (by omega)) (hold_cons (qdn (by omega)) (hold_cons (qdn (by omega)) (hold_cons (qdn (by omega)) (hold_cons (qib (by omega)) (hold_cons (qdn (by omega)) (hold_cons (ldI hkz) (hold_cons (qdn (by omega)) (hold_cons (qdn (by omega)) (hold_cons (qb (by simp <;> omega)) (hold_cons (qb (by simp <;> omega)) (hold_cons (qb (by simp <;> omega)) (hold_cons (qd (by omega)) (hold_cons (qd (by omega)) (hold_cons (qd (by omega)) (hold_cons (qd (by omega)) (hold_cons (qdn (by omega)) (hold_cons (qdn (by omega)) (hold_cons (qdn (by omega)) (hold_cons (qdn (by omega)) (hold_cons (qb (by simp [hkl])) (hold_cons (qb (by simp [hkl])) (hold_cons (qb (by simp [hkl])) (hold_cons (qdn (by omega)) (hold_cons (qb (by simp [hkl])) (hold_cons (qd (by omega)) (hold_cons (qdn (by omega)) (hold_cons (qb (by simp <;> omega)) (hold_cons (qd (by omega)) (hold_cons (qb (by simp <;> omega)) (hold_cons (qdn (by omega)) (hold_cons (qdn (by omega)) (hold_cons (qdn (by omega)) (hold_cons (qdn (by omega)) (hold_cons (qdn (by omega)) (hold_cons (qdn (by omega)) (hold_cons (qdn (by omega)) (hold_cons (qdn (by omega)) (hold_cons (qb (by rw [hk2]; simp)) (hold_cons (qd (by omega)) (hold_cons (qd (by omega)) (hold_cons (qd (by omega)) (hold_cons (qd (by omega)) (hold_cons (qd (by omega)) (hold_cons (qd (by omega)) (hold_cons (qd (by omega)) (hold_cons (qd (by omega)) (hold_cons (qb (by simp <;> omega)) (hold_cons (qb (by simp <;> omega)) (hold_cons (qb (by simp <;> omega)) (hold_cons (qb (by simp <;> omega)) (hold_cons (qb (by simp <;> omega)) (hold_cons (qb (by simp <;> omega)) (hold_cons (qib (by omega)) (hold_cons (qb (by simp <;> omega)) (hold_cons (ldI hpz) (hold_cons (qb (by simp <;> omega)) (hold_cons (qb (by simp <;> omega)) hold_nil)))))))))))))))))))))))))))))))))))))))))))))))))))))))))))))))) (still_cons (renL_flat _ _ (ints_flat _)) (still_cons rfl (still_cons (renL_flat _ _ (ints_flat _)) (still_cons (renL_flat _ _ (ints_flat _)) (still_cons (renL_flat _ _ (ents_flat _)) still_nil)))))
          exact ⟨_, 400, s1, specs4Q [] B (fun p hp => by cases hp), k1, .inl ⟨_, _, _, ⟨(j + 1) + 1, kb, (b : Int), (popR E Pl).2.1, (popR E Pl).2.2, (rpopR t).2⟩, k2, k3, ⟨by simp only; omega, hnew⟩, by simp only; omega⟩⟩
        · have hll : last < kb := by omega
          have h1 := s4C0e24w1 n el (ints zs) (j + 1) last lid Pl K k E kb b (popR E Pl).2.1 (popR E Pl).2.2 (popR E Pl).2.1.length
          unfold rnd4C0e24 at h1
          rw [hiv] at h1
          obtain ⟨s1, k1, k2, k3⟩ := xround_of h1 (hold_cons (qd (by omega)) (hold_cons (popQ rfl (fun M h => qm4 hk hlp rfl h) hwf hpe rfl hlp2 (by decide) (by decide) (by decide)) (hold_cons (qdn (by omega)) (hold_cons (qdn (by omega)) (hold_cons (qdn (by omega)) (hold_cons (qdn (by omega)) (hold_cons (qdn (by omega)) (hold_cons (qdn (by omega)) (hold_cons (qdn (by omega)) (hold_cons (qdn (by omega)) (hold_cons (qib (by omega)) (hold_cons (qdn (by omega)) (hold_cons (ldI hkz) (hold_cons (qdn (by omega)) (hold_cons (qdn (by omega)) (hold_cons (qb (by simp <;> omega)) (hold_cons (qb (by simp <;> omega)) (hold_cons (qb (by simp <;> omega)) (hold_cons (qd (by omega)) (hold_cons (qd (by omega)) (hold_cons (qd (by omega)) (hold_cons (qd (by omega)) (hold_cons (qdn (by omega)) (hold_cons (qdn (by omega)) (hold_cons (qdn (by omega)) (hold_cons (qdn (by omega)) (hold_cons (qb (by simp [hkl])) (hold_cons (qb (by simp [hkl])) (hold_cons (qb (by simp [hkl])) (hold_cons (qdn (by omega)) (hold_cons (qb (by simp [hkl])) (hold_cons (qd (by omega)) (hold_cons (qdn (by omega)) (hold_cons (qb (by simp <;> omega)) (hold_cons (qd (by omega)) (hold_cons (qb (by simp <;> omega)) (hold_cons (qb (by rw [hk2]; simp)) (hold_cons (qd (by omega)) (hold_cons (qd (by omega)) (hold_cons (qd (by omega)) (hold_cons (qd (by omega)) (hold_cons (qd (by omega)) (hold_cons (qd (by omega)) (hold_cons (qd (by omega)) (hold_cons (qd (by omega)) (hold_cons (qb (by simp <;> omega)) (hold_cons (qb (by simp <;> omega)) (hold_cons (qb (by simp <;> omega)) (hold_cons (qb (by simp <;> omega)) (hold_cons (qb (by simp <;> omega)) (hold_cons (qb (by simp <;> omega)) (hold_cons (qib (by omega)) (hold_cons (qb (by simp <;> omega)) (hold_cons (ldI hpz) (hold_cons (qb (by simp <;> omega)) (hold_cons (qb (by simp <;> omega)) hold_nil)))))))))))))))))))))))))))))))))))))))))))))))))))))))) (still_cons (renL_flat _ _ (ints_flat _)) (still_cons rfl (still_cons (renL_flat _ _ (ints_flat _)) (still_cons (renL_flat _ _ (ints_flat _)) (still_cons (renL_flat _ _ (ents_flat _)) still_nil)))))
          exact ⟨_, 400, s1, specs4Q [] B (fun p hp => by cases hp), k1, .inl ⟨_, _, _, ⟨(j + 1) + 1, kb, (b : Int), (popR E Pl).2.1, (popR E Pl).2.2, (rpopR t).2⟩, k2, k3, ⟨by simp only; omega, hnew⟩, by simp only; omega⟩⟩
    · obtain rfl : j = n := by omega
      obtain ⟨rfl, rfl⟩ := h.done
      obtain ⟨j', rfl⟩ : ∃ j', j = j' + 1 := ⟨j - 1, by omega⟩
      have hI : SCC0 (j' + 1) el zs K ⟨j' + 1, last, lid, [], List.replicate (j' + 1) 0, t⟩ = C4 [] (j' + 1) el (ints zs) last lid ((j' + 1 : Nat) : Int) (List.replicate (j' + 1) 0) K (lineB 2 24 3 0 (j' + 1)) [(24, own (ents []) 43 2)] 25 ([3, 4, 5, 6] ++ [3, 4, 5]) := rfl
      rw [hI]
      have h1 := s4C0e24w3 (j' + 1) el (ints zs) (j' + 1) last lid (List.replicate (j' + 1) 0) K 0 []
      unfold end4C0e24 at h1
      obtain ⟨s1, k1, k2, k3⟩ := xround_of h1 (hold_cons (qdn (by omega)) hold_nil) (still_cons (renL_flat _ _ (ints_flat _)) (still_cons rfl (still_cons (renL_flat _ _ (ints_flat _)) (still_cons rfl (still_cons (renL_flat _ _ (ints_flat _)) (still_cons (renL_flat _ _ (ents_flat _)) still_nil))))))
      exact ⟨_, 400, s1, specs4Q [] B (fun p hp => by cases hp), k1, .inr ⟨_, _, k2, k3⟩⟩
def SCD1 (ed : Nat) (ms : List Int) (n el : Nat) (zs K : List Int) (d : CD) : St :=
  match d.j with
  | 0 => C4 [(1, ro (ints ms) ed 1)] n el (ints zs) d.last d.lid ((0 : Nat) : Int) d.Pl K (lineB 2 24 3 d.E.length n) [(24, own (ents d.E) 43 2)] 48 ([3, 4, 5, 6, 24] ++ [3, 4, 5, 6, 3, 4, 5])
  | j + 1 => C4 [(1, ro (ints ms) ed 1)] n el (ints zs) d.last d.lid ((j + 1 : Nat) : Int) d.Pl K (lineB 2 48 3 d.E.length n) [(48, own (ents d.E) 43 2)] 49 ([3, 4, 5, 6, 24] ++ [3, 4, 5, 6, 3, 4, 5])
def DCD1 : Door := ⟨48, 48, [(0, 0, true), (1, 1, true), (2, 2, true), (3, 3, true), (4, 4, true), (5, 5, true), (24, 24, true)], [5, 6, 7, 11, 12, 13], [3, 4, 5, 6, 24], [3, 4, 5, 6, 3, 4, 5]⟩
theorem loopCD1_ok (ed : Nat) (ms : List Int) (n el : Nat) (zs K : List Int) (hn : 0 < n) (hn60 : n ≤ 60) (d0 : CD) (hd0 : d0.j ≤ n ∧ CI n d0.j K d0.last d0.lid ⟨some d0.E, d0.Pl⟩ d0.t) (hj0 : d0.j = 0) (B : Nat) :
    BlkOk Try.prog [] B 4 (loopG (.loop loop4c) DCD1 (SCD1 ed ms n el zs K d0) (.normal, FC4 [(1, ro (ints ms) ed 1)] n el (ints zs) (List.replicate n 0) K (lineB 2 48 3 0 n) [(48, own (ents []) 43 2)] 72 ([3, 4, 5, 6, 24] ++ [3, 4, 5, 6, 3, 4, 5]))) := by
  refine loopG_ok noNumP mixedP (SCD1 ed ms n el zs K) (fun d => d.j ≤ n ∧ CI n d.j K d.last d.lid ⟨some d.E, d.Pl⟩ d.t) (fun d => n - d.j) (e := .exit 4) (K := 72) (by intro h; cases h) hd0 (by decide) rfl rfl rfl (fun id h1 h2 => ?_) (fun d hd => ?_)
  · obtain ⟨j0, l1, l2, E0, P0, t0⟩ := d0
    simp only at hj0
    subst hj0
    match id, h1 with
    | 0, _ => rfl
    | 1, _ => rfl
    | 2, _ => rfl
    | 3, _ => exact absurd (by decide) h2
    | 4, _ => exact absurd (by decide) h2
    | 5, _ => exact absurd (by decide) h2
    | 6, _ => exact absurd (by decide) h2
    | 7, _ => rfl
    | 8, _ => rfl
    | 9, _ => rfl
    | 10, _ => rfl
    | 11, _ => rfl
    | 12, _ => rfl
    | 13, _ => rfl
    | 14, _ => rfl
    | 15, _ => rfl
    | 16, _ => rfl
    | 17, _ => rfl
    | 18, _ => rfl
    | 19, _ => rfl
    | 20, _ => rfl
    | 21, _ => rfl
    | 22, _ => rfl
    | 23, _ => rfl
    | 24, _ => exact absurd (by decide) h2
    | 25, _ => rfl
    | 26, _ => rfl
    | 27, _ => rfl
    | 28, _ => rfl
    | 29, _ => rfl
    | 30, _ => rfl
    | 31, _ => rfl
    | 32, _ => rfl
    | 33, _ => rfl
    | 34, _ => rfl
    | 35, _ => rfl
    | 36, _ => rfl
    | 37, _ => rfl
    | 38, _ => rfl
    | 39, _ => rfl
    | 40, _ => rfl
    | 41, _ => rfl
    | 42, _ => rfl
    | 43, _ => rfl
    | 44, _ => rfl
    | 45, _ => rfl
    | 46, _ => rfl
    | 47, _ => rfl
    | n + 48, h => exact absurd (show n + 48 < 48 from h) (by omega)
  · obtain ⟨j, last, lid, E, Pl, t⟩ := d
    obtain ⟨hle, h⟩ := hd
    simp only at hle h
    have hlp : Pl.length = n := h.same.lp
    have hlk : K.length = n := by rw [← h.k]; exact h.same.lk
    have hwf : WF E Pl := h.same.ok.wf
    obtain ⟨k, hk⟩ : ∃ k, E.length = k := ⟨_, rfl⟩
    by_cases hj : j < n
    · have hiv : IntKind.wrap .i64 (((j : Nat) : Int) + (1 : Int)) = ((j + 1 : Nat) : Int) := by rw [IntWalk.i64_in _ (by omega)]; omega
      obtain ⟨b, hb, hp, hnew, hlow, hz0⟩ := h.pop hj
      have hkz0 : K[b]? = some (K.getD b 0) := getD_some (by omega)
      generalize hkb : K.getD b 0 = kb at hp hnew hlow hkz0
      have hkz : K[((b : Nat) : Int).toNat]? = some kb := by rw [Int.toNat_natCast]; exact hkz0
      have hpz : (popR E Pl).2.2[((b : Nat) : Int).toNat]? = some 0 := by rw [Int.toNat_natCast]; exact hz0
      have hpe : popR E Pl = (.tuple ⟨[i64 (b : Int), i64 kb, .bool true]⟩, ((popR E Pl).2.1, (popR E Pl).2.2)) := by
        have : (popS ⟨some E, Pl⟩).1 = (popR E Pl).1 := rfl
        rw [this] at hp
        rw [← hp]
      have hlp2 : (popR E Pl).2.2.length = n := hnew.same.lp
      have hk2 : (((popR E Pl).2.1.length : Nat) : Int) = IntKind.wrap .i64 (IntKind.wrap .i64 (((n : Nat) : Int) - (1 : Int)) - ((j : Nat) : Int)) := by
        have h1 := hnew.same.num
        have h2 := hnew.num
        have h3 : (QS.es (popS ⟨some E, Pl⟩).2).length = (popR E Pl).2.1.length := rfl
        rw [h3] at h1
        rw [IntWalk.i64_in (((n : Nat) : Int) - (1 : Int)) (by omega), IntWalk.i64_in _ (by omega)]
        omega
      cases j with
      | zero =>
        have hI : SCD1 ed ms n el zs K ⟨0, last, lid, E, Pl, t⟩ = C4 [(1, ro (ints ms) ed 1)] n el (ints zs) last lid ((0 : Nat) : Int) Pl K (lineB 2 24 3 k n) [(24, own (ents E) 43 2)] 48 ([3, 4, 5, 6, 24] ++ [3, 4, 5, 6, 3, 4, 5]) := by subst hk; rfl
        rw [hI]
        have h1 := s4D1e24w2 n el ed (ints zs) (ints ms) 0 last lid Pl K k E kb b (popR E Pl).2.1 (popR E Pl).2.2 (popR E Pl).2.1.length
        unfold rnd4D1e24 at h1
        rw [hiv] at h1
        obtain ⟨s1, k1, k2, k3⟩ := xround_of h1 (hold_cons (qd (by omega)) (hold_cons (popQ rfl (fun M h => qm4 hk hlp rfl h) hwf hpe rfl hlp2 (by decide) (by decide) (by decide)) (hold_cons (qdn (by omega)) (hold_cons (qdn (by omega)) (hold_cons (qdn (by omega)) (hold_cons (qdn (by omega)) (hold_cons (qdn (by omega)) (hold_cons (qdn (by omega)) (hold_cons (qdn (by omega)) (hold_cons (qdn (by omega)) (hold_cons (qib (by omega)) (hold_cons (qdn (by omega)) (hold_cons (ldI hkz) (hold_cons (qdn (by omega)) (hold_cons (qdn (by omega)) (hold_cons (qb (by simp <;> omega)) (hold_cons (qb (by simp <;> omega)) (hold_cons (qb (by simp <;> omega)) (hold_cons (qdn (by omega)) (hold_cons (qdn (by omega)) (hold_cons (qdn (by omega)) (hold_cons (qdn (by omega)) (hold_cons (qdn (by omega)) (hold_cons (qb (by simp <;> omega)) (hold_cons (qdn (by omega)) (hold_cons (qb (by simp <;> omega)) (hold_cons (qb (by rw [hk2]; simp)) (hold_cons (qd (by omega)) (hold_cons (qd (by omega)) (hold_cons (qd (by omega)) (hold_cons (qd (by omega)) (hold_cons (qd (by omega)) (hold_cons (qd (by omega)) (hold_cons (qd (by omega)) (hold_cons (qd (by omega)) (hold_cons (qb (by simp <;> omega)) (hold_cons (qb (by simp <;> omega)) (hold_cons (qb (by simp <;> omega)) (hold_cons (qb (by simp <;> omega)) (hold_cons (qb (by simp <;> omega)) (hold_cons (qb (by simp <;> omega)) (hold_cons (qib (by omega)) (hold_cons (qb (by simp <;> omega)) (hold_cons (ldI hpz) (hold_cons (qb (by simp <;> omega)) (hold_cons (qb (by simp <;> omega)) hold_nil)))))))))))))))))))))))))))))))))))))))))))))) (still_cons (renL_flat _ _ (ints_flat _)) (still_cons (renL_flat _ _ (ints_flat _)) (still_cons rfl (still_cons (renL_flat _ _ (ints_flat _)) (still_cons (renL_flat _ _ (ints_flat _)) (still_cons (renL_flat _ _ (ents_flat _)) still_nil))))))
        exact ⟨_, 400, s1, specs4Q [] B (fun p hp => by cases hp), k1, .inl ⟨_, _, _, ⟨0 + 1, kb, (b : Int), (popR E Pl).2.1, (popR E Pl).2.2, (rpopR t).2⟩, k2, k3, ⟨by simp only; omega, hnew⟩, by simp only; omega⟩⟩
      | succ j =>
        have hI : SCD1 ed ms n el zs K ⟨j + 1, last, lid, E, Pl, t⟩ = C4 [(1, ro (ints ms) ed 1)] n el (ints zs) last lid ((j + 1 : Nat) : Int) Pl K (lineB 2 48 3 k n) [(48, own (ents E) 43 2)] 49 ([3, 4, 5, 6, 24] ++ [3, 4, 5, 6, 3, 4, 5]) := by subst hk; rfl
        rw [hI]
        have hlow := hlow (by omega)
        by_cases hkl : kb = last
        · have hlb : lid < (b : Int) := by omega
          have h1 := s4D1e48w0 n el ed (ints zs) (ints ms) (j + 1) last lid Pl K k E kb b (popR E Pl).2.1 (popR E Pl).2.2 (popR E Pl).2.1.length
          unfold rnd4D1e48 at h1
          rw [hiv] at h1
          obtain ⟨s1, k1, k2, k3⟩ := xround_of h1 (hold_cons (qd (by omega)) (hold_cons (popQ rfl (fun M h => qm4 hk hlp rfl h) hwf hpe rfl hlp2 (by decide) (by decide) (by decide)) (hold_cons (qdn (by omega)) (hold_cons (qdn (by omega)) (hold_cons (qdn (by omega)) (hold_cons (qdn (by omega)) (hold_cons (qdn (by omega)) (hold_cons (qdn (by omega)) (hold_cons (qdn (by omega)) (hold_cons (qdn (by omega)) (hold_cons (qib (by omega)) (hold_cons (qdn (by omega)) (hold_cons (ldI hkz) (hold_cons (qdn (by omega)) (hold_cons (qdn (by omega)) (hold_cons (qb (by simp <;> omega)) (hold_cons (qb (by simp <;> omega)) (hold_cons (qb (by simp <;> omega)) (hold_cons (qd (by omega)) (hold_cons (qd (by omega)) (hold_cons (qd (by omega)) (hold_cons (qd (by omega)) (hold_cons (qdn (by omega)) (hold_cons (qdn (by omega)) (hold_cons (qdn (by omega)) (hold_cons (qdn (by omega)) (hold_cons (qb (by simp [hkl])) (hold_cons (qb (by simp [hkl])) (hold_cons (qb (by simp [hkl])) (hold_cons (qdn (by omega)) (hold_cons (qb (by simp [hkl])) (hold_cons (qd (by omega)) (hold_cons (qdn (by omega)) (hold_cons (qb (by simp <;> omega)) (hold_cons (qd (by omega)) (hold_cons (qb (by simp <;> omega)) (hold_cons (qdn (by omega)) (hold_cons (qdn (by omega)) (hold_cons (qdn (by omega)) (hold_cons (qdn (by omega)) (hold_cons (qdn (by omega)) (hold_cons (qdn (by omega)) (hold_cons (qdn (by omega)) (hold_cons (qdn (by omega)) (hold_cons (qb (by rw [hk2]; simp)) (hold_cons (qd (by omega)) (hold_cons (qd (by omega)) (hold_cons (qd (by omega)) (hold_cons (qd (by omega)) (hold_cons (qd (by omega)) (hold_cons (qd (by omega)) (hold_cons (qd (by omega)) (hold_cons (qd (by omega)) (hold_cons (qb (by simp <;> omega)) (hold_cons (qb (by simp <;> omega)) (hold_cons (qb (by simp <;> omega)) (hold_cons (qb (by simp <;> omega)) (hold_cons (qb (by simp <;> omega)) (hold_cons (qb (by simp <;> omega)) (hold_cons (qib (by omega)) (hold_cons (qb (by simp <;> omega)) (hold_cons (ldI hpz) (hold_cons (qb (by simp <;> omega)) (hold_cons (qb (by simp <;> omega)) hold_nil)))))))))))))))))))))))))))))))))))))))))))))))))))))))))))))))) (still_cons (renL_flat _ _ (ints_flat _)) (still_cons (renL_flat _ _ (ints_flat _)) (still_cons rfl (still_cons (renL_flat _ _ (ints_flat _)) (still_cons (renL_flat _ _ (ints_flat _)) (still_cons (renL_flat _ _ (ents_flat _)) still_nil))))))
          exact ⟨_, 400, s1, specs4Q [] B (fun p hp => by cases hp), k1, .inl ⟨_, _, _, ⟨(j + 1) + 1, kb, (b : Int), (popR E Pl).2.1, (popR E Pl).2.2, (rpopR t).2⟩, k2, k3, ⟨by simp only; omega, hnew⟩, by simp only; omega⟩⟩
        · have hll : last < kb := by omega
          have h1 := s4D1e48w1 n el ed (ints zs) (ints ms) (j + 1) last lid Pl K k E kb b (popR E Pl).2.1 (popR E Pl).2.2 (popR E Pl).2.1.length
          unfold rnd4D1e48 at h1
          rw [hiv] at h1
          obtain ⟨s1, k1, k2, k3⟩ := xround_of h1 (hold_cons (qd (by omega)) (hold_cons (popQ rfl (fun M h => qm4 hk hlp rfl h) hwf hpe rfl hlp2 (by decide) (by decide) (by decide)) (hold_cons (qdn (by omega)) (hold_cons (qdn (by omega)) (hold_cons (qdn (by omega)) (hold_cons (qdn (by omega)) (hold_cons (qdn (by omega)) (hold_cons (qdn (by omega)) (hold_cons (qdn (by omega)) (hold_cons (qdn (by omega)) (hold_cons (qib (by omega)) (hold_cons (qdn (by omega)) (hold_cons (ldI hkz) (hold_cons (qdn (by omega)) (hold_cons (qdn (by omega)) (hold_cons (qb (by simp <;> omega)) (hold_cons (qb (by simp <;> omega)) (hold_cons (qb (by simp <;> omega)) (hold_cons (qd (by omega)) (hold_cons (qd (by omega)) (hold_cons (qd (by omega)) (hold_cons (qd (by omega)) (hold_cons (qdn (by omega)) (hold_cons (qdn (by omega)) (hold_cons (qdn (by omega)) (hold_cons (qdn (by omega)) (hold_cons (qb (by simp [hkl])) (hold_cons (qb (by simp [hkl])) (hold_cons (qb (by simp [hkl])) (hold_cons (qdn (by omega)) (hold_cons (qb (by simp [hkl])) (hold_cons (qd (by omega)) (hold_cons (qdn (by omega)) (hold_cons (qb (by simp <;> omega)) (hold_cons (qd (by omega)) (hold_cons (qb (by simp <;> omega)) (hold_cons (qb (by rw [hk2]; simp)) (hold_cons (qd (by omega)) (hold_cons (qd (by omega)) (hold_cons (qd (by omega)) (hold_cons (qd (by omega)) (hold_cons (qd (by omega)) (hold_cons (qd (by omega)) (hold_cons (qd (by omega)) (hold_cons (qd (by omega)) (hold_cons (qb (by simp <;> omega)) (hold_cons (qb (by simp <;> omega)) (hold_cons (qb (by simp <;> omega)) (hold_cons (qb (by simp <;> omega)) (hold_cons (qb (by simp <;> omega)) (hold_cons (qb (by simp <;> omega)) (hold_cons (qib (by omega)) (hold_cons (qb (by simp <;> omega)) (hold_cons (ldI hpz) (hold_cons (qb (by simp <;> omega)) (hold_cons (qb (by simp <;> omega)) hold_nil)))))))))))))))))))))))))))))))))))))))))))))))))))))))) (still_cons (renL_flat _ _ (ints_flat _)) (still_cons (renL_flat _ _ (ints_flat _)) (still_cons rfl (still_cons (renL_flat _ _ (ints_flat _)) (still_cons (renL_flat _ _ (ints_flat _)) (still_cons (renL_flat _ _ (ents_flat _)) still_nil))))))
          exact ⟨_, 400, s1, specs4Q [] B (fun p hp => by cases hp), k1, .inl ⟨_, _, _, ⟨(j + 1) + 1, kb, (b : Int), (popR E Pl).2.1, (popR E Pl).2.2, (rpopR t).2⟩, k2, k3, ⟨by simp only; omega, hnew⟩, by simp only; omega⟩⟩
    · obtain rfl : j = n := by omega
      obtain ⟨rfl, rfl⟩ := h.done
      obtain ⟨j', rfl⟩ : ∃ j', j = j' + 1 := ⟨j - 1, by omega⟩
      have hI : SCD1 ed ms (j' + 1) el zs K ⟨j' + 1, last, lid, [], List.replicate (j' + 1) 0, t⟩ = C4 [(1, ro (ints ms) ed 1)] (j' + 1) el (ints zs) last lid ((j' + 1 : Nat) : Int) (List.replicate (j' + 1) 0) K (lineB 2 48 3 0 (j' + 1)) [(48, own (ents []) 43 2)] 49 ([3, 4, 5, 6, 24] ++ [3, 4, 5, 6, 3, 4, 5]) := rfl
      rw [hI]
      have h1 := s4D1e48w3 (j' + 1) el ed (ints zs) (ints ms) (j' + 1) last lid (List.replicate (j' + 1) 0) K 0 []
      unfold end4D1e48 at h1
      obtain ⟨s1, k1, k2, k3⟩ := xround_of h1 (hold_cons (qdn (by omega)) hold_nil) (still_cons (renL_flat _ _ (ints_flat _)) (still_cons (renL_flat _ _ (ints_flat _)) (still_cons rfl (still_cons (renL_flat _ _ (ints_flat _)) (still_cons rfl (still_cons (renL_flat _ _ (ints_flat _)) (still_cons (renL_flat _ _ (ents_flat _)) still_nil)))))))
      exact ⟨_, 400, s1, specs4Q [] B (fun p hp => by cases hp), k1, .inr ⟨_, _, k2, k3⟩⟩
end Go.Proofs.Ythocfeccinpbmaa
