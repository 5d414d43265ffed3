/-
  QueueKeys: whatever was put and popped, the call returns true, and its argument reads as it did.
-/
import Derived.Test.YthocfeccinpbmaaGQY1
open Go Go.Am Go.Proofs
namespace Go.Proofs.Ythocfeccinpbmaa
set_option maxRecDepth 100000

theorem modN (x n : Int) (hn : 0 < n) : ∃ w : Nat, modI x n = (w : Int) := by
  have := modI_range (x := x) hn
  exact ⟨(modI x n).toNat, by omega⟩
/- How many are there. -/
def cnt (Is : List Bool) : Nat → Nat
  | 0 => 0
  | j + 1 => cnt Is j + (if Is.getD j false = true then 1 else 0)
theorem cnt_le (Is : List Bool) : ∀ j, cnt Is j ≤ j
  | 0 => Nat.le_refl _
  | j + 1 => by
    have := cnt_le Is j
    unfold cnt
    split <;> omega
theorem cnt_set (Is : List Bool) (i : Nat) (b : Bool) (hi : i < Is.length) : ∀ j, cnt (Is.set i b) j + (if i < j ∧ Is.getD i false = true then 1 else 0) = cnt Is j + (if i < j ∧ b = true then 1 else 0)
  | 0 => by rw [if_neg (by omega), if_neg (by omega)]; rfl
  | j + 1 => by
    have ih := cnt_set Is i b hi j
    unfold cnt
    rw [getD_set hi]
    by_cases hij : j = i
    · subst hij
      rw [if_neg (by omega), if_neg (by omega)] at ih
      rw [if_pos rfl]
      have e1 : (j < j + 1 ∧ Is.getD j false = true) ↔ Is.getD j false = true := ⟨fun h => h.2, fun h => ⟨by omega, h⟩⟩
      have e2 : (j < j + 1 ∧ b = true) ↔ b = true := ⟨fun h => h.2, fun h => ⟨by omega, h⟩⟩
      simp only [e1, e2]
      omega
    · rw [if_neg hij]
      have e1 : (i < j + 1 ∧ Is.getD i false = true) ↔ (i < j ∧ Is.getD i false = true) := ⟨fun h => ⟨by omega, h.2⟩, fun h => ⟨by omega, h.2⟩⟩
      have e2 : (i < j + 1 ∧ b = true) ↔ (i < j ∧ b = true) := ⟨fun h => ⟨by omega, h.2⟩, fun h => ⟨by omega, h.2⟩⟩
      simp only [e1, e2]
      omega
theorem cnt_put {s : QS} {t : RS} (h : Same 12 s t) (hc : t.N = (cnt t.Is 13 : Int)) (id key : Int) : (rputR t id key).2.N = (cnt (rputR t id key).2.Is 13 : Int) := by
  have hl := cnt_le t.Is 13
  unfold rputR
  split
  · rename_i hin
    have hi : id.toNat < t.Is.length := by rw [h.li]; rw [h.lk] at hin; omega
    have hs := cnt_set t.Is id.toNat true hi 13
    have h13 : id.toNat < 13 := by rw [h.li] at hi; omega
    split
    · rename_i hb
      split
      · exact hc
      · rw [if_pos ⟨h13, hb⟩, if_pos ⟨h13, rfl⟩] at hs
        simp only
        omega
    · rename_i hb
      rw [if_neg (fun hh => hb hh.2), if_pos ⟨h13, rfl⟩] at hs
      simp only
      rw [hc, IntWalk.i64_in _ (by omega)]
      omega
  · exact hc
theorem cnt_pop {s : QS} {t : RS} (h : Same 12 s t) (hc : t.N = (cnt t.Is 13 : Int)) : (rpopR t).2.N = (cnt (rpopR t).2.Is 13 : Int) := by
  have hl := cnt_le t.Is 13
  obtain ⟨b1, b2⟩ := best_spec (K := t.K) (Is := t.Is) t.K.length
  unfold rpopR
  split
  · exact hc
  · rename_i hb
    obtain ⟨k1, k2, _⟩ := b2 (by omega)
    have hs := cnt_set t.Is (bestR t.K t.Is t.K.length).toNat false (by rw [h.li, ← h.lk]; exact k1) 13
    rw [if_pos ⟨by rw [h.lk] at k1 ⊢; omega, k2⟩, if_neg (fun hh => by cases hh.2)] at hs
    simp only
    rw [hc, IntWalk.i64_in _ (by omega)]
    omega
theorem specs11N (bs : List (Nat × (Code → St → Option (AExit × St)))) (B : Nat) (hb : ∀ p ∈ bs, BlkOk Try.prog [] B p.1 p.2) : SpecsOk Try.prog [] B (SP11N bs) := specsB_ok (fun p hp => by
  simp only [List.mem_cons, List.not_mem_nil, or_false] at hp
  rcases hp with rfl | rfl | rfl | rfl
  · exact okKnown B
  · exact okMod B
  · exact ok21 B
  · exact ok17 B) hb
theorem specs11Q (bs : List (Nat × (Code → St → Option (AExit × St)))) (B : Nat) (hb : ∀ p ∈ bs, BlkOk Try.prog [] B p.1 p.2) : SpecsOk Try.prog [] B (SP11Q bs) := specsB_ok (fun p hp => by
  simp only [List.mem_cons, List.not_mem_nil, or_false] at hp
  rcases hp with rfl | rfl | rfl | rfl | rfl | rfl
  · exact okKnown B
  · exact okMod B
  · exact ok21 B
  · exact ok17 B
  · exact ok20 B
  · exact ok16 B) hb
def I11A (el : Nat) (zs : List Int) (i : Nat) (Pl K : List Int) (Is : List Bool) (N : Int) (id : Int) : St := J11 zs.length el (ints zs) (i : Int) ((cnt Is id.toNat : Nat) : Int) id Pl K Is N (lineN 1 2 12) [] 7 ([2, 3, 4, 5, 6] ++ [6, 4, 5, 2, 3, 4, 5, 6])
theorem loop11A_ok (el : Nat) (zs : List Int) (i : Nat) (Pl K : List Int) (Is : List Bool) (N : Int) (hsame : Same 12 ⟨none, Pl⟩ ⟨K, Is, N⟩) (B : Nat) :
    BlkOk Try.prog [] B 2 (loopG (.loop loop11i) D11A (I11A el zs i Pl K Is N (-1)) (.normal, F11 zs.length el (ints zs) (i : Int) ((cnt Is 13 : Nat) : Int) Pl K Is N (lineN 1 2 12) [] 7 ([2, 3, 4, 5, 6] ++ [6, 4, 5, 2, 3, 4, 5, 6]))) := by
  refine loopG_ok noNumP mixedP (I11A el zs i Pl K Is N) (fun id => -1 ≤ id ∧ id ≤ 13) (fun id => (13 - id).toNat) (e := .exit 2) (K := 7) (by intro h; cases h) ⟨by decide, by decide⟩ (by decide) rfl rfl rfl (fun id h1 h2 => ?_) (fun id hd => ?_)
  · match id, h1 with
    | 0, _ => rfl
    | 1, _ => rfl
    | 2, _ => exact absurd (by decide) h2
    | 3, _ => exact absurd (by decide) h2
    | 4, _ => exact absurd (by decide) h2
    | 5, _ => exact absurd (by decide) h2
    | 6, _ => exact absurd (by decide) h2
    | n + 7, h => exact absurd (show n + 7 < 7 from h) (by omega)
  · obtain ⟨hd1, hd2⟩ := hd
    have hS := specs11N [] B (fun p hp => by cases hp)
    have hlp : Pl.length = 12 := hsame.lp
    have hlk : K.length = 12 := hsame.lk
    have hli : Is.length = 12 := hsame.li
    have hiv : IntKind.wrap .i64 (id + (1 : Int)) = id + 1 := IntWalk.i64_in _ (by omega)
    by_cases c0 : id ≤ 12
    · by_cases c1 : id ≥ 0
      · have hc1 : cnt Is (id + 1).toNat = cnt Is id.toNat + (if Is.getD id.toNat false = true then 1 else 0) := by
          rw [show (id + 1).toNat = id.toNat + 1 by omega]; rfl
        by_cases c2 : id < 12
        · have hg : Pl[id.toNat]? = some (Pl.getD id.toNat 0) := getD_some (by omega)
          have hpz : Pl[id.toNat]? = some 0 := by
            rcases hsame.ok.wf.no _ _ hg with h2 | ⟨_, _, h2, _⟩
            · rw [hg, h2]
            · simp [QS.es] at h2
          have hno := hsame.key_no (i := id.toNat) (by omega) hpz
          have hib : Is[id.toNat]? = some false := by rw [← hno]; exact getD_some (by omega)
          have hc2 : cnt Is (id + 1).toNat = cnt Is id.toNat := by
            have h0 : Is.getD id.toNat false = false := hno
            rw [hc1, h0]; simp
          have h := i11A0 zs.length el (ints zs) i (cnt Is id.toNat) id Pl K Is N
          unfold rnd11A at h
          rw [hiv] at h
          obtain ⟨s1, k1, k2, k3⟩ := xround_of h (hold_cons (qd (by omega)) (hold_cons (qd (by omega)) (hold_cons (qd (by omega)) (hold_cons (qd (by omega)) (hold_cons (qd (by omega)) (hold_cons (qd (by omega)) (hold_cons (qd (by omega)) (hold_cons (qd (by omega)) (hold_cons (qd (by omega)) (hold_cons (qb (by simp <;> omega)) (hold_cons (qb (by simp <;> omega)) (hold_cons (qb (by simp <;> omega)) (hold_cons (qb (by simp <;> omega)) (hold_cons (qb (by simp <;> omega)) (hold_cons (qb (by simp <;> omega)) (hold_cons (qib (by omega)) (hold_cons (qb (by simp <;> omega)) (hold_cons (ldI hpz) (hold_cons (qb (by simp <;> omega)) (hold_cons (qb (by simp <;> omega)) (hold_cons (qdn (by omega)) (hold_cons (qdn (by omega)) (hold_cons (qdn (by omega)) (hold_cons (qdn (by omega)) (hold_cons (qdn (by omega)) (hold_cons (qdn (by omega)) (hold_cons (qdn (by omega)) (hold_cons (qdn (by omega)) (hold_cons (qdn (by omega)) (hold_cons (qdn (by omega)) (hold_cons (qdn (by omega)) (hold_cons (qdn (by omega)) (hold_cons (qdn (by omega)) (hold_cons (qdn (by omega)) (hold_cons (qib (by omega)) (hold_cons (qdn (by omega)) (hold_cons (ldB hib) (hold_cons (qdn (by omega)) (hold_cons (qdn (by omega)) hold_nil))))))))))))))))))))))))))))))))))))))) (still_cons (renL_flat _ _ (ints_flat zs)) (still_cons rfl (still_cons (renL_flat _ _ (ints_flat _)) (still_cons rfl (still_cons (renL_flat _ _ (ints_flat _)) (still_cons (renL_flat _ _ (bools_flat _)) (still_cons rfl still_nil)))))))
          exact ⟨_, 300, s1, hS, k1, .inl ⟨_, _, _, id + 1, k2, (by unfold I11A; rw [hc2]; exact k3), ⟨by omega, by omega⟩, by omega⟩⟩
        · have hc2 : cnt Is (id + 1).toNat = cnt Is id.toNat := by
            have h0 : Is.getD id.toNat false = false := by rw [List.getD_eq_getElem?_getD, List.getElem?_eq_none (by omega)]; rfl
            rw [hc1, h0]; simp
          have h := i11A1 zs.length el (ints zs) i (cnt Is id.toNat) id Pl K Is N
          unfold rnd11A at h
          rw [hiv] at h
          obtain ⟨s1, k1, k2, k3⟩ := xround_of h (hold_cons (qd (by omega)) (hold_cons (qd (by omega)) (hold_cons (qd (by omega)) (hold_cons (qd (by omega)) (hold_cons (qd (by omega)) (hold_cons (qd (by omega)) (hold_cons (qd (by omega)) (hold_cons (qd (by omega)) (hold_cons (qd (by omega)) (hold_cons (qb (by simp <;> omega)) (hold_cons (qb (by simp <;> omega)) (hold_cons (qb (by simp <;> omega)) (hold_cons (qb (by simp <;> omega)) (hold_cons (qb (by simp <;> omega)) (hold_cons (qb (by simp <;> omega)) (hold_cons (qb (by simp <;> omega)) (hold_cons (qb (by simp <;> omega)) (hold_cons (qb (by simp <;> omega)) (hold_cons (qdn (by omega)) (hold_cons (qdn (by omega)) (hold_cons (qdn (by omega)) (hold_cons (qdn (by omega)) (hold_cons (qdn (by omega)) (hold_cons (qdn (by omega)) (hold_cons (qdn (by omega)) (hold_cons (qdn (by omega)) (hold_cons (qd (by omega)) (hold_cons (qd (by omega)) (hold_cons (qd (by omega)) (hold_cons (qd (by omega)) (hold_cons (qd (by omega)) (hold_cons (qd (by omega)) (hold_cons (qd (by omega)) (hold_cons (qd (by omega)) (hold_cons (qd (by omega)) hold_nil))))))))))))))))))))))))))))))))))) (still_cons (renL_flat _ _ (ints_flat zs)) (still_cons rfl (still_cons (renL_flat _ _ (ints_flat _)) (still_cons rfl (still_cons (renL_flat _ _ (ints_flat _)) (still_cons (renL_flat _ _ (bools_flat _)) (still_cons rfl still_nil)))))))
          exact ⟨_, 300, s1, hS, k1, .inl ⟨_, _, _, id + 1, k2, (by unfold I11A; rw [hc2]; exact k3), ⟨by omega, by omega⟩, by omega⟩⟩
      · have hc2 : cnt Is (id + 1).toNat = cnt Is id.toNat := by rw [show (id + 1).toNat = 0 by omega, show id.toNat = 0 by omega]
        have h := i11A2 zs.length el (ints zs) i (cnt Is id.toNat) id Pl K Is N
        unfold rnd11A at h
        rw [hiv] at h
        obtain ⟨s1, k1, k2, k3⟩ := xround_of h (hold_cons (qd (by omega)) (hold_cons (qdn (by omega)) (hold_cons (qdn (by omega)) (hold_cons (qdn (by omega)) (hold_cons (qdn (by omega)) (hold_cons (qdn (by omega)) (hold_cons (qdn (by omega)) (hold_cons (qdn (by omega)) (hold_cons (qdn (by omega)) (hold_cons (qd (by omega)) (hold_cons (qd (by omega)) (hold_cons (qd (by omega)) (hold_cons (qd (by omega)) (hold_cons (qd (by omega)) (hold_cons (qd (by omega)) (hold_cons (qd (by omega)) (hold_cons (qd (by omega)) hold_nil))))))))))))))))) (still_cons (renL_flat _ _ (ints_flat zs)) (still_cons rfl (still_cons (renL_flat _ _ (ints_flat _)) (still_cons rfl (still_cons (renL_flat _ _ (ints_flat _)) (still_cons (renL_flat _ _ (bools_flat _)) (still_cons rfl still_nil)))))))
        exact ⟨_, 300, s1, hS, k1, .inl ⟨_, _, _, id + 1, k2, (by unfold I11A; rw [hc2]; exact k3), ⟨by omega, by omega⟩, by omega⟩⟩
    · have h := i11A3 zs.length el (ints zs) i (cnt Is id.toNat) id Pl K Is N
      unfold end11A at h
      obtain ⟨s1, k1, k2, k3⟩ := xround_of h (hold_cons (qdn (by omega)) hold_nil) (still_cons (renL_flat _ _ (ints_flat zs)) (still_cons rfl (still_cons (renL_flat _ _ (ints_flat _)) (still_cons rfl (still_cons (renL_flat _ _ (ints_flat _)) (still_cons (renL_flat _ _ (bools_flat _)) (still_cons rfl still_nil)))))))
      exact ⟨_, 300, s1, hS, k1, .inr ⟨_, _, k2, by rw [show id = 13 by omega] at k3; exact k3⟩⟩
def I11B (el : Nat) (zs : List Int) (i : Nat) (E : List En) (Pl K : List Int) (Is : List Bool) (N : Int) (id : Int) : St := J11 zs.length el (ints zs) (i : Int) ((cnt Is id.toNat : Nat) : Int) id Pl K Is N (lineB 1 9 2 1 12) [(9, own (ents E) 43 2)] 10 ([2, 3, 4, 5, 6, 7, 8] ++ [6, 4, 5, 2, 3, 2, 3, 4, 5, 6])
theorem loop11B_ok (el : Nat) (zs : List Int) (i : Nat) (E : List En) (Pl K : List Int) (Is : List Bool) (N : Int) (hsame : Same 12 ⟨some E, Pl⟩ ⟨K, Is, N⟩) (hn : E.length = 1) (B : Nat) :
    BlkOk Try.prog [] B 2 (loopG (.loop loop11i) D11B (I11B el zs i E Pl K Is N (-1)) (.normal, F11 zs.length el (ints zs) (i : Int) ((cnt Is 13 : Nat) : Int) Pl K Is N (lineB 1 9 2 1 12) [(9, own (ents E) 43 2)] 10 ([2, 3, 4, 5, 6, 7, 8] ++ [6, 4, 5, 2, 3, 2, 3, 4, 5, 6]))) := by
  refine loopG_ok noNumP mixedP (I11B el zs i E Pl K Is N) (fun id => -1 ≤ id ∧ id ≤ 13) (fun id => (13 - id).toNat) (e := .exit 2) (K := 10) (by intro h; cases h) ⟨by decide, by decide⟩ (by decide) rfl rfl rfl (fun id h1 h2 => ?_) (fun id hd => ?_)
  · match id, h1 with
    | 0, _ => rfl
    | 1, _ => rfl
    | 2, _ => exact absurd (by decide) h2
    | 3, _ => exact absurd (by decide) h2
    | 4, _ => exact absurd (by decide) h2
    | 5, _ => exact absurd (by decide) h2
    | 6, _ => exact absurd (by decide) h2
    | 7, _ => exact absurd (by decide) h2
    | 8, _ => exact absurd (by decide) h2
    | 9, _ => rfl
    | n + 10, h => exact absurd (show n + 10 < 10 from h) (by omega)
  · obtain ⟨hd1, hd2⟩ := hd
    have hS := specs11N [] B (fun p hp => by cases hp)
    have hlp : Pl.length = 12 := hsame.lp
    have hlk : K.length = 12 := hsame.lk
    have hli : Is.length = 12 := hsame.li
    have hiv : IntKind.wrap .i64 (id + (1 : Int)) = id + 1 := IntWalk.i64_in _ (by omega)
    by_cases c0 : id ≤ 12
    · by_cases c1 : id ≥ 0
      · have hc1 : cnt Is (id + 1).toNat = cnt Is id.toNat + (if Is.getD id.toNat false = true then 1 else 0) := by
          rw [show (id + 1).toNat = id.toNat + 1 by omega]; rfl
        by_cases c2 : id < 12
        · have hg : Pl[id.toNat]? = some (Pl.getD id.toNat 0) := getD_some (by omega)
          obtain ⟨pz, hpd⟩ : ∃ pz, Pl.getD id.toNat 0 = pz := ⟨_, rfl⟩
          have hpz : Pl[id.toNat]? = some pz := by rw [← hpd]; exact getD_some (by omega)
          have hfew : E.length ≤ Pl.length := hsame.ok.wf.few
          by_cases c3 : pz = 0
          · have hno := hsame.key_no (i := id.toNat) (by omega) (by rw [← c3]; exact hpz)
            have hib : Is[id.toNat]? = some false := by rw [← hno]; exact getD_some (by omega)
            have hc2 : cnt Is (id + 1).toNat = cnt Is id.toNat := by
              have h0 : Is.getD id.toNat false = false := hno
              rw [hc1, h0]; simp
            have h := i11B0 zs.length el (ints zs) i (cnt Is id.toNat) id Pl K Is N E pz
            unfold rnd11B at h
            rw [hiv] at h
            obtain ⟨s1, k1, k2, k3⟩ := xround_of h (hold_cons (qd (by omega)) (hold_cons (qd (by omega)) (hold_cons (qd (by omega)) (hold_cons (qd (by omega)) (hold_cons (qd (by omega)) (hold_cons (qd (by omega)) (hold_cons (qd (by omega)) (hold_cons (qd (by omega)) (hold_cons (qd (by omega)) (hold_cons (qb (by simp <;> omega)) (hold_cons (qb (by simp <;> omega)) (hold_cons (qb (by simp <;> omega)) (hold_cons (qb (by simp <;> omega)) (hold_cons (qb (by simp <;> omega)) (hold_cons (qb (by simp <;> omega)) (hold_cons (qib (by omega)) (hold_cons (qb (by simp <;> omega)) (hold_cons (ldI hpz) (hold_cons (qb (by simp <;> omega)) (hold_cons (qb (by simp <;> omega)) (hold_cons (qb (by simp <;> omega)) (hold_cons (qdn (by omega)) (hold_cons (qdn (by omega)) (hold_cons (qdn (by omega)) (hold_cons (qdn (by omega)) (hold_cons (qdn (by omega)) (hold_cons (qdn (by omega)) (hold_cons (qdn (by omega)) (hold_cons (qdn (by omega)) (hold_cons (qdn (by omega)) (hold_cons (qdn (by omega)) (hold_cons (qdn (by omega)) (hold_cons (qdn (by omega)) (hold_cons (qdn (by omega)) (hold_cons (qdn (by omega)) (hold_cons (qib (by omega)) (hold_cons (qdn (by omega)) (hold_cons (ldB hib) (hold_cons (qdn (by omega)) (hold_cons (qdn (by omega)) hold_nil)))))))))))))))))))))))))))))))))))))))) (still_cons (renL_flat _ _ (ints_flat zs)) (still_cons rfl (still_cons (renL_flat _ _ (ints_flat _)) (still_cons rfl (still_cons (renL_flat _ _ (ints_flat _)) (still_cons (renL_flat _ _ (bools_flat _)) (still_cons rfl (still_cons (renL_flat _ _ (ents_flat _)) still_nil))))))))
            exact ⟨_, 300, s1, hS, k1, .inl ⟨_, _, _, id + 1, k2, (by unfold I11B; rw [hc2]; exact k3), ⟨by omega, by omega⟩, by omega⟩⟩
          · obtain ⟨q, e, hee, e2, e3, e4⟩ := hsame.key_yes (i := id.toNat) (by omega) hpz c3
            have hql : q < E.length := (List.getElem?_eq_some_iff.1 hee).1
            have hib : Is[id.toNat]? = some true := by rw [← e3]; exact getD_some (by omega)
            have hkz : K[id.toNat]? = some e.2 := by rw [← e4]; exact getD_some (by omega)
            have hpq : IntKind.wrap .i64 (pz - (1 : Int)) = ((q : Nat) : Int) := by rw [e2, IntWalk.i64_in _ (by omega)]; omega
            have hcl := cnt_le Is id.toNat
            have hcv : IntKind.wrap .i64 (((cnt Is id.toNat : Nat) : Int) + (1 : Int)) = ((cnt Is id.toNat + 1 : Nat) : Int) := by rw [IntWalk.i64_in _ (by omega)]; omega
            have hc2 : cnt Is (id + 1).toNat = cnt Is id.toNat + 1 := by
              have h0 : Is.getD id.toNat false = true := e3
              rw [hc1, h0]; simp
            have h := i11B1 zs.length el (ints zs) i (cnt Is id.toNat) id Pl K Is N E pz e.2
            unfold rnd11B at h
            simp only [hiv, hcv, hpq, Int.toNat_natCast] at h
            obtain ⟨s1, k1, k2, k3⟩ := xround_of h (hold_cons (qd (by omega)) (hold_cons (qd (by omega)) (hold_cons (qd (by omega)) (hold_cons (qd (by omega)) (hold_cons (qd (by omega)) (hold_cons (qd (by omega)) (hold_cons (qd (by omega)) (hold_cons (qd (by omega)) (hold_cons (qd (by omega)) (hold_cons (qb (by simp <;> omega)) (hold_cons (qb (by simp <;> omega)) (hold_cons (qb (by simp <;> omega)) (hold_cons (qb (by simp <;> omega)) (hold_cons (qb (by simp <;> omega)) (hold_cons (qb (by simp <;> omega)) (hold_cons (qib (by omega)) (hold_cons (qb (by simp <;> omega)) (hold_cons (ldI hpz) (hold_cons (qb (by simp <;> omega)) (hold_cons (qb (by simp <;> omega)) (hold_cons (qb (by simp <;> omega)) (hold_cons (qib (by omega)) (hold_cons (ldI hpz) (hold_cons (qib (by omega)) (hold_cons (ldE1 hee) (hold_cons (qdn (by omega)) (hold_cons (qdn (by omega)) (hold_cons (qdn (by omega)) (hold_cons (qdn (by omega)) (hold_cons (qdn (by omega)) (hold_cons (qdn (by omega)) (hold_cons (qdn (by omega)) (hold_cons (qdn (by omega)) (hold_cons (qdn (by omega)) (hold_cons (qdn (by omega)) (hold_cons (qdn (by omega)) (hold_cons (qdn (by omega)) (hold_cons (qdn (by omega)) (hold_cons (qdn (by omega)) (hold_cons (qib (by omega)) (hold_cons (qdn (by omega)) (hold_cons (ldB hib) (hold_cons (qdn (by omega)) (hold_cons (qdn (by omega)) (hold_cons (qib (by omega)) (hold_cons (ldI hkz) (hold_cons (qb (by simp <;> omega)) (hold_cons (qb (by simp <;> omega)) (hold_cons (qb (by simp <;> omega)) (hold_cons (qb (by simp <;> omega)) hold_nil)))))))))))))))))))))))))))))))))))))))))))))))))) (still_cons (renL_flat _ _ (ints_flat zs)) (still_cons rfl (still_cons (renL_flat _ _ (ints_flat _)) (still_cons rfl (still_cons (renL_flat _ _ (ints_flat _)) (still_cons (renL_flat _ _ (bools_flat _)) (still_cons rfl (still_cons (renL_flat _ _ (ents_flat _)) still_nil))))))))
            exact ⟨_, 300, s1, hS, k1, .inl ⟨_, _, _, id + 1, k2, (by unfold I11B; rw [hc2]; exact k3), ⟨by omega, by omega⟩, by omega⟩⟩
        · have hc2 : cnt Is (id + 1).toNat = cnt Is id.toNat := by
            have h0 : Is.getD id.toNat false = false := by rw [List.getD_eq_getElem?_getD, List.getElem?_eq_none (by omega)]; rfl
            rw [hc1, h0]; simp
          have h := i11B2 zs.length el (ints zs) i (cnt Is id.toNat) id Pl K Is N E
          unfold rnd11B at h
          rw [hiv] at h
          obtain ⟨s1, k1, k2, k3⟩ := xround_of h (hold_cons (qd (by omega)) (hold_cons (qd (by omega)) (hold_cons (qd (by omega)) (hold_cons (qd (by omega)) (hold_cons (qd (by omega)) (hold_cons (qd (by omega)) (hold_cons (qd (by omega)) (hold_cons (qd (by omega)) (hold_cons (qd (by omega)) (hold_cons (qb (by simp <;> omega)) (hold_cons (qb (by simp <;> omega)) (hold_cons (qb (by simp <;> omega)) (hold_cons (qb (by simp <;> omega)) (hold_cons (qb (by simp <;> omega)) (hold_cons (qb (by simp <;> omega)) (hold_cons (qb (by simp <;> omega)) (hold_cons (qb (by simp <;> omega)) (hold_cons (qb (by simp <;> omega)) (hold_cons (qdn (by omega)) (hold_cons (qdn (by omega)) (hold_cons (qdn (by omega)) (hold_cons (qdn (by omega)) (hold_cons (qdn (by omega)) (hold_cons (qdn (by omega)) (hold_cons (qdn (by omega)) (hold_cons (qdn (by omega)) (hold_cons (qd (by omega)) (hold_cons (qd (by omega)) (hold_cons (qd (by omega)) (hold_cons (qd (by omega)) (hold_cons (qd (by omega)) (hold_cons (qd (by omega)) (hold_cons (qd (by omega)) (hold_cons (qd (by omega)) (hold_cons (qd (by omega)) hold_nil))))))))))))))))))))))))))))))))))) (still_cons (renL_flat _ _ (ints_flat zs)) (still_cons rfl (still_cons (renL_flat _ _ (ints_flat _)) (still_cons rfl (still_cons (renL_flat _ _ (ints_flat _)) (still_cons (renL_flat _ _ (bools_flat _)) (still_cons rfl (still_cons (renL_flat _ _ (ents_flat _)) still_nil))))))))
          exact ⟨_, 300, s1, hS, k1, .inl ⟨_, _, _, id + 1, k2, (by unfold I11B; rw [hc2]; exact k3), ⟨by omega, by omega⟩, by omega⟩⟩
      · have hc2 : cnt Is (id + 1).toNat = cnt Is id.toNat := by rw [show (id + 1).toNat = 0 by omega, show id.toNat = 0 by omega]
        have h := i11B3 zs.length el (ints zs) i (cnt Is id.toNat) id Pl K Is N E
        unfold rnd11B at h
        rw [hiv] at h
        obtain ⟨s1, k1, k2, k3⟩ := xround_of h (hold_cons (qd (by omega)) (hold_cons (qdn (by omega)) (hold_cons (qdn (by omega)) (hold_cons (qdn (by omega)) (hold_cons (qdn (by omega)) (hold_cons (qdn (by omega)) (hold_cons (qdn (by omega)) (hold_cons (qdn (by omega)) (hold_cons (qdn (by omega)) (hold_cons (qd (by omega)) (hold_cons (qd (by omega)) (hold_cons (qd (by omega)) (hold_cons (qd (by omega)) (hold_cons (qd (by omega)) (hold_cons (qd (by omega)) (hold_cons (qd (by omega)) (hold_cons (qd (by omega)) hold_nil))))))))))))))))) (still_cons (renL_flat _ _ (ints_flat zs)) (still_cons rfl (still_cons (renL_flat _ _ (ints_flat _)) (still_cons rfl (still_cons (renL_flat _ _ (ints_flat _)) (still_cons (renL_flat _ _ (bools_flat _)) (still_cons rfl (still_cons (renL_flat _ _ (ents_flat _)) still_nil))))))))
        exact ⟨_, 300, s1, hS, k1, .inl ⟨_, _, _, id + 1, k2, (by unfold I11B; rw [hc2]; exact k3), ⟨by omega, by omega⟩, by omega⟩⟩
    · have h := i11B4 zs.length el (ints zs) i (cnt Is id.toNat) id Pl K Is N E
      unfold end11B at h
      obtain ⟨s1, k1, k2, k3⟩ := xround_of h (hold_cons (qdn (by omega)) hold_nil) (still_cons (renL_flat _ _ (ints_flat zs)) (still_cons rfl (still_cons (renL_flat _ _ (ints_flat _)) (still_cons rfl (still_cons (renL_flat _ _ (ints_flat _)) (still_cons (renL_flat _ _ (bools_flat _)) (still_cons rfl (still_cons (renL_flat _ _ (ents_flat _)) still_nil))))))))
      exact ⟨_, 300, s1, hS, k1, .inr ⟨_, _, k2, by rw [show id = 13 by omega] at k3; exact k3⟩⟩
def I11C (el : Nat) (zs : List Int) (i : Nat) (n : Nat) (E : List En) (Pl K : List Int) (Is : List Bool) (N : Int) (id : Int) : St := J11 zs.length el (ints zs) (i : Int) ((cnt Is id.toNat : Nat) : Int) id Pl K Is N (lineB 1 8 2 n 12) [(8, own (ents E) 43 2)] 9 ([2, 3, 4, 5, 6, 7] ++ [6, 4, 5, 3, 7, 2, 2, 3, 4, 5, 6])
theorem loop11C_ok (el : Nat) (zs : List Int) (i : Nat) (n : Nat) (E : List En) (Pl K : List Int) (Is : List Bool) (N : Int) (hsame : Same 12 ⟨some E, Pl⟩ ⟨K, Is, N⟩) (hn : E.length = n) (B : Nat) :
    BlkOk Try.prog [] B 2 (loopG (.loop loop11i) D11C (I11C el zs i n E Pl K Is N (-1)) (.normal, F11 zs.length el (ints zs) (i : Int) ((cnt Is 13 : Nat) : Int) Pl K Is N (lineB 1 8 2 n 12) [(8, own (ents E) 43 2)] 9 ([2, 3, 4, 5, 6, 7] ++ [6, 4, 5, 3, 7, 2, 2, 3, 4, 5, 6]))) := by
  refine loopG_ok noNumP mixedP (I11C el zs i n E Pl K Is N) (fun id => -1 ≤ id ∧ id ≤ 13) (fun id => (13 - id).toNat) (e := .exit 2) (K := 9) (by intro h; cases h) ⟨by decide, by decide⟩ (by decide) rfl rfl rfl (fun id h1 h2 => ?_) (fun id hd => ?_)
  · match id, h1 with
    | 0, _ => rfl
    | 1, _ => rfl
    | 2, _ => exact absurd (by decide) h2
    | 3, _ => exact absurd (by decide) h2
    | 4, _ => exact absurd (by decide) h2
    | 5, _ => exact absurd (by decide) h2
    | 6, _ => exact absurd (by decide) h2
    | 7, _ => exact absurd (by decide) h2
    | 8, _ => rfl
    | n + 9, h => exact absurd (show n + 9 < 9 from h) (by omega)
  · obtain ⟨hd1, hd2⟩ := hd
    have hS := specs11N [] B (fun p hp => by cases hp)
    have hlp : Pl.length = 12 := hsame.lp
    have hlk : K.length = 12 := hsame.lk
    have hli : Is.length = 12 := hsame.li
    have hiv : IntKind.wrap .i64 (id + (1 : Int)) = id + 1 := IntWalk.i64_in _ (by omega)
    by_cases c0 : id ≤ 12
    · by_cases c1 : id ≥ 0
      · have hc1 : cnt Is (id + 1).toNat = cnt Is id.toNat + (if Is.getD id.toNat false = true then 1 else 0) := by
          rw [show (id + 1).toNat = id.toNat + 1 by omega]; rfl
        by_cases c2 : id < 12
        · have hg : Pl[id.toNat]? = some (Pl.getD id.toNat 0) := getD_some (by omega)
          obtain ⟨pz, hpd⟩ : ∃ pz, Pl.getD id.toNat 0 = pz := ⟨_, rfl⟩
          have hpz : Pl[id.toNat]? = some pz := by rw [← hpd]; exact getD_some (by omega)
          have hfew : E.length ≤ Pl.length := hsame.ok.wf.few
          by_cases c3 : pz = 0
          · have hno := hsame.key_no (i := id.toNat) (by omega) (by rw [← c3]; exact hpz)
            have hib : Is[id.toNat]? = some false := by rw [← hno]; exact getD_some (by omega)
            have hc2 : cnt Is (id + 1).toNat = cnt Is id.toNat := by
              have h0 : Is.getD id.toNat false = false := hno
              rw [hc1, h0]; simp
            have h := i11C0 zs.length el (ints zs) i (cnt Is id.toNat) id Pl K Is N n E pz
            unfold rnd11C at h
            rw [hiv] at h
            obtain ⟨s1, k1, k2, k3⟩ := xround_of h (hold_cons (qd (by omega)) (hold_cons (qd (by omega)) (hold_cons (qd (by omega)) (hold_cons (qd (by omega)) (hold_cons (qd (by omega)) (hold_cons (qd (by omega)) (hold_cons (qd (by omega)) (hold_cons (qd (by omega)) (hold_cons (qd (by omega)) (hold_cons (qb (by simp <;> omega)) (hold_cons (qb (by simp <;> omega)) (hold_cons (qb (by simp <;> omega)) (hold_cons (qb (by simp <;> omega)) (hold_cons (qb (by simp <;> omega)) (hold_cons (qb (by simp <;> omega)) (hold_cons (qib (by omega)) (hold_cons (qb (by simp <;> omega)) (hold_cons (ldI hpz) (hold_cons (qb (by simp <;> omega)) (hold_cons (qb (by simp <;> omega)) (hold_cons (qb (by simp <;> omega)) (hold_cons (qdn (by omega)) (hold_cons (qdn (by omega)) (hold_cons (qdn (by omega)) (hold_cons (qdn (by omega)) (hold_cons (qdn (by omega)) (hold_cons (qdn (by omega)) (hold_cons (qdn (by omega)) (hold_cons (qdn (by omega)) (hold_cons (qdn (by omega)) (hold_cons (qdn (by omega)) (hold_cons (qdn (by omega)) (hold_cons (qdn (by omega)) (hold_cons (qdn (by omega)) (hold_cons (qdn (by omega)) (hold_cons (qib (by omega)) (hold_cons (qdn (by omega)) (hold_cons (ldB hib) (hold_cons (qdn (by omega)) (hold_cons (qdn (by omega)) hold_nil)))))))))))))))))))))))))))))))))))))))) (still_cons (renL_flat _ _ (ints_flat zs)) (still_cons rfl (still_cons (renL_flat _ _ (ints_flat _)) (still_cons rfl (still_cons (renL_flat _ _ (ints_flat _)) (still_cons (renL_flat _ _ (bools_flat _)) (still_cons rfl (still_cons (renL_flat _ _ (ents_flat _)) still_nil))))))))
            exact ⟨_, 300, s1, hS, k1, .inl ⟨_, _, _, id + 1, k2, (by unfold I11C; rw [hc2]; exact k3), ⟨by omega, by omega⟩, by omega⟩⟩
          · obtain ⟨q, e, hee, e2, e3, e4⟩ := hsame.key_yes (i := id.toNat) (by omega) hpz c3
            have hql : q < E.length := (List.getElem?_eq_some_iff.1 hee).1
            have hib : Is[id.toNat]? = some true := by rw [← e3]; exact getD_some (by omega)
            have hkz : K[id.toNat]? = some e.2 := by rw [← e4]; exact getD_some (by omega)
            have hpq : IntKind.wrap .i64 (pz - (1 : Int)) = ((q : Nat) : Int) := by rw [e2, IntWalk.i64_in _ (by omega)]; omega
            have hcl := cnt_le Is id.toNat
            have hcv : IntKind.wrap .i64 (((cnt Is id.toNat : Nat) : Int) + (1 : Int)) = ((cnt Is id.toNat + 1 : Nat) : Int) := by rw [IntWalk.i64_in _ (by omega)]; omega
            have hc2 : cnt Is (id + 1).toNat = cnt Is id.toNat + 1 := by
              have h0 : Is.getD id.toNat false = true := e3
              rw [hc1, h0]; simp
            have h := i11C1 zs.length el (ints zs) i (cnt Is id.toNat) id Pl K Is N n E pz e.2
            unfold rnd11C at h
            simp only [hiv, hcv, hpq, Int.toNat_natCast] at h
            obtain ⟨s1, k1, k2, k3⟩ := xround_of h (hold_cons (qd (by omega)) (hold_cons (qd (by omega)) (hold_cons (qd (by omega)) (hold_cons (qd (by omega)) (hold_cons (qd (by omega)) (hold_cons (qd (by omega)) (hold_cons (qd (by omega)) (hold_cons (qd (by omega)) (hold_cons (qd (by omega)) (hold_cons (qb (by simp <;> omega)) (hold_cons (qb (by simp <;> omega)) (hold_cons (qb (by simp <;> omega)) (hold_cons (qb (by simp <;> omega)) (hold_cons (qb (by simp <;> omega)) (hold_cons (qb (by simp <;> omega)) (hold_cons (qib (by omega)) (hold_cons (qb (by simp <;> omega)) (hold_cons (ldI hpz) (hold_cons (qb (by simp <;> omega)) (hold_cons (qb (by simp <;> omega)) (hold_cons (qb (by simp <;> omega)) (hold_cons (qib (by omega)) (hold_cons (ldI hpz) (hold_cons (qib (by omega)) (hold_cons (ldE1 hee) (hold_cons (qdn (by omega)) (hold_cons (qdn (by omega)) (hold_cons (qdn (by omega)) (hold_cons (qdn (by omega)) (hold_cons (qdn (by omega)) (hold_cons (qdn (by omega)) (hold_cons (qdn (by omega)) (hold_cons (qdn (by omega)) (hold_cons (qdn (by omega)) (hold_cons (qdn (by omega)) (hold_cons (qdn (by omega)) (hold_cons (qdn (by omega)) (hold_cons (qdn (by omega)) (hold_cons (qdn (by omega)) (hold_cons (qib (by omega)) (hold_cons (qdn (by omega)) (hold_cons (ldB hib) (hold_cons (qdn (by omega)) (hold_cons (qdn (by omega)) (hold_cons (qib (by omega)) (hold_cons (ldI hkz) (hold_cons (qb (by simp <;> omega)) (hold_cons (qb (by simp <;> omega)) (hold_cons (qb (by simp <;> omega)) (hold_cons (qb (by simp <;> omega)) hold_nil)))))))))))))))))))))))))))))))))))))))))))))))))) (still_cons (renL_flat _ _ (ints_flat zs)) (still_cons rfl (still_cons (renL_flat _ _ (ints_flat _)) (still_cons rfl (still_cons (renL_flat _ _ (ints_flat _)) (still_cons (renL_flat _ _ (bools_flat _)) (still_cons rfl (still_cons (renL_flat _ _ (ents_flat _)) still_nil))))))))
            exact ⟨_, 300, s1, hS, k1, .inl ⟨_, _, _, id + 1, k2, (by unfold I11C; rw [hc2]; exact k3), ⟨by omega, by omega⟩, by omega⟩⟩
        · have hc2 : cnt Is (id + 1).toNat = cnt Is id.toNat := by
            have h0 : Is.getD id.toNat false = false := by rw [List.getD_eq_getElem?_getD, List.getElem?_eq_none (by omega)]; rfl
            rw [hc1, h0]; simp
          have h := i11C2 zs.length el (ints zs) i (cnt Is id.toNat) id Pl K Is N n E
          unfold rnd11C at h
          rw [hiv] at h
          obtain ⟨s1, k1, k2, k3⟩ := xround_of h (hold_cons (qd (by omega)) (hold_cons (qd (by omega)) (hold_cons (qd (by omega)) (hold_cons (qd (by omega)) (hold_cons (qd (by omega)) (hold_cons (qd (by omega)) (hold_cons (qd (by omega)) (hold_cons (qd (by omega)) (hold_cons (qd (by omega)) (hold_cons (qb (by simp <;> omega)) (hold_cons (qb (by simp <;> omega)) (hold_cons (qb (by simp <;> omega)) (hold_cons (qb (by simp <;> omega)) (hold_cons (qb (by simp <;> omega)) (hold_cons (qb (by simp <;> omega)) (hold_cons (qb (by simp <;> omega)) (hold_cons (qb (by simp <;> omega)) (hold_cons (qb (by simp <;> omega)) (hold_cons (qdn (by omega)) (hold_cons (qdn (by omega)) (hold_cons (qdn (by omega)) (hold_cons (qdn (by omega)) (hold_cons (qdn (by omega)) (hold_cons (qdn (by omega)) (hold_cons (qdn (by omega)) (hold_cons (qdn (by omega)) (hold_cons (qd (by omega)) (hold_cons (qd (by omega)) (hold_cons (qd (by omega)) (hold_cons (qd (by omega)) (hold_cons (qd (by omega)) (hold_cons (qd (by omega)) (hold_cons (qd (by omega)) (hold_cons (qd (by omega)) (hold_cons (qd (by omega)) hold_nil))))))))))))))))))))))))))))))))))) (still_cons (renL_flat _ _ (ints_flat zs)) (still_cons rfl (still_cons (renL_flat _ _ (ints_flat _)) (still_cons rfl (still_cons (renL_flat _ _ (ints_flat _)) (still_cons (renL_flat _ _ (bools_flat _)) (still_cons rfl (still_cons (renL_flat _ _ (ents_flat _)) still_nil))))))))
          exact ⟨_, 300, s1, hS, k1, .inl ⟨_, _, _, id + 1, k2, (by unfold I11C; rw [hc2]; exact k3), ⟨by omega, by omega⟩, by omega⟩⟩
      · have hc2 : cnt Is (id + 1).toNat = cnt Is id.toNat := by rw [show (id + 1).toNat = 0 by omega, show id.toNat = 0 by omega]
        have h := i11C3 zs.length el (ints zs) i (cnt Is id.toNat) id Pl K Is N n E
        unfold rnd11C at h
        rw [hiv] at h
        obtain ⟨s1, k1, k2, k3⟩ := xround_of h (hold_cons (qd (by omega)) (hold_cons (qdn (by omega)) (hold_cons (qdn (by omega)) (hold_cons (qdn (by omega)) (hold_cons (qdn (by omega)) (hold_cons (qdn (by omega)) (hold_cons (qdn (by omega)) (hold_cons (qdn (by omega)) (hold_cons (qdn (by omega)) (hold_cons (qd (by omega)) (hold_cons (qd (by omega)) (hold_cons (qd (by omega)) (hold_cons (qd (by omega)) (hold_cons (qd (by omega)) (hold_cons (qd (by omega)) (hold_cons (qd (by omega)) (hold_cons (qd (by omega)) hold_nil))))))))))))))))) (still_cons (renL_flat _ _ (ints_flat zs)) (still_cons rfl (still_cons (renL_flat _ _ (ints_flat _)) (still_cons rfl (still_cons (renL_flat _ _ (ints_flat _)) (still_cons (renL_flat _ _ (bools_flat _)) (still_cons rfl (still_cons (renL_flat _ _ (ents_flat _)) still_nil))))))))
        exact ⟨_, 300, s1, hS, k1, .inl ⟨_, _, _, id + 1, k2, (by unfold I11C; rw [hc2]; exact k3), ⟨by omega, by omega⟩, by omega⟩⟩
    · have h := i11C4 zs.length el (ints zs) i (cnt Is id.toNat) id Pl K Is N n E
      unfold end11C at h
      obtain ⟨s1, k1, k2, k3⟩ := xround_of h (hold_cons (qdn (by omega)) hold_nil) (still_cons (renL_flat _ _ (ints_flat zs)) (still_cons rfl (still_cons (renL_flat _ _ (ints_flat _)) (still_cons rfl (still_cons (renL_flat _ _ (ints_flat _)) (still_cons (renL_flat _ _ (bools_flat _)) (still_cons rfl (still_cons (renL_flat _ _ (ents_flat _)) still_nil))))))))
      exact ⟨_, 300, s1, hS, k1, .inr ⟨_, _, k2, by rw [show id = 13 by omega] at k3; exact k3⟩⟩
end Go.Proofs.Ythocfeccinpbmaa
