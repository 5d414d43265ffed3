/-
  QueueKeys: whatever was put and popped, the call returns true, and its argument reads as it did.
-/
import Derived.Test.YthocfeccinpbmaaGQY2
open Go Go.Am Go.Proofs
namespace Go.Proofs.Ythocfeccinpbmaa
set_option maxRecDepth 100000

structure KD where
  i : Nat
  s : QS
  t : RS
def I11 (el : Nat) (zs : List Int) (d : KD) : St :=
  match d.s.E with
  | none => S11 zs.length el (ints zs) (d.i : Int) d.s.Pl d.t.K d.t.Is d.t.N (lineN 1 2 12) [] 7
  | some E => S11 zs.length el (ints zs) (d.i : Int) d.s.Pl d.t.K d.t.Is d.t.N (lineB 1 7 2 E.length 12) [(7, own (ents E) 43 2)] 8
abbrev Goal11 (el : Nat) (zs : List Int) (B : Nat) (d : KD) : Prop :=
  ∃ SP n s1, SpecsOk Try.prog [] B SP ∧ s1.M.next ≤ 24 ∧
      ((∃ nx mv keep d', aexec Try.prog [] SP n loop11 (I11 el zs d) = some (.normal, s1) ∧ View 7 nx mv keep [2, 3, 4, 5, 6] [] s1 (I11 el zs d') ∧ (d'.i ≤ zs.length ∧ d'.i ≤ 60 ∧ Same 12 d'.s d'.t ∧ d'.t.N = (cnt d'.t.Is 13 : Int)) ∧ zs.length - d'.i < zs.length - d.i) ∨
        (∃ mv keep, aexec Try.prog [] SP n loop11 (I11 el zs d) = some (.exit 0, s1) ∧ View 7 24 mv keep [2, 3, 4, 5, 6] [] s1 (E11 el (ints zs) 24)))
theorem step11N (el : Nat) (zs : List Int) (B i : Nat) (Pl K : List Int) (Is : List Bool) (N : Int) (hi2 : i ≤ 60) (hsame : Same 12 ⟨none, Pl⟩ ⟨K, Is, N⟩) (hcnt : N = (cnt Is 13 : Int)) : Goal11 el zs B ⟨i, ⟨none, Pl⟩, ⟨K, Is, N⟩⟩ := by
  have hlp : Pl.length = 12 := hsame.lp
  have hlk : K.length = 12 := hsame.lk
  have hli : Is.length = 12 := hsame.li
  have hiv : IntKind.wrap .i64 (((i : Nat) : Int) + (1 : Int)) = ((i + 1 : Nat) : Int) := by rw [IntWalk.i64_in _ (by omega)]; omega
  by_cases c0 : i < zs.length
  · by_cases c1 : i < 60
    · obtain ⟨z, hz⟩ : ∃ z, zs[i]? = some z := ⟨zs[i], List.getElem?_eq_getElem (by omega)⟩
      obtain ⟨w0, hw0⟩ := modN z 4 (by decide)
      obtain ⟨w1, hw1⟩ := modN (IntKind.wrap .i64 (z.tdiv 4)) 12 (by decide)
      obtain ⟨w2, hw2⟩ := modN (IntKind.wrap .i64 (z.tdiv 48)) 50 (by decide)
      have hr1 := modI_range (x := IntKind.wrap .i64 (z.tdiv 4)) (n := 12) (by decide)
      by_cases c2 : w0 = 0
      · obtain ⟨p1, p2⟩ := hsame.pop
        rw [popS_none rfl] at p1 p2
        have hre : (rpopR ⟨K, Is, N⟩) = (.tuple ⟨[i64 0, i64 0, .bool false]⟩, ⟨(rpopR ⟨K, Is, N⟩).2.K, (rpopR ⟨K, Is, N⟩).2.Is, (rpopR ⟨K, Is, N⟩).2.N⟩) := Prod.ext p1 rfl
        have hc2 := cnt_pop hsame hcnt
        have hcf : ((cnt (rpopR ⟨K, Is, N⟩).2.Is 13 : Nat) : Int) = 0 := by rw [← hc2]; exact p2.num
        have h := o11N0 zs.length el (ints zs) i (cnt (rpopR ⟨K, Is, N⟩).2.Is 13) Pl K Is N z w0 (rpopR ⟨K, Is, N⟩).2.K (rpopR ⟨K, Is, N⟩).2.Is (rpopR ⟨K, Is, N⟩).2.N (loopG (.loop loop11i) D11A (I11A el zs i Pl (rpopR ⟨K, Is, N⟩).2.K (rpopR ⟨K, Is, N⟩).2.Is (rpopR ⟨K, Is, N⟩).2.N (-1)) (.normal, F11 zs.length el (ints zs) (i : Int) ((cnt (rpopR ⟨K, Is, N⟩).2.Is 13 : Nat) : Int) Pl (rpopR ⟨K, Is, N⟩).2.K (rpopR ⟨K, Is, N⟩).2.Is (rpopR ⟨K, Is, N⟩).2.N (lineN 1 2 12) [] 7 ([2, 3, 4, 5, 6] ++ [6, 4, 5, 2, 3, 4, 5, 6])))
        unfold o11N0r at h
        rw [hiv] at h
        obtain ⟨s1, k1, k2, k3⟩ := xround_of h (hold_cons (qd (by omega)) (hold_cons (qd (by omega)) (hold_cons (qd (by omega)) (hold_cons (qd (by omega)) (hold_cons (qib (by omega)) (hold_cons (ldR hz) (hold_cons (fun M _ => call_mod rfl (by decide) (by decide) hw0 M) (hold_cons (qb (by simp <;> omega)) (hold_cons (rpopQ rfl (fun M h => rm7 hlk hli rfl h) (by rw [hlk]; omega) hre p2.lk (by decide) (by decide) (by decide)) (hold_cons (qbk rfl rfl rfl (still_cons (renL_flat _ _ (ints_flat zs)) (still_cons rfl (still_cons (renL_flat _ _ (ints_flat _)) (still_cons rfl (still_cons (renL_flat _ _ (ints_flat _)) (still_cons (renL_flat _ _ (bools_flat _)) (still_cons rfl still_nil)))))))) (hold_cons (qb (by rw [hcf]; simp)) hold_nil))))))))))) (still_cons (renL_flat _ _ (ints_flat zs)) (still_cons rfl (still_cons (renL_flat _ _ (ints_flat _)) (still_cons (renL_flat _ _ (ints_flat _)) (still_cons (renL_flat _ _ (bools_flat _)) (still_cons rfl still_nil))))))
        exact ⟨_, 400, s1, specs11N _ B (fun p hp => by rw [List.mem_singleton.1 hp]; exact loop11A_ok el zs i Pl (rpopR ⟨K, Is, N⟩).2.K (rpopR ⟨K, Is, N⟩).2.Is (rpopR ⟨K, Is, N⟩).2.N p2 B), k1, .inl ⟨_, _, _, ⟨i + 1, ⟨none, Pl⟩, (rpopR ⟨K, Is, N⟩).2⟩, k2, k3, ⟨by simp only; omega, by simp only; omega, p2, hc2⟩, by simp only; omega⟩⟩
      · obtain ⟨p1, p2⟩ := hsame.put ((w1 : Nat) : Int) ((w2 : Nat) : Int)
        rw [putS_nil hsame.ok (by omega) (by rw [hlp]; omega)] at p1 p2
        have hre : (rputR ⟨K, Is, N⟩ ((w1 : Nat) : Int) ((w2 : Nat) : Int)) = (true, ⟨(rputR ⟨K, Is, N⟩ ((w1 : Nat) : Int) ((w2 : Nat) : Int)).2.K, (rputR ⟨K, Is, N⟩ ((w1 : Nat) : Int) ((w2 : Nat) : Int)).2.Is, (rputR ⟨K, Is, N⟩ ((w1 : Nat) : Int) ((w2 : Nat) : Int)).2.N⟩) := Prod.ext p1 rfl
        have hc2 := cnt_put hsame hcnt ((w1 : Nat) : Int) ((w2 : Nat) : Int)
        have hcf : ((cnt (rputR ⟨K, Is, N⟩ ((w1 : Nat) : Int) ((w2 : Nat) : Int)).2.Is 13 : Nat) : Int) = 1 := by rw [← hc2]; exact p2.num
        have hpz : Pl[((w1 : Nat) : Int).toNat]? = some 0 := by
          have hg : Pl[((w1 : Nat) : Int).toNat]? = some (Pl.getD ((w1 : Nat) : Int).toNat 0) := getD_some (by omega)
          rcases hsame.ok.wf.no _ _ hg with h2 | ⟨_, _, h2, _⟩
          · rw [hg, h2]
          · simp [QS.es] at h2
        have h := o11N1 zs.length el (ints zs) i (cnt (rputR ⟨K, Is, N⟩ ((w1 : Nat) : Int) ((w2 : Nat) : Int)).2.Is 13) Pl K Is N z w0 w1 w2 (rputR ⟨K, Is, N⟩ ((w1 : Nat) : Int) ((w2 : Nat) : Int)).2.K (rputR ⟨K, Is, N⟩ ((w1 : Nat) : Int) ((w2 : Nat) : Int)).2.Is (rputR ⟨K, Is, N⟩ ((w1 : Nat) : Int) ((w2 : Nat) : Int)).2.N (loopG (.loop loop11i) D11B (I11B el zs i [(((w1 : Nat) : Int), ((w2 : Nat) : Int))] (Pl.set ((w1 : Nat) : Int).toNat 1) (rputR ⟨K, Is, N⟩ ((w1 : Nat) : Int) ((w2 : Nat) : Int)).2.K (rputR ⟨K, Is, N⟩ ((w1 : Nat) : Int) ((w2 : Nat) : Int)).2.Is (rputR ⟨K, Is, N⟩ ((w1 : Nat) : Int) ((w2 : Nat) : Int)).2.N (-1)) (.normal, F11 zs.length el (ints zs) (i : Int) ((cnt (rputR ⟨K, Is, N⟩ ((w1 : Nat) : Int) ((w2 : Nat) : Int)).2.Is 13 : Nat) : Int) (Pl.set ((w1 : Nat) : Int).toNat 1) (rputR ⟨K, Is, N⟩ ((w1 : Nat) : Int) ((w2 : Nat) : Int)).2.K (rputR ⟨K, Is, N⟩ ((w1 : Nat) : Int) ((w2 : Nat) : Int)).2.Is (rputR ⟨K, Is, N⟩ ((w1 : Nat) : Int) ((w2 : Nat) : Int)).2.N (lineB 1 9 2 1 12) [(9, own (ents [(((w1 : Nat) : Int), ((w2 : Nat) : Int))]) 43 2)] 10 ([2, 3, 4, 5, 6, 7, 8] ++ [6, 4, 5, 2, 3, 2, 3, 4, 5, 6])))
        unfold o11N1r at h
        rw [hiv] at h
        obtain ⟨s1, k1, k2, k3⟩ := xround_of h (hold_cons (qd (by omega)) (hold_cons (qd (by omega)) (hold_cons (qd (by omega)) (hold_cons (qd (by omega)) (hold_cons (qib (by omega)) (hold_cons (ldR hz) (hold_cons (fun M _ => call_mod rfl (by decide) (by decide) hw0 M) (hold_cons (qb (by simp <;> omega)) (hold_cons (qib (by omega)) (hold_cons (ldR hz) (hold_cons (fun M _ => call_mod rfl (by decide) (by decide) hw1 M) (hold_cons (qib (by omega)) (hold_cons (ldR hz) (hold_cons (fun M _ => call_mod rfl (by decide) (by decide) hw2 M) (hold_cons (qd (by omega)) (hold_cons (qd (by omega)) (hold_cons (qd (by omega)) (hold_cons (qd (by omega)) (hold_cons (qd (by omega)) (hold_cons (qd (by omega)) (hold_cons (qd (by omega)) (hold_cons (qd (by omega)) (hold_cons (qb (by simp <;> omega)) (hold_cons (qd (by omega)) (hold_cons (qd (by omega)) (hold_cons (qd (by omega)) (hold_cons (qd (by omega)) (hold_cons (qd (by omega)) (hold_cons (qd (by omega)) (hold_cons (qd (by omega)) (hold_cons (qd (by omega)) (hold_cons (qb (by simp <;> omega)) (hold_cons (qb (by simp <;> omega)) (hold_cons (qb (by simp <;> omega)) (hold_cons (qb (by simp <;> omega)) (hold_cons (qb (by simp <;> omega)) (hold_cons (qb (by simp <;> omega)) (hold_cons (qib (by omega)) (hold_cons (qb (by simp <;> omega)) (hold_cons (ldI hpz) (hold_cons (qb (by simp <;> omega)) (hold_cons (qb (by simp <;> omega)) (hold_cons (qib (by omega)) (hold_cons (stI (by omega)) (hold_cons (qib (by omega)) (hold_cons (ldR hz) (hold_cons (fun M _ => call_mod rfl (by decide) (by decide) hw1 M) (hold_cons (qib (by omega)) (hold_cons (ldR hz) (hold_cons (fun M _ => call_mod rfl (by decide) (by decide) hw2 M) (hold_cons (rputQ rfl (fun M h => rm7 hlk hli rfl h) hre p2.lk (by decide) (by decide) (by decide)) (hold_cons (qbk rfl rfl rfl (still_cons (renL_flat _ _ (ints_flat zs)) (still_cons rfl (still_cons (renL_flat _ _ (ints_flat _)) (still_cons rfl (still_cons (renL_flat _ _ (ints_flat _)) (still_cons (renL_flat _ _ (bools_flat _)) (still_cons rfl (still_cons rfl still_nil))))))))) (hold_cons (qb (by rw [hcf]; simp)) hold_nil))))))))))))))))))))))))))))))))))))))))))))))))))))) (still_cons (renL_flat _ _ (ints_flat zs)) (still_cons rfl (still_cons (renL_flat _ _ (ints_flat _)) (still_cons (renL_flat _ _ (ints_flat _)) (still_cons (renL_flat _ _ (bools_flat _)) (still_cons rfl (still_cons rfl still_nil)))))))
        exact ⟨_, 400, s1, specs11N _ B (fun p hp => by rw [List.mem_singleton.1 hp]; exact loop11B_ok el zs i [(((w1 : Nat) : Int), ((w2 : Nat) : Int))] (Pl.set ((w1 : Nat) : Int).toNat 1) (rputR ⟨K, Is, N⟩ ((w1 : Nat) : Int) ((w2 : Nat) : Int)).2.K (rputR ⟨K, Is, N⟩ ((w1 : Nat) : Int) ((w2 : Nat) : Int)).2.Is (rputR ⟨K, Is, N⟩ ((w1 : Nat) : Int) ((w2 : Nat) : Int)).2.N p2 rfl B), k1, .inl ⟨_, _, _, ⟨i + 1, ⟨some [(((w1 : Nat) : Int), ((w2 : Nat) : Int))], (Pl.set ((w1 : Nat) : Int).toNat 1)⟩, (rputR ⟨K, Is, N⟩ ((w1 : Nat) : Int) ((w2 : Nat) : Int)).2⟩, k2, k3, ⟨by simp only; omega, by simp only; omega, p2, hc2⟩, by simp only; omega⟩⟩
    · have h := o11N2 zs.length el (ints zs) i Pl K Is N
      unfold o11N2r at h
      obtain ⟨s1, k1, k2, k3⟩ := xround_of h (hold_cons (qd (by omega)) (hold_cons (qd (by omega)) (hold_cons (qd (by omega)) (hold_cons (qdn (by omega)) hold_nil)))) (still_cons (renL_flat _ _ (ints_flat zs)) (still_cons rfl still_nil))
      exact ⟨_, 400, s1, specs11N [] B (fun p hp => by cases hp), k1, .inr ⟨_, _, k2, k3⟩⟩
  · have h := o11N3 zs.length el (ints zs) i Pl K Is N
    unfold o11N3r at h
    obtain ⟨s1, k1, k2, k3⟩ := xround_of h (hold_cons (qdn (by omega)) (hold_cons (qdn (by omega)) (hold_cons (qdn (by omega)) hold_nil))) (still_cons (renL_flat _ _ (ints_flat zs)) (still_cons rfl still_nil))
    exact ⟨_, 400, s1, specs11N [] B (fun p hp => by cases hp), k1, .inr ⟨_, _, k2, k3⟩⟩
theorem step11Q (el : Nat) (zs : List Int) (B i : Nat) (E : List En) (Pl K : List Int) (Is : List Bool) (N : Int) (hi2 : i ≤ 60) (hsame : Same 12 ⟨some E, Pl⟩ ⟨K, Is, N⟩) (hcnt : N = (cnt Is 13 : Int)) : Goal11 el zs B ⟨i, ⟨some E, Pl⟩, ⟨K, Is, N⟩⟩ := by
  obtain ⟨n, hn⟩ : ∃ n, E.length = n := ⟨_, rfl⟩
  have hI : I11 el zs ⟨i, ⟨some E, Pl⟩, ⟨K, Is, N⟩⟩ = S11 zs.length el (ints zs) (i : Int) Pl K Is N (lineB 1 7 2 n 12) [(7, own (ents E) 43 2)] 8 := by subst hn; rfl
  unfold Goal11
  rw [hI]
  have hlp : Pl.length = 12 := hsame.lp
  have hlk : K.length = 12 := hsame.lk
  have hli : Is.length = 12 := hsame.li
  have hiv : IntKind.wrap .i64 (((i : Nat) : Int) + (1 : Int)) = ((i + 1 : Nat) : Int) := by rw [IntWalk.i64_in _ (by omega)]; omega
  by_cases c0 : i < zs.length
  · by_cases c1 : i < 60
    · obtain ⟨z, hz⟩ : ∃ z, zs[i]? = some z := ⟨zs[i], List.getElem?_eq_getElem (by omega)⟩
      obtain ⟨w0, hw0⟩ := modN z 4 (by decide)
      obtain ⟨w1, hw1⟩ := modN (IntKind.wrap .i64 (z.tdiv 4)) 12 (by decide)
      obtain ⟨w2, hw2⟩ := modN (IntKind.wrap .i64 (z.tdiv 48)) 50 (by decide)
      have hr1 := modI_range (x := IntKind.wrap .i64 (z.tdiv 4)) (n := 12) (by decide)
      by_cases c2 : w0 = 0
      · obtain ⟨pa, pk, pis, hsh⟩ := popR_shape (E := E) (Pl := Pl)
        obtain ⟨p1, p2⟩ := hsame.pop
        have hpe : (popR E Pl) = (.tuple ⟨[i64 pa, i64 pk, .bool pis]⟩, ((popR E Pl).2.1, (popR E Pl).2.2)) := by rw [← hsh]
        have hre : (rpopR ⟨K, Is, N⟩) = (.tuple ⟨[i64 pa, i64 pk, .bool pis]⟩, ⟨(rpopR ⟨K, Is, N⟩).2.K, (rpopR ⟨K, Is, N⟩).2.Is, (rpopR ⟨K, Is, N⟩).2.N⟩) := by rw [← hsh]; exact Prod.ext p1 rfl
        have hc2 := cnt_pop hsame hcnt
        have hcf : ((cnt (rpopR ⟨K, Is, N⟩).2.Is 13 : Nat) : Int) = ((popR E Pl).2.1.length : Int) := by rw [← hc2]; exact p2.num
        have h := o11Q0 zs.length el (ints zs) i (cnt (rpopR ⟨K, Is, N⟩).2.Is 13) Pl K Is N n E z w0 pa pk pis (popR E Pl).2.1 (popR E Pl).2.2 (popR E Pl).2.1.length (rpopR ⟨K, Is, N⟩).2.K (rpopR ⟨K, Is, N⟩).2.Is (rpopR ⟨K, Is, N⟩).2.N (loopG (.loop loop11i) D11C (I11C el zs i (popR E Pl).2.1.length (popR E Pl).2.1 (popR E Pl).2.2 (rpopR ⟨K, Is, N⟩).2.K (rpopR ⟨K, Is, N⟩).2.Is (rpopR ⟨K, Is, N⟩).2.N (-1)) (.normal, F11 zs.length el (ints zs) (i : Int) ((cnt (rpopR ⟨K, Is, N⟩).2.Is 13 : Nat) : Int) (popR E Pl).2.2 (rpopR ⟨K, Is, N⟩).2.K (rpopR ⟨K, Is, N⟩).2.Is (rpopR ⟨K, Is, N⟩).2.N (lineB 1 8 2 (popR E Pl).2.1.length 12) [(8, own (ents (popR E Pl).2.1) 43 2)] 9 ([2, 3, 4, 5, 6, 7] ++ [6, 4, 5, 3, 7, 2, 2, 3, 4, 5, 6])))
        unfold o11Q0r at h
        rw [hiv] at h
        obtain ⟨s1, k1, k2, k3⟩ := xround_of h (hold_cons (qd (by omega)) (hold_cons (qd (by omega)) (hold_cons (qd (by omega)) (hold_cons (qd (by omega)) (hold_cons (qib (by omega)) (hold_cons (ldR hz) (hold_cons (fun M _ => call_mod rfl (by decide) (by decide) hw0 M) (hold_cons (qb (by simp <;> omega)) (hold_cons (popQ rfl (fun M h => qm7 hn hlp rfl h) hsame.ok.wf hpe rfl p2.lp (by decide) (by decide) (by decide)) (hold_cons (rpopQ rfl (fun M h => rm7 hlk hli rfl h) (by rw [hlk]; omega) hre p2.lk (by decide) (by decide) (by decide)) (hold_cons (qbk rfl rfl rfl (still_cons (renL_flat _ _ (ints_flat zs)) (still_cons rfl (still_cons (renL_flat _ _ (ints_flat _)) (still_cons rfl (still_cons (renL_flat _ _ (ints_flat _)) (still_cons (renL_flat _ _ (bools_flat _)) (still_cons rfl (still_cons (renL_flat _ _ (ents_flat _)) still_nil))))))))) (hold_cons (qb (by rw [hcf]; simp)) hold_nil)))))))))))) (still_cons (renL_flat _ _ (ints_flat zs)) (still_cons rfl (still_cons (renL_flat _ _ (ints_flat _)) (still_cons (renL_flat _ _ (ints_flat _)) (still_cons (renL_flat _ _ (bools_flat _)) (still_cons rfl (still_cons (renL_flat _ _ (ents_flat _)) still_nil)))))))
        exact ⟨_, 400, s1, specs11Q _ B (fun p hp => by rw [List.mem_singleton.1 hp]; exact loop11C_ok el zs i (popR E Pl).2.1.length (popR E Pl).2.1 (popR E Pl).2.2 (rpopR ⟨K, Is, N⟩).2.K (rpopR ⟨K, Is, N⟩).2.Is (rpopR ⟨K, Is, N⟩).2.N p2 rfl B), k1, .inl ⟨_, _, _, ⟨i + 1, (popS ⟨some E, Pl⟩).2, (rpopR ⟨K, Is, N⟩).2⟩, k2, k3, ⟨by simp only; omega, by simp only; omega, p2, hc2⟩, by simp only; omega⟩⟩
      · obtain ⟨p1, p2⟩ := hsame.put ((w1 : Nat) : Int) ((w2 : Nat) : Int)
        have hpe : (putR E Pl ((w1 : Nat) : Int) ((w2 : Nat) : Int)) = ((putR E Pl ((w1 : Nat) : Int) ((w2 : Nat) : Int)).1, ((putR E Pl ((w1 : Nat) : Int) ((w2 : Nat) : Int)).2.1, (putR E Pl ((w1 : Nat) : Int) ((w2 : Nat) : Int)).2.2)) := rfl
        have hre : (rputR ⟨K, Is, N⟩ ((w1 : Nat) : Int) ((w2 : Nat) : Int)) = ((putR E Pl ((w1 : Nat) : Int) ((w2 : Nat) : Int)).1, ⟨(rputR ⟨K, Is, N⟩ ((w1 : Nat) : Int) ((w2 : Nat) : Int)).2.K, (rputR ⟨K, Is, N⟩ ((w1 : Nat) : Int) ((w2 : Nat) : Int)).2.Is, (rputR ⟨K, Is, N⟩ ((w1 : Nat) : Int) ((w2 : Nat) : Int)).2.N⟩) := Prod.ext p1 rfl
        have hc2 := cnt_put hsame hcnt ((w1 : Nat) : Int) ((w2 : Nat) : Int)
        have hcf : ((cnt (rputR ⟨K, Is, N⟩ ((w1 : Nat) : Int) ((w2 : Nat) : Int)).2.Is 13 : Nat) : Int) = ((putR E Pl ((w1 : Nat) : Int) ((w2 : Nat) : Int)).2.1.length : Int) := by rw [← hc2]; exact p2.num
        have h := o11Q1 zs.length el (ints zs) i (cnt (rputR ⟨K, Is, N⟩ ((w1 : Nat) : Int) ((w2 : Nat) : Int)).2.Is 13) Pl K Is N n E z w0 w1 w2 (putR E Pl ((w1 : Nat) : Int) ((w2 : Nat) : Int)).1 (putR E Pl ((w1 : Nat) : Int) ((w2 : Nat) : Int)).2.1 (putR E Pl ((w1 : Nat) : Int) ((w2 : Nat) : Int)).2.2 (putR E Pl ((w1 : Nat) : Int) ((w2 : Nat) : Int)).2.1.length (rputR ⟨K, Is, N⟩ ((w1 : Nat) : Int) ((w2 : Nat) : Int)).2.K (rputR ⟨K, Is, N⟩ ((w1 : Nat) : Int) ((w2 : Nat) : Int)).2.Is (rputR ⟨K, Is, N⟩ ((w1 : Nat) : Int) ((w2 : Nat) : Int)).2.N (loopG (.loop loop11i) D11C (I11C el zs i (putR E Pl ((w1 : Nat) : Int) ((w2 : Nat) : Int)).2.1.length (putR E Pl ((w1 : Nat) : Int) ((w2 : Nat) : Int)).2.1 (putR E Pl ((w1 : Nat) : Int) ((w2 : Nat) : Int)).2.2 (rputR ⟨K, Is, N⟩ ((w1 : Nat) : Int) ((w2 : Nat) : Int)).2.K (rputR ⟨K, Is, N⟩ ((w1 : Nat) : Int) ((w2 : Nat) : Int)).2.Is (rputR ⟨K, Is, N⟩ ((w1 : Nat) : Int) ((w2 : Nat) : Int)).2.N (-1)) (.normal, F11 zs.length el (ints zs) (i : Int) ((cnt (rputR ⟨K, Is, N⟩ ((w1 : Nat) : Int) ((w2 : Nat) : Int)).2.Is 13 : Nat) : Int) (putR E Pl ((w1 : Nat) : Int) ((w2 : Nat) : Int)).2.2 (rputR ⟨K, Is, N⟩ ((w1 : Nat) : Int) ((w2 : Nat) : Int)).2.K (rputR ⟨K, Is, N⟩ ((w1 : Nat) : Int) ((w2 : Nat) : Int)).2.Is (rputR ⟨K, Is, N⟩ ((w1 : Nat) : Int) ((w2 : Nat) : Int)).2.N (lineB 1 8 2 (putR E Pl ((w1 : Nat) : Int) ((w2 : Nat) : Int)).2.1.length 12) [(8, own (ents (putR E Pl ((w1 : Nat) : Int) ((w2 : Nat) : Int)).2.1) 43 2)] 9 ([2, 3, 4, 5, 6, 7] ++ [6, 4, 5, 3, 7, 2, 2, 3, 4, 5, 6])))
        unfold o11Q1r at h
        rw [hiv] at h
        obtain ⟨s1, k1, k2, k3⟩ := xround_of h (hold_cons (qd (by omega)) (hold_cons (qd (by omega)) (hold_cons (qd (by omega)) (hold_cons (qd (by omega)) (hold_cons (qib (by omega)) (hold_cons (ldR hz) (hold_cons (fun M _ => call_mod rfl (by decide) (by decide) hw0 M) (hold_cons (qb (by simp <;> omega)) (hold_cons (qib (by omega)) (hold_cons (ldR hz) (hold_cons (fun M _ => call_mod rfl (by decide) (by decide) hw1 M) (hold_cons (qib (by omega)) (hold_cons (ldR hz) (hold_cons (fun M _ => call_mod rfl (by decide) (by decide) hw2 M) (hold_cons (putQ rfl (fun M h => qm7 hn hlp rfl h) hsame.ok.wf hpe rfl p2.lp (by decide) (by decide) (by decide)) (hold_cons (qib (by omega)) (hold_cons (ldR hz) (hold_cons (fun M _ => call_mod rfl (by decide) (by decide) hw1 M) (hold_cons (qib (by omega)) (hold_cons (ldR hz) (hold_cons (fun M _ => call_mod rfl (by decide) (by decide) hw2 M) (hold_cons (rputQ rfl (fun M h => rm7 hlk hli rfl h) hre p2.lk (by decide) (by decide) (by decide)) (hold_cons (qbk rfl rfl rfl (still_cons (renL_flat _ _ (ints_flat zs)) (still_cons rfl (still_cons (renL_flat _ _ (ints_flat _)) (still_cons rfl (still_cons (renL_flat _ _ (ints_flat _)) (still_cons (renL_flat _ _ (bools_flat _)) (still_cons rfl (still_cons (renL_flat _ _ (ents_flat _)) still_nil))))))))) (hold_cons (qb (by rw [hcf]; simp)) hold_nil)))))))))))))))))))))))) (still_cons (renL_flat _ _ (ints_flat zs)) (still_cons rfl (still_cons (renL_flat _ _ (ints_flat _)) (still_cons (renL_flat _ _ (ints_flat _)) (still_cons (renL_flat _ _ (bools_flat _)) (still_cons rfl (still_cons (renL_flat _ _ (ents_flat _)) still_nil)))))))
        exact ⟨_, 400, s1, specs11Q _ B (fun p hp => by rw [List.mem_singleton.1 hp]; exact loop11C_ok el zs i (putR E Pl ((w1 : Nat) : Int) ((w2 : Nat) : Int)).2.1.length (putR E Pl ((w1 : Nat) : Int) ((w2 : Nat) : Int)).2.1 (putR E Pl ((w1 : Nat) : Int) ((w2 : Nat) : Int)).2.2 (rputR ⟨K, Is, N⟩ ((w1 : Nat) : Int) ((w2 : Nat) : Int)).2.K (rputR ⟨K, Is, N⟩ ((w1 : Nat) : Int) ((w2 : Nat) : Int)).2.Is (rputR ⟨K, Is, N⟩ ((w1 : Nat) : Int) ((w2 : Nat) : Int)).2.N p2 rfl B), k1, .inl ⟨_, _, _, ⟨i + 1, (putS ⟨some E, Pl⟩ ((w1 : Nat) : Int) ((w2 : Nat) : Int)).2, (rputR ⟨K, Is, N⟩ ((w1 : Nat) : Int) ((w2 : Nat) : Int)).2⟩, k2, k3, ⟨by simp only; omega, by simp only; omega, p2, hc2⟩, by simp only; omega⟩⟩
    · have h := o11Q2 zs.length el (ints zs) i Pl K Is N n E
      unfold o11Q2r at h
      obtain ⟨s1, k1, k2, k3⟩ := xround_of h (hold_cons (qd (by omega)) (hold_cons (qd (by omega)) (hold_cons (qd (by omega)) (hold_cons (qdn (by omega)) hold_nil)))) (still_cons (renL_flat _ _ (ints_flat zs)) (still_cons rfl still_nil))
      exact ⟨_, 400, s1, specs11Q [] B (fun p hp => by cases hp), k1, .inr ⟨_, _, k2, k3⟩⟩
  · have h := o11Q3 zs.length el (ints zs) i Pl K Is N n E
    unfold o11Q3r at h
    obtain ⟨s1, k1, k2, k3⟩ := xround_of h (hold_cons (qdn (by omega)) (hold_cons (qdn (by omega)) (hold_cons (qdn (by omega)) hold_nil))) (still_cons (renL_flat _ _ (ints_flat zs)) (still_cons rfl still_nil))
    exact ⟨_, 400, s1, specs11Q [] B (fun p hp => by cases hp), k1, .inr ⟨_, _, k2, k3⟩⟩
def D11 : Door := ⟨7, 7, [(0, 0, true), (1, 1, true), (2, 2, true), (3, 3, true), (4, 4, true), (5, 5, true), (6, 6, true)], [0, 3, 4, 5], [2, 3, 4, 5, 6], []⟩
noncomputable def run11 (SP : Specs) (n0 el : Nat) (kc : List Value) (F : List Fact) :=
  (xexec Try.prog [] (SP) 400 B11 ⟨initT [sl 0 n0] 0 .nil, Try.f11.ntmps, startMem [(0, ro kc el 1)] 1⟩ F 0).map (fun r => (r.1.1, (), aresults Try.prog Try.f11 r.1.2, r.2.2.2.map (view (fun _ => D11) [])))
noncomputable def run11n  (F : List Fact) :=
  (xexec Try.prog [] (SP11N []) 400 B11 ⟨initT [.slice none 0 0] 0 .nil, Try.f11.ntmps, startMem [] 1⟩ F 0).map (fun r => (r.1.1, (), aresults Try.prog Try.f11 r.1.2, r.2.2.2.map (view (noDoors) [])))
theorem m11 (n0 el : Nat) (kc : List Value) (g : Code → St → Option (AExit × St)) : run11 (SP11N [(0, g)]) n0 el kc [past 69 .normal (E11 el kc 24)] = some (.ret, (), some (.bool true), [.bk 0 (.loop loop11) 7 [] (some (S11 n0 el kc 0 (List.replicate 12 0) (List.replicate 12 0) (List.replicate 12 false) 0 (lineN 1 2 12) [] 7)) [kc, fns, ints (List.replicate 12 0), (lineN 1 2 12).cs, ints (List.replicate 12 0), bools (List.replicate 12 false), (robj 4 5 12 0).cs] true .normal (E11 el kc 24)]) := by kernel_rfl
theorem m11n : run11n [] = some (.ret, (), some (.bool true), []) := by kernel_rfl
theorem loop11_ok (el : Nat) (zs : List Int) (B : Nat) : BlkOk Try.prog [] B 0 (loopG (.loop loop11) D11 (I11 el zs ⟨0, ⟨none, List.replicate 12 0⟩, ⟨List.replicate 12 0, List.replicate 12 false, 0⟩⟩) (.normal, E11 el (ints zs) 24)) := by
  refine loopG_ok noNumP mixedP (I11 el zs) (fun d => d.i ≤ zs.length ∧ d.i ≤ 60 ∧ Same 12 d.s d.t ∧ d.t.N = (cnt d.t.Is 13 : Int)) (fun d => zs.length - d.i) (e := .exit 0) (K := 24) (by intro h; cases h) ⟨Nat.zero_le _, Nat.zero_le _, Same.new (by decide), rfl⟩ (by decide) rfl rfl rfl (fun id h1 h2 => ?_) (fun d hd => ?_)
  · match id, h1 with
    | 0, _ => rfl
    | 1, _ => rfl
    | 2, _ => exact absurd (by decide) h2
    | 3, _ => exact absurd (by decide) h2
    | 4, _ => exact absurd (by decide) h2
    | 5, _ => exact absurd (by decide) h2
    | 6, _ => exact absurd (by decide) h2
    | n + 7, h => exact absurd (show n + 7 < 7 from h) (by omega)
  · obtain ⟨i, ⟨E, Pl⟩, ⟨K, Is, N⟩⟩ := d
    obtain ⟨_, h2, h3, h4⟩ := hd
    cases E with
    | none => exact step11N el zs B i Pl K Is N h2 h3 h4
    | some E => exact step11Q el zs B i E Pl K Is N h2 h3 h4
theorem queueKeys_main : ∀ xs, KS.fitsAll [22] xs → ∃ SP n M', (∀ B, SpecsOk Try.prog [] B SP) ∧ Go.Am.arun Try.prog [] SP n 11 (argVs 0 xs) (startMem (argBs 0 xs) xs.length) = some (.bool true, M') := fun xs h => by
  have hn : Nat.ble 1 Try.f11.ntmps = true := by kernel_rfl
  obtain ⟨b, l, rfl, h2, h⟩ := KS.fits_cons h
  obtain rfl := KS.fits_nil h
  rcases KS.fit_row (by decide) (by decide) h2 with rfl | ⟨zs, el, rfl, _⟩
  · have h := m11n
    unfold run11n at h
    obtain ⟨M', k1, _⟩ := xrun_of (look := fun _ => ()) Try.func11 body11 (by exact hn) h (.inr rfl) hold_nil
    exact ⟨_, 400, M', fun B => specs11N [] B (fun p hp => by cases hp), k1⟩
  · have h := m11 zs.length el (ints zs) (loopG (.loop loop11) D11 (I11 el zs ⟨0, ⟨none, List.replicate 12 0⟩, ⟨List.replicate 12 0, List.replicate 12 false, 0⟩⟩) (.normal, E11 el (ints zs) 24))
    unfold run11 at h
    obtain ⟨M', k1, _⟩ := xrun_of (look := fun _ => ()) Try.func11 body11 (by exact hn) h (.inr rfl) (hold_cons (qbk rfl rfl rfl (still_cons (renL_flat _ _ (ints_flat zs)) (still_cons rfl (still_cons rfl (still_cons rfl (still_cons rfl (still_cons rfl (still_cons rfl still_nil)))))))) hold_nil)
    exact ⟨_, 400, M', fun B => specs11N _ B (fun p hp => by rw [List.mem_singleton.1 hp]; exact loop11_ok el zs B), k1⟩
end Go.Proofs.Ythocfeccinpbmaa
