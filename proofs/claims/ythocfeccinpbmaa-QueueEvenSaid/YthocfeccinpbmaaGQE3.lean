/-
  QueueEven: whatever the order and the key, the call returns true, and its argument reads as it did.
-/
import Derived.Test.YthocfeccinpbmaaGQE2
open Go Go.Am Go.Proofs
namespace Go.Proofs.Ythocfeccinpbmaa
set_option maxRecDepth 100000

structure ED where
  j : Nat
  a : Bool
  E : List En
  Pl : List Int
  t : RS
def IG (el : Nat) (zs : List Int) (key : Int) (Th : List Bool) (d : ED) : St :=
  match d.a with
  | true => G9 el (ints zs) key (d.j : Int) d.Pl Th (lineB 2 6 3 d.E.length 30) [(6, own (ents d.E) 43 2)] 24
  | false => G9 el (ints zs) key (d.j : Int) d.Pl Th (lineB 2 24 3 d.E.length 30) [(24, own (ents d.E) 43 2)] 25
structure EV (key : Int) (Th : List Bool) (d : ED) : Prop where
  le : d.j ≤ 30
  ei : EI key ⟨some d.E, d.Pl⟩ d.t
  is : ∀ x, x < 30 → d.t.Is.getD x false = (Th.getD x false && decide (d.j ≤ x))
  fst : d.a = true → d.E ≠ []
theorem EV.skip {key : Int} {Th : List Bool} {j : Nat} {a : Bool} {E : List En} {Pl : List Int} {t : RS} (h : EV key Th ⟨j, a, E, Pl, t⟩) (hj : j < 30) (hf : Th.getD j false = false) : EV key Th ⟨j + 1, a, E, Pl, t⟩ :=
  ⟨hj, h.ei, fun x hx => by
    rw [h.is x hx]
    simp only
    by_cases he : x = j
    · subst he; rw [hf]; rfl
    · congr 1
      exact decide_eq_decide.2 (by omega), h.fst⟩
theorem EV.pop {key : Int} {Th : List Bool} {j : Nat} {a : Bool} {E : List En} {Pl : List Int} {t : RS} (h : EV key Th ⟨j, a, E, Pl, t⟩) (hj : j < 30) (hf : Th.getD j false = true) :
    (popR E Pl).1 = .tuple ⟨[i64 (j : Int), i64 key, .bool true]⟩ ∧ EV key Th ⟨j + 1, false, (popR E Pl).2.1, (popR E Pl).2.2, (rpopR t).2⟩ := by
  obtain ⟨p1, p2⟩ := h.ei.same.pop
  have hlk : t.K.length = 30 := h.ei.same.lk
  have hli : t.Is.length = 30 := h.ei.same.li
  obtain ⟨b1, b2⟩ := best_spec (K := t.K) (Is := t.Is) t.K.length
  have hjs : t.Is.getD j false = true := by rw [h.is j hj, hf]; simp
  have hpos : 0 ≤ bestR t.K t.Is t.K.length := by
    rcases Int.lt_or_le (bestR t.K t.Is t.K.length) 0 with hneg | hp
    · rw [b1 hneg j (by omega)] at hjs; cases hjs
    · exact hp
  obtain ⟨c1, c2, c3⟩ := b2 hpos
  have hb : (bestR t.K t.Is t.K.length).toNat = j := by
    have d1 := h.is _ (show (bestR t.K t.Is t.K.length).toNat < 30 by omega)
    rw [c2] at d1
    have d2 : j ≤ (bestR t.K t.Is t.K.length).toNat := by
      have := d1.symm
      simp only [Bool.and_eq_true, decide_eq_true_eq] at this
      exact this.2
    have e1 := h.ei.eq _ (show (bestR t.K t.Is t.K.length).toNat < 30 by omega) c2
    have e2 := h.ei.eq j hj hjs
    rcases c3 j (by omega) hjs with q | q
    · rw [e1, e2] at q; omega
    · omega
  have hbi : bestR t.K t.Is t.K.length = (j : Int) := by omega
  have hkj := h.ei.eq j hj hjs
  have hr : rpopR t = (.tuple ⟨[i64 (j : Int), i64 key, .bool true]⟩, ⟨t.K, t.Is.set j false, IntKind.wrap .i64 (t.N - 1)⟩) := by
    unfold rpopR
    rw [if_neg (by omega), hb, hbi, hkj]
  refine ⟨?_, hj, ⟨p2, fun x h1 h2 => ?_⟩, fun x hx => ?_, fun h0 => by cases h0⟩
  · have : (popS ⟨some E, Pl⟩).1 = (popR E Pl).1 := rfl
    rw [← this, ← p1, hr]
  · rw [hr] at h2 ⊢
    simp only at h2 ⊢
    rw [getD_set (by omega)] at h2
    by_cases he : x = j
    · rw [if_pos he] at h2; cases h2
    · rw [if_neg he] at h2
      exact h.ei.eq x h1 h2
  · rw [hr]
    simp only
    rw [getD_set (by omega)]
    by_cases he : x = j
    · subst he
      rw [if_pos rfl]
      have : decide (x + 1 ≤ x) = false := decide_eq_false (by omega)
      rw [this, Bool.and_false]
    · rw [if_neg he, h.is x hx]
      simp only
      congr 1
      exact decide_eq_decide.2 (by omega)
theorem EV.done {key : Int} {Th : List Bool} {a : Bool} {E : List En} {Pl : List Int} {t : RS} (h : EV key Th ⟨30, a, E, Pl, t⟩) : a = false ∧ E = [] ∧ Pl = List.replicate 30 0 := by
  have hlp : Pl.length = 30 := h.ei.same.lp
  have hE : E = [] := by
    cases E with
    | nil => rfl
    | cons e E =>
      exfalso
      have hm : e ∈ QS.es ⟨some (e :: E), Pl⟩ := List.mem_cons_self ..
      have hr := QS.range h.ei.same.ok hm
      rw [hlp] at hr
      have he : e = (((e.1.toNat : Nat) : Int), e.2) := by
        obtain ⟨x, y⟩ := e
        simp only at hr ⊢
        rw [Int.toNat_of_nonneg hr.1]
      have hm2 : (((e.1.toNat : Nat) : Int), e.2) ∈ QS.es ⟨some (e :: E), Pl⟩ := by rw [← he]; exact hm
      have h1 := ((h.ei.same.mem e.1.toNat e.2 (by omega)).1 hm2).1
      rw [h.is _ (by omega)] at h1
      simp only [Bool.and_eq_true, decide_eq_true_eq] at h1
      omega
  subst hE
  refine ⟨?_, rfl, List.eq_replicate_iff.2 ⟨hlp, fun z hz => ?_⟩⟩
  · cases a
    · rfl
    · exact absurd rfl (h.fst rfl)
  · obtain ⟨i, hi, rfl⟩ := List.getElem_of_mem hz
    rcases h.ei.same.ok.wf.no i _ (List.getElem?_eq_getElem hi) with q | ⟨_, _, q, _⟩
    · exact q
    · simp [QS.es] at q
def D9b : Door := ⟨24, 24, [(0, 0, true), (2, 2, true), (3, 3, true), (4, 4, true), (5, 5, true), (6, 6, true)], [1, 5, 6, 9], [3, 4, 5, 6], [3, 4, 5]⟩
def Ds9 (id : Nat) : Door := match id with | 0 => D9 | _ => D9b
theorem loop9b_ok (el : Nat) (zs : List Int) (key : Int) (Th : List Bool) (hTh : Th.length = 30) (E : List En) (Pl : List Int) (t : RS) (h0 : EV key Th ⟨0, true, E, Pl, t⟩) (B : Nat) :
    BlkOk Try.prog [] B 2 (loopG (.loop loop9b) D9b (IG el zs key Th ⟨0, true, E, Pl, t⟩) (.normal, E9 el (ints zs))) := by
  refine loopG_ok noNumP mixedP (IG el zs key Th) (EV key Th) (fun d => 30 - d.j) (e := .exit 2) (K := 48) (by intro h; cases h) h0 (by decide) rfl rfl rfl (fun id h1 h2 => ?_) (fun d hd => ?_)
  · match id, h1 with
    | 0, _ => rfl
    | 1, _ => rfl
    | 2, _ => rfl
    | 3, _ => exact absurd (by decide) h2
    | 4, _ => exact absurd (by decide) h2
    | 5, _ => exact absurd (by decide) h2
    | 6, _ => exact absurd (by decide) h2
    | 7, _ => rfl
    | 8, _ => rfl
    | 9, _ => rfl
    | 10, _ => rfl
    | 11, _ => rfl
    | 12, _ => rfl
    | 13, _ => rfl
    | 14, _ => rfl
    | 15, _ => rfl
    | 16, _ => rfl
    | 17, _ => rfl
    | 18, _ => rfl
    | 19, _ => rfl
    | 20, _ => rfl
    | 21, _ => rfl
    | 22, _ => rfl
    | 23, _ => rfl
    | n + 24, h => exact absurd (show n + 24 < 24 from h) (by omega)
  · obtain ⟨j, a, E, Pl, t⟩ := d
    have hlp : Pl.length = 30 := hd.ei.same.lp
    have hwf : WF E Pl := hd.ei.same.ok.wf
    have hle : j ≤ 30 := hd.le
    by_cases c0 : j < 30
    · have hiv : IntKind.wrap .i64 (((j : Nat) : Int) + (1 : Int)) = ((j + 1 : Nat) : Int) := by rw [IntWalk.i64_in _ (by omega)]; omega
      have hib0 : Th[((j : Nat) : Int).toNat]? = some (Th.getD j false) := by rw [Int.toNat_natCast]; exact getD_some (by omega)
      obtain ⟨n, hn⟩ : ∃ n, E.length = n := ⟨_, rfl⟩
      cases hth : Th.getD j false with
      | false =>
        have hib : Th[((j : Nat) : Int).toNat]? = some false := by rw [hib0, hth]
        have hnew := hd.skip c0 hth
        cases a with
        | true =>
          have hI : IG el zs key Th ⟨j, true, E, Pl, t⟩ = G9 el (ints zs) key (j : Int) Pl Th (lineB 2 6 3 n 30) [(6, own (ents E) 43 2)] 24 := by subst hn; rfl
          rw [hI]
          have h1 := p9A1 el (ints zs) key j Pl Th n E false
          unfold rnd9A at h1
          rw [hiv] at h1
          obtain ⟨s1, k1, k2, k3⟩ := xround_of h1 (hold_cons (qd (by omega)) (hold_cons (qib (by omega)) (hold_cons (ldB hib) (hold_cons (qb rfl) hold_nil)))) (still_cons (renL_flat _ _ (ints_flat _)) (still_cons rfl (still_cons (renL_flat _ _ (ints_flat _)) (still_cons rfl (still_cons (renL_flat _ _ (bools_flat _)) (still_cons (renL_flat _ _ (ents_flat _)) still_nil))))))
          have hI2 : IG el zs key Th ⟨j + 1, true, E, Pl, t⟩ = G9 el (ints zs) key ((j + 1 : Nat) : Int) Pl Th (lineB 2 6 3 n 30) [(6, own (ents E) 43 2)] 24 := by subst hn; rfl
          rw [← hI2] at k3
          exact ⟨_, 400, s1, specs9Q [] B (fun p hp => by cases hp), k1, .inl ⟨_, _, _, ⟨j + 1, true, E, Pl, t⟩, k2, k3, hnew, by simp only; omega⟩⟩
        | false =>
          have hI : IG el zs key Th ⟨j, false, E, Pl, t⟩ = G9 el (ints zs) key (j : Int) Pl Th (lineB 2 24 3 n 30) [(24, own (ents E) 43 2)] 25 := by subst hn; rfl
          rw [hI]
          have h1 := p9C1 el (ints zs) key j Pl Th n E false
          unfold rnd9C at h1
          rw [hiv] at h1
          obtain ⟨s1, k1, k2, k3⟩ := xround_of h1 (hold_cons (qd (by omega)) (hold_cons (qib (by omega)) (hold_cons (ldB hib) (hold_cons (qb rfl) hold_nil)))) (still_cons (renL_flat _ _ (ints_flat _)) (still_cons rfl (still_cons (renL_flat _ _ (ints_flat _)) (still_cons rfl (still_cons (renL_flat _ _ (bools_flat _)) (still_cons (renL_flat _ _ (ents_flat _)) still_nil))))))
          have hI2 : IG el zs key Th ⟨j + 1, false, E, Pl, t⟩ = G9 el (ints zs) key ((j + 1 : Nat) : Int) Pl Th (lineB 2 24 3 n 30) [(24, own (ents E) 43 2)] 25 := by subst hn; rfl
          rw [← hI2] at k3
          exact ⟨_, 400, s1, specs9Q [] B (fun p hp => by cases hp), k1, .inl ⟨_, _, _, ⟨j + 1, false, E, Pl, t⟩, k2, k3, hnew, by simp only; omega⟩⟩
      | true =>
        have hib : Th[((j : Nat) : Int).toNat]? = some true := by rw [hib0, hth]
        obtain ⟨hp, hnew⟩ := hd.pop c0 hth
        have hpe : popR E Pl = (.tuple ⟨[i64 (j : Int), i64 key, .bool true]⟩, ((popR E Pl).2.1, (popR E Pl).2.2)) := by rw [← hp]
        have hlp2 : (popR E Pl).2.2.length = 30 := hnew.ei.same.lp
        cases a with
        | true =>
          have hI : IG el zs key Th ⟨j, true, E, Pl, t⟩ = G9 el (ints zs) key (j : Int) Pl Th (lineB 2 6 3 n 30) [(6, own (ents E) 43 2)] 24 := by subst hn; rfl
          rw [hI]
          have h1 := p9A0 el (ints zs) key j Pl Th n E true (popR E Pl).2.1 (popR E Pl).2.2 (popR E Pl).2.1.length
          unfold rnd9A at h1
          rw [hiv] at h1
          obtain ⟨s1, k1, k2, k3⟩ := xround_of h1 (hold_cons (qd (by omega)) (hold_cons (qib (by omega)) (hold_cons (ldB hib) (hold_cons (qb rfl) (hold_cons (popQ rfl (fun M h => qm4 hn hlp rfl h) hwf hpe rfl hlp2 (by decide) (by decide) (by decide)) (hold_cons (qb (by simp <;> omega)) (hold_cons (qb (by simp <;> omega)) (hold_cons (qb (by simp <;> omega)) (hold_cons (qb (by simp <;> omega)) (hold_cons (qb (by simp <;> omega)) hold_nil)))))))))) (still_cons (renL_flat _ _ (ints_flat _)) (still_cons rfl (still_cons (renL_flat _ _ (ints_flat _)) (still_cons (renL_flat _ _ (bools_flat _)) (still_cons (renL_flat _ _ (ents_flat _)) still_nil)))))
          exact ⟨_, 400, s1, specs9Q [] B (fun p hp => by cases hp), k1, .inl ⟨_, _, _, ⟨j + 1, false, (popR E Pl).2.1, (popR E Pl).2.2, (rpopR t).2⟩, k2, k3, hnew, by simp only; omega⟩⟩
        | false =>
          have hI : IG el zs key Th ⟨j, false, E, Pl, t⟩ = G9 el (ints zs) key (j : Int) Pl Th (lineB 2 24 3 n 30) [(24, own (ents E) 43 2)] 25 := by subst hn; rfl
          rw [hI]
          have h1 := p9C0 el (ints zs) key j Pl Th n E true (popR E Pl).2.1 (popR E Pl).2.2 (popR E Pl).2.1.length
          unfold rnd9C at h1
          rw [hiv] at h1
          obtain ⟨s1, k1, k2, k3⟩ := xround_of h1 (hold_cons (qd (by omega)) (hold_cons (qib (by omega)) (hold_cons (ldB hib) (hold_cons (qb rfl) (hold_cons (popQ rfl (fun M h => qm4 hn hlp rfl h) hwf hpe rfl hlp2 (by decide) (by decide) (by decide)) (hold_cons (qb (by simp <;> omega)) (hold_cons (qb (by simp <;> omega)) (hold_cons (qb (by simp <;> omega)) (hold_cons (qb (by simp <;> omega)) (hold_cons (qb (by simp <;> omega)) hold_nil)))))))))) (still_cons (renL_flat _ _ (ints_flat _)) (still_cons rfl (still_cons (renL_flat _ _ (ints_flat _)) (still_cons (renL_flat _ _ (bools_flat _)) (still_cons (renL_flat _ _ (ents_flat _)) still_nil)))))
          exact ⟨_, 400, s1, specs9Q [] B (fun p hp => by cases hp), k1, .inl ⟨_, _, _, ⟨j + 1, false, (popR E Pl).2.1, (popR E Pl).2.2, (rpopR t).2⟩, k2, k3, hnew, by simp only; omega⟩⟩
    · obtain rfl : j = 30 := by omega
      obtain ⟨rfl, rfl, rfl⟩ := hd.done
      have hI : IG el zs key Th ⟨30, false, [], List.replicate 30 0, t⟩ = G9 el (ints zs) key ((30 : Nat) : Int) (List.replicate 30 0) Th (lineB 2 24 3 0 30) [(24, own [] 43 2)] 25 := rfl
      rw [hI]
      have h1 := p9C2 el (ints zs) key 30 Th
      unfold end9b at h1
      obtain ⟨s1, k1, k2, k3⟩ := xround_of h1 (hold_cons (qdn (by omega)) hold_nil) (still_cons (renL_flat _ _ (ints_flat _)) (still_cons rfl (still_cons (renL_flat _ _ (ints_flat _)) (still_cons rfl (still_cons rfl still_nil)))))
      exact ⟨_, 400, s1, specs9Q [] B (fun p hp => by cases hp), k1, .inr ⟨_, _, k2, k3⟩⟩
noncomputable def run9 (SP : Specs) (n0 el : Nat) (kc : List Value) (key : Int) (F : List Fact) :=
  (xexec Try.prog [] (SP) 400 B9 ⟨initT [sl 0 n0, i64 key] 0 .nil, Try.f9.ntmps, startMem [(0, ro kc el 1)] 2⟩ F 0).map (fun r => (r.1.1, (), aresults Try.prog Try.f9 r.1.2, r.2.2.2.map (view (Ds9) [])))
noncomputable def run9e (el : Nat) (key : Int) (F : List Fact) :=
  (xexec Try.prog [] (SP9N []) 1000 B9 ⟨initT [sl 0 0, i64 key] 0 .nil, Try.f9.ntmps, startMem [(0, ro [] el 1)] 2⟩ F 0).map (fun r => (r.1.1, (), aresults Try.prog Try.f9 r.1.2, r.2.2.2.map (view (noDoors) [])))
noncomputable def run9n (key : Int) (F : List Fact) :=
  (xexec Try.prog [] (SP9N []) 1000 B9 ⟨initT [.slice none 0 0, i64 key] 0 .nil, Try.f9.ntmps, startMem [] 2⟩ F 0).map (fun r => (r.1.1, (), aresults Try.prog Try.f9 r.1.2, r.2.2.2.map (view (noDoors) [])))
theorem m9 (n0 el n : Nat) (kc : List Value) (key : Int) (Pl : List Int) (Th : List Bool) (E : List En) (g g2 : Code → St → Option (AExit × St)) : run9 (SP9N [(0, g), (2, g2)]) n0 el kc key [past 53 .normal (F9 el kc key (Pl) (Th) (lineB 2 6 3 n 30) [(6, own (ents (E)) 43 2)]), past 56 .normal (E9 el kc)] = some (.ret, (), some (.bool true), [.bk 0 (.loop loop9) 6 [] (some (S9 n0 el kc key 0 (List.replicate 30 0) (List.replicate 30 false) (lineN 2 3 30) [] 6)) [kc, fns, ints (List.replicate 30 0), (lineN 2 3 30).cs, bools (List.replicate 30 false)] true .normal (F9 el kc key (Pl) (Th) (lineB 2 6 3 n 30) [(6, own (ents (E)) 43 2)]), .bk 2 (.loop loop9b) 24 [3, 4, 5] (some (G9 el kc key 0 (Pl) (Th) (lineB 2 6 3 n 30) [(6, own (ents (E)) 43 2)] 24)) [kc, fns, ints (Pl), (lineB 2 6 3 n 30).cs, bools (Th), ents (E)] true .normal (E9 el kc)]) := by kernel_rfl
theorem m9e (el : Nat) (key : Int) : run9e el key [] = some (.ret, (), some (.bool true), []) := by kernel_rfl
theorem m9n (key : Int) : run9n key [] = some (.ret, (), some (.bool true), []) := by kernel_rfl
theorem queueEven_main : ∀ xs, KS.fitsAll [22, 3] xs → ∃ SP n M', (∀ B, SpecsOk Try.prog [] B SP) ∧ Go.Am.arun Try.prog [] SP n 9 (argVs 0 xs) (startMem (argBs 0 xs) xs.length) = some (.bool true, M') := fun xs h => by
  have hn : Nat.ble 2 Try.f9.ntmps = true := by kernel_rfl
  obtain ⟨a, l, rfl, h1, h⟩ := KS.fits_cons h
  obtain ⟨b, l, rfl, h2, h⟩ := KS.fits_cons h
  obtain rfl := KS.fits_nil h
  obtain ⟨key, rfl⟩ := KS.fit_int (by decide) (by decide) h2
  rcases KS.fit_row (by decide) (by decide) h1 with rfl | ⟨zs, el, rfl, _⟩
  · have h := m9n key
    unfold run9n at h
    obtain ⟨M', k1, _⟩ := xrun_of (look := fun _ => ()) Try.func9 body9 (by exact hn) h (.inr rfl) hold_nil
    exact ⟨_, 1000, M', fun B => specs9N [] B (fun p hp => by cases hp), k1⟩
  · by_cases hz : zs = []
    · subst hz
      have h := m9e el key
      unfold run9e at h
      obtain ⟨M', k1, _⟩ := xrun_of (look := fun _ => ()) Try.func9 body9 (by exact hn) h (.inr rfl) hold_nil
      exact ⟨_, 1000, M', fun B => specs9N [] B (fun p hp => by cases hp), k1⟩
    · have hpos : 0 < zs.length := List.length_pos_iff.2 hz
      obtain ⟨E, hE, hne⟩ := itE_some zs key (min zs.length 60) (by omega)
      have hei := itE_ok zs key (min zs.length 60)
      obtain ⟨⟨s, t⟩, hit⟩ : ∃ x, itE zs key (min zs.length 60) = x := ⟨_, rfl⟩
      rw [hit] at hE hei
      obtain ⟨E0, Pl⟩ := s
      simp only at hE
      subst hE
      have h0 : EV key t.Is ⟨0, true, E, Pl, t⟩ := ⟨Nat.zero_le _, hei, fun x hx => by simp, fun _ => hne⟩
      have h := m9 zs.length el E.length (ints zs) key Pl t.Is E (loopG (.loop loop9) D9 (ST9 el zs key 0 ⟨none, List.replicate 30 0⟩ ⟨List.replicate 30 0, List.replicate 30 false, 0⟩) (.normal, F9 el (ints zs) key Pl t.Is (lineB 2 6 3 E.length 30) [(6, own (ents E) 43 2)])) (loopG (.loop loop9b) D9b (IG el zs key t.Is ⟨0, true, E, Pl, t⟩) (.normal, E9 el (ints zs)))
      unfold run9 at h
      obtain ⟨M', k1, _⟩ := xrun_of (look := fun _ => ()) Try.func9 body9 (by exact hn) h (.inr rfl) (hold_cons (qbk rfl rfl rfl (still_cons (renL_flat _ _ (ints_flat _)) (still_cons rfl (still_cons (renL_flat _ _ (ints_flat _)) (still_cons rfl (still_cons (renL_flat _ _ (bools_flat _)) still_nil)))))) (hold_cons (qbk rfl rfl rfl (still_cons (renL_flat _ _ (ints_flat _)) (still_cons rfl (still_cons (renL_flat _ _ (ints_flat _)) (still_cons rfl (still_cons (renL_flat _ _ (bools_flat _)) (still_cons (renL_flat _ _ (ents_flat _)) still_nil))))))) hold_nil))
      refine ⟨_, 400, M', fun B => specs9N _ B (fun p hp => ?_), k1⟩
      simp only [List.mem_cons, List.not_mem_nil, or_false] at hp
      rcases hp with rfl | rfl
      · exact loop9_ok el zs key hz E Pl t hit B
      · exact loop9b_ok el zs key t.Is hei.same.li E Pl t h0 B
end Go.Proofs.Ythocfeccinpbmaa
