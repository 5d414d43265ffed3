/-
  QueueEven: whatever the order and the key, the call returns true, and its argument reads as it did.
-/
import Derived.Test.YthocfeccinpbmaaGQE1
open Go Go.Am Go.Proofs
namespace Go.Proofs.Ythocfeccinpbmaa
set_option maxRecDepth 100000

structure EI (key : Int) (s : QS) (t : RS) : Prop where
  same : Same 30 s t
  eq : ∀ x, x < 30 → t.Is.getD x false = true → t.K.getD x 0 = key
theorem set_same {l : List Bool} {w : Nat} (h : l.getD w false = true) (hw : w < l.length) : l.set w true = l := by
  apply List.ext_getElem?
  intro i
  rw [List.getElem?_set]
  split
  · rename_i hi
    subst hi
    rw [getD_some (d := false) hw, h]
  · rfl
theorem EI.put {key : Int} {s : QS} {t : RS} (h : EI key s t) {w : Nat} (hw : w < 30) : (putS s (w : Int) key).1 = !(t.Is.getD w false) ∧ EI key (putS s (w : Int) key).2 (rputR t (w : Int) key).2 ∧ (rputR t (w : Int) key).2.Is = t.Is.set w true := by
  obtain ⟨p1, p2⟩ := h.same.put (w : Int) key
  have hlk := h.same.lk
  have hli := h.same.li
  have hr : 0 ≤ (w : Int) ∧ (w : Int) < (t.K.length : Int) := ⟨by omega, by omega⟩
  rw [← p1]
  have hrr : rputR t (w : Int) key = if t.Is.getD w false = true then (if t.K.getD w 0 ≤ key then (false, t) else (true, ⟨t.K.set w key, t.Is.set w true, t.N⟩)) else (true, ⟨t.K.set w key, t.Is.set w true, IntKind.wrap .i64 (t.N + 1)⟩) := by
    unfold rputR
    rw [if_pos hr]
    rfl
  cases hb : t.Is.getD w false with
  | true =>
    have he := h.eq w hw hb
    have hx : rputR t (w : Int) key = (false, t) := by rw [hrr, if_pos hb, if_pos (by omega)]
    rw [hx] at p2 ⊢
    exact ⟨rfl, ⟨p2, h.eq⟩, (set_same hb (by omega)).symm⟩
  | false =>
    have hx : rputR t (w : Int) key = (true, ⟨t.K.set w key, t.Is.set w true, IntKind.wrap .i64 (t.N + 1)⟩) := by rw [hrr, if_neg (by rw [hb]; decide)]
    rw [hx] at p2 ⊢
    refine ⟨rfl, ⟨p2, fun x h1 h2 => ?_⟩, rfl⟩
    simp only at h2 ⊢
    rw [getD_set (by omega)] at h2 ⊢
    split
    · rfl
    · rename_i hne
      rw [if_neg hne] at h2
      exact h.eq x h1 h2
theorem EI.new (key : Int) : EI key ⟨none, List.replicate 30 0⟩ ⟨List.replicate 30 0, List.replicate 30 false, 0⟩ := ⟨Same.new (by decide), fun x hx h => by
  simp only [List.getD_eq_getElem?_getD, List.getElem?_replicate, if_pos hx, Option.getD_some] at h
  cases h⟩
theorem modN (x n : Int) (hn : 0 < n) : ∃ w : Nat, modI x n = (w : Int) := by
  have := modI_range (x := x) (n := n) hn
  exact ⟨(modI x n).toNat, by omega⟩
def itE (zs : List Int) (key : Int) : Nat → QS × RS
  | 0 => (⟨none, List.replicate 30 0⟩, ⟨List.replicate 30 0, List.replicate 30 false, 0⟩)
  | j + 1 => ((putS (itE zs key j).1 (modI (zs.getD j 0) 30) key).2, (rputR (itE zs key j).2 (modI (zs.getD j 0) 30) key).2)
theorem itE_ok (zs : List Int) (key : Int) : ∀ j, EI key (itE zs key j).1 (itE zs key j).2
  | 0 => EI.new key
  | j + 1 => by
    have hr := modI_range (x := zs.getD j 0) (n := 30) (by decide)
    obtain ⟨w, hw⟩ := modN (zs.getD j 0) 30 (by decide)
    have := ((itE_ok zs key j).put (w := w) (by omega)).2.1
    unfold itE
    rw [hw]
    exact this
theorem put_some {key : Int} {s : QS} {t : RS} (h : EI key s t) {w : Nat} (hw : w < 30) : ∃ E, (putS s (w : Int) key).2.E = some E ∧ E ≠ [] := by
  have h1 := (h.put hw).2.1.same
  have h2 := (h.put hw).2.2
  obtain ⟨⟨k, e1⟩, hk⟩ : ∃ x : QS × Unit, x.1 = (putS s (w : Int) key).2 := ⟨(_, ()), rfl⟩
  have hm := (h1.mem w _ hw).2 ⟨by rw [h2, getD_set (by rw [h.same.li]; exact hw), if_pos rfl], rfl⟩
  cases hE : (putS s (w : Int) key).2.E with
  | none => unfold QS.es at hm; rw [hE] at hm; cases hm
  | some E =>
    refine ⟨E, rfl, fun h0 => ?_⟩
    unfold QS.es at hm; rw [hE, h0] at hm; cases hm
theorem itE_some (zs : List Int) (key : Int) : ∀ j, 0 < j → ∃ E, (itE zs key j).1.E = some E ∧ E ≠ []
  | 0, h => absurd h (Nat.lt_irrefl _)
  | j + 1, _ => by
    have hr := modI_range (x := zs.getD j 0) (n := 30) (by decide)
    obtain ⟨w, hw⟩ := modN (zs.getD j 0) 30 (by decide)
    unfold itE
    rw [hw]
    exact put_some (itE_ok zs key j) (by omega)
def ST9 (el : Nat) (zs : List Int) (key : Int) (j : Nat) (s : QS) (t : RS) : St :=
  match s.E with
  | none => S9 zs.length el (ints zs) key (j : Int) s.Pl t.Is (lineN 2 3 30) [] 6
  | some E => S9 zs.length el (ints zs) key (j : Int) s.Pl t.Is (lineB 2 6 3 E.length 30) [(6, own (ents E) 43 2)] 7
theorem specs9N (bs : List (Nat × (Code → St → Option (AExit × St)))) (B : Nat) (hb : ∀ p ∈ bs, BlkOk Try.prog [] B p.1 p.2) : SpecsOk Try.prog [] B (SP9N bs) := specsB_ok (fun p hp => by
  simp only [List.mem_cons, List.not_mem_nil, or_false] at hp
  rcases hp with rfl | rfl
  · exact okKnown B
  · exact okMod B) hb
theorem specs9Q (bs : List (Nat × (Code → St → Option (AExit × St)))) (B : Nat) (hb : ∀ p ∈ bs, BlkOk Try.prog [] B p.1 p.2) : SpecsOk Try.prog [] B (SP9Q bs) := specsB_ok (fun p hp => by
  simp only [List.mem_cons, List.not_mem_nil, or_false] at hp
  rcases hp with rfl | rfl | rfl | rfl
  · exact okKnown B
  · exact okMod B
  · exact ok20 B
  · exact ok16 B) hb
theorem qm4 {p r e pl n m : Nat} {E : List En} {Pl : List Int} (hn : E.length = n) (hm : Pl.length = m) (hd : Go.Am.distinct [p, r, e, pl] = true) {M : Mem}
    (h : [p, r, e, pl].map M.get = [some (lineB r e pl n m), some (own fns 41 1), some (own (ents E) 43 2), some (own (ints Pl) 3 1)]) : QM M p r e pl E Pl := by
  subst hn; subst hm
  simp only [List.map_cons, List.map_nil, List.cons.injEq, and_true] at h
  exact ⟨h.1, h.2.1, h.2.2.1, h.2.2.2, hd⟩
abbrev Goal9 (el : Nat) (zs : List Int) (key : Int) (B j : Nat) (s : QS) (t : RS) : Prop :=
  ∃ SP n s1, SpecsOk Try.prog [] B SP ∧ s1.M.next ≤ 24 ∧ ∃ nx mv keep, aexec Try.prog [] SP n loop9 (ST9 el zs key j s t) = some (.normal, s1) ∧
    View 6 nx mv keep [3, 4, 5] [] s1 (ST9 el zs key (j + 1) (putS s (modI (zs.getD j 0) 30) key).2 (rputR t (modI (zs.getD j 0) 30) key).2)
theorem step9 (el : Nat) (zs : List Int) (key : Int) (B j : Nat) (s : QS) (t : RS) (h : EI key s t) (hj : j < zs.length) (hj2 : j < 60) : Goal9 el zs key B j s t := by
  obtain ⟨E, Pl⟩ := s
  obtain ⟨K, Is, N⟩ := t
  have hlp : Pl.length = 30 := h.same.lp
  have hli : Is.length = 30 := h.same.li
  have hiv : IntKind.wrap .i64 (((j : Nat) : Int) + (1 : Int)) = ((j + 1 : Nat) : Int) := by rw [IntWalk.i64_in _ (by omega)]; omega
  obtain ⟨z, hz0⟩ : ∃ z, zs.getD j 0 = z := ⟨_, rfl⟩
  have hz : zs[j]? = some z := by rw [getD_some (d := 0) hj, hz0]
  have hr := modI_range (x := z) (n := 30) (by decide)
  obtain ⟨w, hw⟩ := modN z 30 (by decide)
  have hw30 : w < 30 := by omega
  obtain ⟨q1, q2, q3⟩ := h.put hw30
  unfold Goal9
  rw [hz0, hw]
  simp only at q1 q3
  have hib0 : Is[w]? = some (Is.getD w false) := getD_some (by omega)
  cases E with
  | none =>
    have hwf := h.same.ok
    have hpn := putS_nil hwf (id := (w : Int)) (key := key) (by omega) (by rw [hlp]; omega)
    have hpz : Pl[((w : Nat) : Int).toNat]? = some 0 := by
      have hg : Pl[((w : Nat) : Int).toNat]? = some (Pl.getD ((w : Nat) : Int).toNat 0) := getD_some (by omega)
      rcases hwf.wf.no _ _ hg with h2 | ⟨_, _, h2, _⟩
      · rw [hg, h2]
      · simp [QS.es] at h2
    rw [hpn] at q1 ⊢
    have hib : Is[((w : Nat) : Int).toNat]? = some false := by
      rw [Int.toNat_natCast, hib0]
      cases hb : Is.getD w false
      · rfl
      · rw [hb] at q1; cases q1
    have h1 := o9N0 zs.length el (ints zs) key j Pl Is z w
    unfold rnd9N at h1
    rw [hiv] at h1
    obtain ⟨s1, k1, k2, k3⟩ := xround_of h1 (hold_cons (qd (by omega)) (hold_cons (qd (by omega)) (hold_cons (qd (by omega)) (hold_cons (qd (by omega)) (hold_cons (qib (by omega)) (hold_cons (ldR hz) (hold_cons (fun M _ => call_mod rfl (by decide) (by decide) hw M) (hold_cons (qd (by omega)) (hold_cons (qd (by omega)) (hold_cons (qd (by omega)) (hold_cons (qd (by omega)) (hold_cons (qd (by omega)) (hold_cons (qd (by omega)) (hold_cons (qd (by omega)) (hold_cons (qd (by omega)) (hold_cons (qb (by simp <;> omega)) (hold_cons (qd (by omega)) (hold_cons (qd (by omega)) (hold_cons (qd (by omega)) (hold_cons (qd (by omega)) (hold_cons (qd (by omega)) (hold_cons (qd (by omega)) (hold_cons (qd (by omega)) (hold_cons (qd (by omega)) (hold_cons (qb (by simp <;> omega)) (hold_cons (qb (by simp <;> omega)) (hold_cons (qb (by simp <;> omega)) (hold_cons (qb (by simp <;> omega)) (hold_cons (qb (by simp <;> omega)) (hold_cons (qb (by simp <;> omega)) (hold_cons (qib (by omega)) (hold_cons (qb (by simp <;> omega)) (hold_cons (ldI hpz) (hold_cons (qb (by simp <;> omega)) (hold_cons (qb (by simp <;> omega)) (hold_cons (qib (by omega)) (hold_cons (stI (by omega)) (hold_cons (qib (by omega)) (hold_cons (ldB hib) (hold_cons (qib (by omega)) (hold_cons (stB (by omega)) hold_nil))))))))))))))))))))))))))))))))))))))))) (still_cons (renL_flat _ _ (ints_flat _)) (still_cons rfl (still_cons (renL_flat _ _ (ints_flat _)) (still_cons (renL_flat _ _ (bools_flat _)) (still_cons rfl still_nil)))))
    have hfin : ST9 el zs key (j + 1) ⟨some [((w : Int), key)], Pl.set ((w : Nat) : Int).toNat 1⟩ (rputR ⟨K, Is, N⟩ (w : Int) key).2 = S9 zs.length el (ints zs) key ((j + 1 : Nat) : Int) (Pl.set ((w : Nat) : Int).toNat 1) (Is.set ((w : Nat) : Int).toNat true) (lineB 2 6 3 1 30) [(6, own [i64 (w : Int), i64 key] 43 2)] 7 := by
      unfold ST9
      simp only [q3, Int.toNat_natCast]
      rfl
    rw [← hfin] at k3
    exact ⟨_, 400, s1, specs9N [] B (fun p hp => by cases hp), k1, _, _, _, k2, k3⟩
  | some E =>
    obtain ⟨n, hn⟩ : ∃ n, E.length = n := ⟨_, rfl⟩
    have hwf : WF E Pl := h.same.ok.wf
    obtain ⟨pb, hpb⟩ : ∃ pb, (putR E Pl (w : Int) key).1 = pb := ⟨_, rfl⟩
    have hpe : putR E Pl (w : Int) key = (pb, ((putR E Pl (w : Int) key).2.1, (putR E Pl (w : Int) key).2.2)) := by rw [← hpb]
    have hps : putS ⟨some E, Pl⟩ (w : Int) key = (pb, ⟨some (putR E Pl (w : Int) key).2.1, (putR E Pl (w : Int) key).2.2⟩) := by
      unfold putS QS.es
      simp [hpb]
    have hlp2 : (putR E Pl (w : Int) key).2.2.length = 30 := by
      have := q2.same.lp
      rw [hps] at this
      exact this
    rw [hps] at q1 ⊢
    have hib : Is[((w : Nat) : Int).toNat]? = some (!pb) := by
      rw [Int.toNat_natCast, hib0]
      simp only at q1
      rw [q1]; simp
    have hI : ST9 el zs key j ⟨some E, Pl⟩ ⟨K, Is, N⟩ = S9 zs.length el (ints zs) key (j : Int) Pl Is (lineB 2 6 3 n 30) [(6, own (ents E) 43 2)] 7 := by subst hn; rfl
    rw [hI]
    have h1 := o9Q0 zs.length el (ints zs) key j Pl Is n E z w pb (putR E Pl (w : Int) key).2.1 (putR E Pl (w : Int) key).2.2 (putR E Pl (w : Int) key).2.1.length
    unfold rnd9Q at h1
    rw [hiv] at h1
    obtain ⟨s1, k1, k2, k3⟩ := xround_of h1 (hold_cons (qd (by omega)) (hold_cons (qd (by omega)) (hold_cons (qd (by omega)) (hold_cons (qd (by omega)) (hold_cons (qib (by omega)) (hold_cons (ldR hz) (hold_cons (fun M _ => call_mod rfl (by decide) (by decide) hw M) (hold_cons (putQ rfl (fun M h => qm4 hn hlp rfl h) hwf hpe rfl hlp2 (by decide) (by decide) (by decide)) (hold_cons (qib (by omega)) (hold_cons (ldB hib) (hold_cons (qb (by cases pb <;> rfl)) (hold_cons (qib (by omega)) (hold_cons (stB (by omega)) hold_nil))))))))))))) (still_cons (renL_flat _ _ (ints_flat _)) (still_cons rfl (still_cons (renL_flat _ _ (ints_flat _)) (still_cons (renL_flat _ _ (bools_flat _)) (still_cons (renL_flat _ _ (ents_flat _)) still_nil)))))
    have hfin : ST9 el zs key (j + 1) ⟨some (putR E Pl (w : Int) key).2.1, (putR E Pl (w : Int) key).2.2⟩ (rputR ⟨K, Is, N⟩ (w : Int) key).2 = S9 zs.length el (ints zs) key ((j + 1 : Nat) : Int) (putR E Pl (w : Int) key).2.2 (Is.set ((w : Nat) : Int).toNat true) (lineB 2 6 3 (putR E Pl (w : Int) key).2.1.length 30) [(6, own (ents (putR E Pl (w : Int) key).2.1) 43 2)] 7 := by
      unfold ST9
      simp only [q3, Int.toNat_natCast]
    rw [← hfin] at k3
    exact ⟨_, 400, s1, specs9Q [] B (fun p hp => by cases hp), k1, _, _, _, k2, k3⟩
def D9 : Door := ⟨6, 6, [(0, 0, true), (2, 2, true), (3, 3, true), (4, 4, true), (5, 5, true)], [0, 1, 5, 6, 7], [3, 4, 5], []⟩
theorem loop9_ok (el : Nat) (zs : List Int) (key : Int) (hz : zs ≠ []) (E : List En) (Pl : List Int) (t : RS) (hE : itE zs key (min zs.length 60) = (⟨some E, Pl⟩, t)) (B : Nat) :
    BlkOk Try.prog [] B 0 (loopG (.loop loop9) D9 (ST9 el zs key 0 ⟨none, List.replicate 30 0⟩ ⟨List.replicate 30 0, List.replicate 30 false, 0⟩) (.normal, F9 el (ints zs) key Pl t.Is (lineB 2 6 3 E.length 30) [(6, own (ents E) 43 2)])) := by
  have hpos : 0 < zs.length := List.length_pos_iff.2 hz
  refine loopG_ok noNumP mixedP (fun j => ST9 el zs key j (itE zs key j).1 (itE zs key j).2) (fun j => j ≤ min zs.length 60) (fun j => 60 - j) (d0 := 0) (e := .exit 0) (K := 24) (by intro h; cases h) (Nat.zero_le _) (by decide) rfl rfl rfl (fun id h1 h2 => ?_) (fun j hj => ?_)
  · match id, h1 with
    | 0, _ => rfl
    | 1, _ => rfl
    | 2, _ => rfl
    | 3, _ => exact absurd (by decide) h2
    | 4, _ => exact absurd (by decide) h2
    | 5, _ => exact absurd (by decide) h2
    | n + 6, h => exact absurd (show n + 6 < 6 from h) (by omega)
  · by_cases hlt : j < min zs.length 60
    · obtain ⟨SP, n, s1, g1, g2, nx, mv, keep, g3, g4⟩ := step9 el zs key B j _ _ (itE_ok zs key j) (by omega) (by omega)
      exact ⟨SP, n, s1, g1, g2, .inl ⟨nx, mv, keep, j + 1, g3, g4, by omega, by omega⟩⟩
    · have hje : j = min zs.length 60 := by omega
      rw [hje, hE]
      have hI : ST9 el zs key (min zs.length 60) ⟨some E, Pl⟩ t = S9 zs.length el (ints zs) key ((min zs.length 60 : Nat) : Int) Pl t.Is (lineB 2 6 3 E.length 30) [(6, own (ents E) 43 2)] 7 := rfl
      rw [hI]
      have hjm : ∃ j, min zs.length 60 = j := ⟨_, rfl⟩
      obtain ⟨j, hjm⟩ := hjm
      rw [hjm]
      obtain ⟨n, hn⟩ : ∃ n, E.length = n := ⟨_, rfl⟩
      rw [hn]
      obtain ⟨K, Is, N⟩ := t
      by_cases c0 : j < zs.length
      · have h1 := o9Q1 zs.length el (ints zs) key j Pl Is n E
        unfold end9 at h1
        obtain ⟨s1, k1, k2, k3⟩ := xround_of h1 (hold_cons (qd (by omega)) (hold_cons (qd (by omega)) (hold_cons (qd (by omega)) (hold_cons (qdn (by omega)) hold_nil)))) (still_cons (renL_flat _ _ (ints_flat _)) (still_cons rfl (still_cons (renL_flat _ _ (ints_flat _)) (still_cons rfl (still_cons (renL_flat _ _ (bools_flat _)) (still_cons (renL_flat _ _ (ents_flat _)) still_nil))))))
        exact ⟨_, 400, s1, specs9Q [] B (fun p hp => by cases hp), k1, .inr ⟨_, _, k2, k3⟩⟩
      · have h1 := o9Q2 zs.length el (ints zs) key j Pl Is n E
        unfold end9 at h1
        obtain ⟨s1, k1, k2, k3⟩ := xround_of h1 (hold_cons (qdn (by omega)) (hold_cons (qdn (by omega)) (hold_cons (qdn (by omega)) hold_nil))) (still_cons (renL_flat _ _ (ints_flat _)) (still_cons rfl (still_cons (renL_flat _ _ (ints_flat _)) (still_cons rfl (still_cons (renL_flat _ _ (bools_flat _)) (still_cons (renL_flat _ _ (ents_flat _)) still_nil))))))
        exact ⟨_, 400, s1, specs9Q [] B (fun p hp => by cases hp), k1, .inr ⟨_, _, k2, k3⟩⟩
end Go.Proofs.Ythocfeccinpbmaa
