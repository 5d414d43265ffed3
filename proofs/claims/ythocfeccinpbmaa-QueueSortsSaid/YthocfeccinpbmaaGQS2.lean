/-
  QueueSorts: whatever the two rows, the call returns true, and its arguments read as they did.
-/
import Derived.Test.YthocfeccinpbmaaGQS1
open Go Go.Am Go.Proofs
namespace Go.Proofs.Ythocfeccinpbmaa
set_option maxRecDepth 100000

theorem set_same {l : List Bool} {w : Nat} (h : l.getD w false = true) (hw : w < l.length) : l.set w true = l := by
  apply List.ext_getElem?
  intro i
  rw [List.getElem?_set]
  split
  · rename_i hi
    subst hi
    rw [getD_some (d := false) hw, h]
  · rfl
theorem set_sameI {l : List Int} {w : Nat} (hw : w < l.length) : l.set w (l.getD w 0) = l := by
  apply List.ext_getElem?
  intro i
  rw [List.getElem?_set]
  split
  · rename_i hi
    subst hi
    rw [getD_some (d := 0) hw]
  · rfl
/- The first loop: number after number. -/
def itA (zs : List Int) (n : Nat) : Nat → QS × RS
  | 0 => (⟨none, List.replicate n 0⟩, ⟨List.replicate n 0, List.replicate n false, 0⟩)
  | j + 1 => ((putS (itA zs n j).1 (j : Int) (zs.getD j 0)).2, (rputR (itA zs n j).2 (j : Int) (zs.getD j 0)).2)
structure AI (n j : Nat) (s : QS) (t : RS) : Prop where
  same : Same n s t
  is : ∀ x, x < n → t.Is.getD x false = decide (x < j)
  num : t.N = (j : Int)
theorem rput_new {t : RS} {w : Nat} {z : Int} (hw : w < t.K.length) (hb : t.Is.getD w false = false) : rputR t (w : Int) z = (true, ⟨t.K.set w z, t.Is.set w true, IntKind.wrap .i64 (t.N + 1)⟩) := by
  have hr : 0 ≤ (w : Int) ∧ (w : Int) < (t.K.length : Int) := ⟨by omega, by omega⟩
  unfold rputR
  rw [if_pos hr, Int.toNat_natCast, if_neg (by rw [hb]; decide)]
theorem rput_old {t : RS} {w : Nat} {z : Int} (hw : w < t.K.length) (hi : t.Is.length = t.K.length) (hb : t.Is.getD w false = true) : (rputR t (w : Int) z).1 = decide (z < t.K.getD w 0) ∧ (rputR t (w : Int) z).2.K = t.K.set w (minN (t.K.getD w 0) z) ∧ (rputR t (w : Int) z).2.Is = t.Is ∧ (rputR t (w : Int) z).2.N = t.N := by
  have hr : 0 ≤ (w : Int) ∧ (w : Int) < (t.K.length : Int) := ⟨by omega, by omega⟩
  unfold rputR
  rw [if_pos hr, Int.toNat_natCast, if_pos hb]
  by_cases h : t.K.getD w 0 ≤ z
  · rw [if_pos h]
    refine ⟨(decide_eq_false (by omega)).symm, ?_, rfl, rfl⟩
    unfold minN
    rw [if_neg (by omega), set_sameI hw]
  · rw [if_neg h]
    refine ⟨(decide_eq_true (by omega)).symm, ?_, ?_, rfl⟩
    · unfold minN
      rw [if_pos (by omega)]
    · exact set_same hb (by omega)
theorem AI.put {n j : Nat} {s : QS} {t : RS} (h : AI n j s t) (hj : j < n) (z : Int) : (putS s (j : Int) z).1 = true ∧ AI n (j + 1) (putS s (j : Int) z).2 (rputR t (j : Int) z).2 ∧ (rputR t (j : Int) z).2.K = t.K.set j z := by
  obtain ⟨p1, p2⟩ := h.same.put (j : Int) z
  have hlk := h.same.lk
  have hli := h.same.li
  have hb : t.Is.getD j false = false := by rw [h.is j hj]; simp
  rw [rput_new (by omega) hb] at p1 p2 ⊢
  refine ⟨p1.symm, ⟨p2, fun x hx => ?_, ?_⟩, rfl⟩
  · simp only
    rw [getD_set (by omega)]
    split
    · rename_i he; subst he; exact (decide_eq_true (by omega)).symm
    · rw [h.is x hx]; exact decide_eq_decide.2 (by omega)
  · have h1 := h.num
    have h2 := h.same.ok.wf.big
    have h3 := h.same.lp
    show IntKind.wrap .i64 (t.N + 1) = _
    rw [IntWalk.i64_in _ (by omega)]
    omega
theorem put_in {n : Nat} {s : QS} {t : RS} {w : Nat} {z : Int} (h : Same n s t) (hw : w < n) (hb : t.Is.getD w false = true) : ∃ E, s.E = some E ∧ E ≠ [] := by
  have hm := (h.mem w _ hw).2 ⟨hb, rfl⟩
  cases hE : s.E with
  | none => unfold QS.es at hm; rw [hE] at hm; cases hm
  | some E =>
    refine ⟨E, rfl, fun h0 => ?_⟩
    unfold QS.es at hm; rw [hE, h0] at hm; cases hm
theorem itA_ok (zs : List Int) (n : Nat) (hn : n ≤ 60) : ∀ j, j ≤ n → AI n j (itA zs n j).1 (itA zs n j).2
  | 0, _ => ⟨Same.new (by omega), fun x hx => by
    show (List.replicate n false).getD x false = _
    simp only [List.getD_eq_getElem?_getD, List.getElem?_replicate, if_pos hx, Option.getD_some]
    exact (decide_eq_false (by omega)).symm, rfl⟩
  | j + 1, h => ((itA_ok zs n hn j (by omega)).put (by omega) _).2.1
/- The second: some again. -/
def itB (ms : List Int) (n : Nat) (p : QS × RS) : Nat → QS × RS
  | 0 => p
  | j + 1 => ((putS (itB ms n p j).1 ((j % n : Nat) : Int) (ms.getD j 0)).2, (rputR (itB ms n p j).2 ((j % n : Nat) : Int) (ms.getD j 0)).2)
structure BI (n : Nat) (s : QS) (t : RS) : Prop where
  same : Same n s t
  is : ∀ x, x < n → t.Is.getD x false = true
  num : t.N = (n : Int)
theorem BI.put {n w : Nat} {s : QS} {t : RS} (h : BI n s t) (hw : w < n) (z : Int) : (putS s (w : Int) z).1 = decide (z < t.K.getD w 0) ∧ BI n (putS s (w : Int) z).2 (rputR t (w : Int) z).2 ∧ (rputR t (w : Int) z).2.K = t.K.set w (minN (t.K.getD w 0) z) := by
  obtain ⟨p1, p2⟩ := h.same.put (w : Int) z
  obtain ⟨q1, q2, q3, q4⟩ := rput_old (z := z) (show w < t.K.length by rw [h.same.lk]; exact hw) (by rw [h.same.lk, h.same.li]) (h.is w hw)
  exact ⟨by rw [← p1, q1], ⟨p2, fun x hx => by rw [q3]; exact h.is x hx, by rw [q4]; exact h.num⟩, q2⟩
theorem itB_ok (ms : List Int) (n : Nat) (hn : 0 < n) (p : QS × RS) (hp : BI n p.1 p.2) : ∀ j, BI n (itB ms n p j).1 (itB ms n p j).2
  | 0 => hp
  | j + 1 => ((itB_ok ms n hn p hp j).put (Nat.mod_lt _ hn) _).2.1
/- The third: one after another comes out. -/
structure CI (n j : Nat) (K : List Int) (last lid : Int) (s : QS) (t : RS) : Prop where
  same : Same n s t
  k : t.K = K
  num : t.N = (n : Int) - (j : Int)
  low : 0 < j → ∀ x, x < n → t.Is.getD x false = true → last < t.K.getD x 0 ∨ (last = t.K.getD x 0 ∧ lid < (x : Int))
theorem popS_E {s : QS} : (popS s).2.E = s.E.map fun _ => (popR s.es s.Pl).2.1 := rfl
theorem CI.pop {n j : Nat} {K : List Int} {last lid : Int} {s : QS} {t : RS} (h : CI n j K last lid s t) (hj : j < n) :
    ∃ b : Nat, b < n ∧ (popS s).1 = .tuple ⟨[i64 (b : Int), i64 (K.getD b 0), .bool true]⟩ ∧ CI n (j + 1) K (K.getD b 0) (b : Int) (popS s).2 (rpopR t).2 ∧ (0 < j → last < K.getD b 0 ∨ (last = K.getD b 0 ∧ lid < (b : Int))) ∧ (popS s).2.Pl[b]? = some 0 := by
  obtain ⟨p1, p2⟩ := h.same.pop
  have hlk := h.same.lk
  have hli := h.same.li
  have hne : s.es.length ≠ 0 := by
    have h1 := h.same.num
    have h2 := h.num
    omega
  obtain ⟨b1, b2⟩ := best_spec (K := t.K) (Is := t.Is) t.K.length
  have hpos : 0 ≤ bestR t.K t.Is t.K.length := by
    rcases Int.lt_or_le (bestR t.K t.Is t.K.length) 0 with hneg | hp
    · exfalso
      obtain ⟨⟨a, k⟩, he⟩ := List.exists_mem_of_length_pos (Nat.pos_of_ne_zero hne)
      have hr := QS.range h.same.ok he
      rw [h.same.lp] at hr
      simp only at hr
      have hm := (h.same.mem a.toNat k (by omega)).1 (by rw [Int.toNat_of_nonneg hr.1]; exact he)
      rw [b1 hneg _ (by omega)] at hm
      cases hm.1
    · exact hp
  obtain ⟨c1, c2, c3⟩ := b2 hpos
  obtain ⟨b, hb⟩ : ∃ b : Nat, bestR t.K t.Is t.K.length = (b : Int) := ⟨(bestR t.K t.Is t.K.length).toNat, by omega⟩
  rw [hb, Int.toNat_natCast] at c1 c2 c3
  have hr : rpopR t = (.tuple ⟨[i64 (b : Int), i64 (K.getD b 0), .bool true]⟩, ⟨t.K, t.Is.set b false, IntKind.wrap .i64 (t.N - 1)⟩) := by
    unfold rpopR
    rw [hb, if_neg (by omega), Int.toNat_natCast, h.k]
  rw [hr] at p1 p2 ⊢
  have hpl : (popS s).2.Pl.length = n := p2.lp
  refine ⟨b, by omega, p1.symm, ⟨p2, h.k, ?_, fun _ x hx hi => ?_⟩, fun h0 => ?_, ?_⟩
  · have h1 := h.num
    have h2 := h.same.ok.wf.big
    have h3 := h.same.lp
    show IntKind.wrap .i64 (t.N - 1) = _
    rw [IntWalk.i64_in _ (by omega)]
    omega
  · simp only at hi ⊢
    rw [getD_set (by omega)] at hi
    by_cases he : x = b
    · rw [if_pos he] at hi; cases hi
    · rw [if_neg he] at hi
      rw [← h.k]
      rcases c3 x (by omega) hi with q | ⟨q, q'⟩
      · exact .inl q
      · exact .inr ⟨q, by omega⟩
  · rw [← h.k]
    exact h.low h0 b (by omega) c2
  · have hz : (popS s).2.Pl[b]? = some ((popS s).2.Pl.getD b 0) := getD_some (by omega)
    by_cases h0 : (popS s).2.Pl.getD b 0 = 0
    · rw [hz, h0]
    · exfalso
      obtain ⟨_, _, _, _, k3, _⟩ := p2.key_yes (show b < n by omega) hz h0
      simp only at k3
      rw [getD_set (by omega), if_pos rfl] at k3
      cases k3
theorem CI.done {n : Nat} {K : List Int} {last lid : Int} {E : List En} {Pl : List Int} {t : RS} (h : CI n n K last lid ⟨some E, Pl⟩ t) : E = [] ∧ Pl = List.replicate n 0 := by
  have h1 := h.same.num
  have h2 := h.num
  have hE : E.length = 0 := by
    have : (QS.es ⟨some E, Pl⟩).length = E.length := rfl
    omega
  have hE := List.length_eq_zero_iff.1 hE
  subst hE
  refine ⟨rfl, List.eq_replicate_iff.2 ⟨h.same.lp, fun z hz => ?_⟩⟩
  obtain ⟨i, hi, rfl⟩ := List.getElem_of_mem hz
  rcases h.same.ok.wf.no i _ (List.getElem?_eq_getElem hi) with q | ⟨_, _, q, _⟩
  · exact q
  · simp [QS.es] at q
end Go.Proofs.Ythocfeccinpbmaa
