/-
  QueueSorts: whatever the two rows, the call returns true, and its arguments read as they did.
-/
import Derived.Test.YthocfeccinpbmaaGQO1
open Go Go.Am Go.Proofs
namespace Go.Proofs.Ythocfeccinpbmaa
set_option maxRecDepth 100000

/- The order of entries. -/
def Lt (a b : En) : Prop := a.2 < b.2 ∨ (a.2 = b.2 ∧ a.1 < b.1)
theorem lessB_iff (a b : En) : lessB a b = true ↔ Lt a b := by
  unfold lessB Lt
  split
  · rename_i h; simp only [decide_eq_true_eq]; omega
  · rename_i h; simp only [decide_eq_true_eq]; omega
theorem lessB_not (a b : En) : lessB a b = false ↔ ¬ Lt a b := by
  rw [← lessB_iff]; simp
theorem Lt.asymm {a b : En} (h : Lt a b) : ¬ Lt b a := by unfold Lt at *; omega
theorem Lt.trans {a b c : En} (h : Lt a b) (k : Lt b c) : Lt a c := by unfold Lt at *; omega
theorem notLt_trans {a b c : En} (h : ¬ Lt a b) (k : ¬ Lt b c) : ¬ Lt a c := by unfold Lt at *; omega
theorem lessOf_eq (E : List En) (i j : Nat) : lessOf E i j = lessB (eAt E i) (eAt E j) := rfl

/- At each place, but the first one, nothing less than at the place above. -/
def Heap (n : Nat) (E : List En) : Prop := ∀ k, 0 < k → k < n → ¬ Lt (eAt E k) (eAt E ((k - 1) / 2))
structure UpInv (n : Nat) (E : List En) (j : Nat) : Prop where
  most : ∀ k, 0 < k → k < n → k ≠ j → ¬ Lt (eAt E k) (eAt E ((k - 1) / 2))
  over : ∀ k, 0 < k → k < n → (k - 1) / 2 = j → 0 < j → ¬ Lt (eAt E k) (eAt E ((j - 1) / 2))
structure DownInv (n : Nat) (E : List En) (i : Nat) : Prop where
  most : ∀ k, 0 < k → k < n → (k - 1) / 2 ≠ i → ¬ Lt (eAt E k) (eAt E ((k - 1) / 2))
  over : ∀ k, 0 < k → k < n → (k - 1) / 2 = i → 0 < i → ¬ Lt (eAt E k) (eAt E ((i - 1) / 2))

theorem eAt_swap {E : List En} {i j : Nat} (hi : i < E.length) (hj : j < E.length) (k : Nat) : eAt (swapE E i j) k = if k = j then eAt E i else if k = i then eAt E j else eAt E k := by
  unfold eAt
  rw [List.getD_eq_getElem?_getD, swapE_get hi hj]
  split
  · rfl
  · split
    · rfl
    · rw [List.getD_eq_getElem?_getD]
theorem mem_at {E : List En} {e : En} : e ∈ E ↔ ∃ k, k < E.length ∧ eAt E k = e := by
  constructor
  · intro h
    obtain ⟨k, hk, he⟩ := List.mem_iff_getElem.1 h
    exact ⟨k, hk, by rw [eAt_of (List.getElem?_eq_getElem hk), he]⟩
  · rintro ⟨k, hk, he⟩
    rw [← he]
    exact List.mem_of_getElem? (eAt_get hk)
theorem mem_swap {E : List En} {i j : Nat} (hi : i < E.length) (hj : j < E.length) (e : En) : e ∈ swapE E i j ↔ e ∈ E := by
  rw [mem_at, mem_at, swapE_len]
  constructor
  · rintro ⟨k, hk, he⟩
    rw [eAt_swap hi hj] at he
    split at he
    · exact ⟨i, hi, he⟩
    · split at he
      · exact ⟨j, hj, he⟩
      · exact ⟨k, hk, he⟩
  · rintro ⟨k, hk, he⟩
    by_cases h1 : k = i
    · subst h1
      exact ⟨j, hj, by rw [eAt_swap hi hj, if_pos rfl]; exact he⟩
    · by_cases h2 : k = j
      · subst h2
        exact ⟨i, hi, by rw [eAt_swap hi hj, if_neg (Ne.symm h1), if_pos rfl]; exact he⟩
      · exact ⟨k, hk, by rw [eAt_swap hi hj, if_neg h2, if_neg h1]; exact he⟩

theorem up_heap (j : Nat) : ∀ {E : List En} {Pl : List Int}, j < E.length → UpInv E.length E j → Heap E.length (upR E Pl j).1 ∧ ∀ e, e ∈ (upR E Pl j).1 ↔ e ∈ E := by
  induction j using Nat.strongRecOn with
  | ind j ih =>
    intro E Pl hj hU
    rw [upR_eq]
    split
    · rename_i h0
      subst h0
      exact ⟨fun k h1 h2 => hU.most k h1 h2 (by omega), fun _ => Iff.rfl⟩
    · rename_i h0
      obtain ⟨i, hi⟩ : ∃ i, i = (j - 1) / 2 := ⟨_, rfl⟩
      rw [← hi]
      have hil : i < E.length := by omega
      split
      · rename_i hl
        rw [lessOf_eq, lessB_iff] at hl
        have hlen : (swapE E i j).length = E.length := swapE_len E i j
        have hU' : UpInv E.length (swapE E i j) i := by
          refine ⟨fun k h1 h2 h3 => ?_, fun k h1 h2 h3 h4 => ?_⟩
          · rw [eAt_swap hil hj, eAt_swap hil hj]
            by_cases hkj : k = j
            · subst hkj
              rw [if_pos rfl, if_neg (by omega), if_pos hi.symm]
              exact hl.asymm
            · rw [if_neg hkj, if_neg h3]
              by_cases hp : (k - 1) / 2 = j
              · rw [if_pos hp, hi]
                exact hU.over k h1 h2 hp (by omega)
              · rw [if_neg hp]
                by_cases hp2 : (k - 1) / 2 = i
                · rw [if_pos hp2]
                  have := hU.most k h1 h2 hkj
                  rw [hp2] at this
                  exact fun h => this (h.trans hl)
                · rw [if_neg hp2]
                  exact hU.most k h1 h2 hkj
          · rw [eAt_swap hil hj, eAt_swap hil hj, if_neg (by omega : ¬ (i - 1) / 2 = j), if_neg (by omega : ¬ (i - 1) / 2 = i)]
            have hm := hU.most i h4 hil (by omega)
            by_cases hkj : k = j
            · subst hkj
              rw [if_pos rfl]; exact hm
            · rw [if_neg hkj, if_neg (by omega)]
              have := hU.most k h1 h2 hkj
              rw [h3] at this
              exact notLt_trans this hm
        obtain ⟨h1, h2⟩ := ih i (by omega) (E := swapE E i j) (Pl := swapP Pl E i j) (by rw [hlen]; exact hil) (by rw [hlen]; exact hU')
        rw [hlen] at h1
        exact ⟨h1, fun e => (h2 e).trans (mem_swap hil hj e)⟩
      · rename_i hl
        rw [lessOf_eq, Bool.not_eq_true, lessB_not] at hl
        refine ⟨fun k h1 h2 => ?_, fun _ => Iff.rfl⟩
        by_cases hkj : k = j
        · subst hkj; rw [← hi]; exact hl
        · exact hU.most k h1 h2 hkj

theorem kid_least {E : List En} {n i c : Nat} (h1 : 0 < c) (hc : c < n) (hp : (c - 1) / 2 = i) : ¬ Lt (eAt E c) (eAt E (kid E n i)) := by
  have irr : ∀ a : En, ¬ Lt a a := fun a h => h.asymm h
  unfold kid
  split
  · rename_i h2
    split
    · rename_i hl
      rw [lessOf_eq, lessB_iff] at hl
      by_cases hh : c = 2 * i + 2
      · subst hh; exact irr _
      · have : c = 2 * i + 1 := by omega
        subst this; exact hl.asymm
    · rename_i hl
      rw [lessOf_eq, Bool.not_eq_true, lessB_not] at hl
      by_cases hh : c = 2 * i + 2
      · subst hh; exact hl
      · have : c = 2 * i + 1 := by omega
        subst this; exact irr _
  · have : c = 2 * i + 1 := by omega
    subst this; exact irr _
theorem kid_up {E : List En} {n i : Nat} : (kid E n i - 1) / 2 = i := by
  unfold kid
  split
  · split <;> omega
  · omega
theorem down_heap {n : Nat} : ∀ (d : Nat) {E : List En} {Pl : List Int} {i : Nat}, n - i ≤ d → n ≤ E.length → i < E.length → DownInv n E i →
    Heap n (downR n E Pl i).1.1 ∧ (∀ e, e ∈ (downR n E Pl i).1.1 ↔ e ∈ E) ∧ ∀ k, n ≤ k → i < n → eAt (downR n E Pl i).1.1 k = eAt E k
  | d, E, Pl, i, hd, hn, hi, hD => by
    rw [downR_eq]
    split
    · rename_i hc
      have k1 := kid_gt E n i
      have k2 := kid_lt (E := E) hc
      have k3 := kid_up (E := E) (n := n) (i := i)
      obtain ⟨j, hj⟩ : ∃ j, j = kid E n i := ⟨_, rfl⟩
      rw [← hj] at k1 k2 k3 ⊢
      have hjl : j < E.length := by omega
      have hleast : ∀ c, 0 < c → c < n → (c - 1) / 2 = i → ¬ Lt (eAt E c) (eAt E j) := fun c h1 h2 h3 => by rw [hj]; exact kid_least h1 h2 h3
      split
      · rename_i hl
        rw [lessOf_eq, lessB_iff] at hl
        cases d with
        | zero => omega
        | succ d =>
          have hD' : DownInv n (swapE E i j) j := by
            refine ⟨fun k h1 h2 h3 => ?_, fun k h1 h2 h3 h4 => ?_⟩
            · rw [eAt_swap hi hjl, eAt_swap hi hjl, if_neg h3]
              by_cases hkj : k = j
              · subst hkj
                rw [if_pos rfl, if_pos k3]
                exact hl.asymm
              · rw [if_neg hkj]
                by_cases hki : k = i
                · subst hki
                  rw [if_pos rfl, if_neg (by omega)]
                  exact hD.over j (by omega) k2 k3 h1
                · rw [if_neg hki]
                  by_cases hp : (k - 1) / 2 = i
                  · rw [if_pos hp]
                    exact hleast k h1 h2 hp
                  · rw [if_neg hp]
                    exact hD.most k h1 h2 hp
            · rw [eAt_swap hi hjl, eAt_swap hi hjl, k3, if_neg (by omega), if_neg (by omega), if_neg (by omega), if_pos rfl]
              have := hD.most k h1 h2 (by omega)
              rw [h3] at this
              exact this
          have hlen : (swapE E i j).length = E.length := swapE_len E i j
          obtain ⟨h1, h2, h3⟩ := down_heap (n := n) d (E := swapE E i j) (Pl := swapP Pl E i j) (i := j) (by omega) (by rw [hlen]; exact hn) (by rw [hlen]; exact hjl) hD'
          refine ⟨h1, fun e => (h2 e).trans (mem_swap hi hjl e), fun k hk _ => ?_⟩
          rw [h3 k hk k2, eAt_swap hi hjl, if_neg (by omega), if_neg (by omega)]
      · rename_i hl
        rw [lessOf_eq, Bool.not_eq_true, lessB_not] at hl
        refine ⟨fun k h1 h2 => ?_, fun _ => Iff.rfl, fun _ _ _ => rfl⟩
        by_cases hp : (k - 1) / 2 = i
        · rw [hp]; exact notLt_trans (hleast k h1 h2 hp) hl
        · exact hD.most k h1 h2 hp
    · rename_i hc
      refine ⟨fun k h1 h2 => ?_, fun _ => Iff.rfl, fun _ _ _ => rfl⟩
      exact hD.most k h1 h2 (by omega)
theorem heap_first {n : Nat} {E : List En} (h : Heap n E) : ∀ k, k < n → ¬ Lt (eAt E k) (eAt E 0) := by
  intro k
  induction k using Nat.strongRecOn with
  | ind k ih =>
    intro hk
    by_cases h0 : k = 0
    · subst h0; exact fun h => h.asymm h
    · exact notLt_trans (h k (by omega) hk) (ih ((k - 1) / 2) (by omega) (by omega))
end Go.Proofs.Ythocfeccinpbmaa

open Go Go.Am Go.Proofs
namespace Go.Proofs.Ythocfeccinpbmaa
set_option maxRecDepth 100000

structure QOk (E : List En) (Pl : List Int) : Prop where
  wf : WF E Pl
  heap : Heap E.length E
theorem WF.one {E : List En} {Pl : List Int} (h : WF E Pl) {a b : En} (ha : a ∈ E) (hb : b ∈ E) (he : a.1 = b.1) : a = b := by
  obtain ⟨i, hi, h1⟩ := mem_at.1 ha
  obtain ⟨j, hj, h2⟩ := mem_at.1 hb
  by_cases hij : i = j
  · subst hij; rw [← h1, ← h2]
  · have := h.ne (eAt_get hi) (eAt_get hj) hij
    rw [h1, h2] at this
    exact absurd he this
theorem eAt_append_lt {E : List En} {x : En} {k : Nat} (h : k < E.length) : eAt (E ++ [x]) k = eAt E k := by
  have := eAt_get h
  exact eAt_of (by rw [List.getElem?_append_left h]; exact this)
theorem eAt_append_eq {E : List En} {x : En} : eAt (E ++ [x]) E.length = x := eAt_of (by simp)
theorem eAt_set {E : List En} {k : Nat} {x : En} (h : k < E.length) (j : Nat) : eAt (E.set k x) j = if j = k then x else eAt E j := by
  unfold eAt
  rw [List.getD_eq_getElem?_getD, List.getElem?_set]
  by_cases hk : j = k
  · subst hk; rw [if_pos rfl, if_pos rfl, if_pos h]; rfl
  · rw [if_neg (Ne.symm hk), if_neg hk, List.getD_eq_getElem?_getD]

/- Whether an id is put. -/
def puts (E : List En) (m : Nat) (id key : Int) : Prop := 0 ≤ id ∧ id < (m : Int) ∧ ∀ k, (id, k) ∈ E → key < k

theorem fix_sem {E : List En} {Pl : List Int} (h : QOk E Pl) {k : Nat} (hk : k < E.length) {key : Int} (hl : key < (eAt E k).2) :
    fixR (E.set k ((eAt E k).1, key)) Pl k = upR (E.set k ((eAt E k).1, key)) Pl k ∧ Heap E.length (upR (E.set k ((eAt E k).1, key)) Pl k).1 ∧ ∀ e, e ∈ (upR (E.set k ((eAt E k).1, key)) Pl k).1 ↔ e ∈ E.set k ((eAt E k).1, key) := by
  have hlen : (E.set k ((eAt E k).1, key)).length = E.length := List.length_set ..
  have hx : Lt ((eAt E k).1, key) (eAt E k) := .inl hl
  have kids : ∀ c, 0 < c → c < E.length → (c - 1) / 2 = k → ¬ Lt (eAt E c) ((eAt E k).1, key) := fun c h1 h2 h3 hc => by
    have := h.heap c h1 h2
    rw [h3] at this
    exact this (hc.trans hx)
  have hdown : downR (E.set k ((eAt E k).1, key)).length (E.set k ((eAt E k).1, key)) Pl k = ((E.set k ((eAt E k).1, key), Pl), k) := by
    rw [downR_eq]
    split
    · rename_i hc
      rw [hlen] at hc
      have k1 := kid_gt (E.set k ((eAt E k).1, key)) E.length k
      have k2 := kid_lt (E := E.set k ((eAt E k).1, key)) hc
      have k3 := kid_up (E := E.set k ((eAt E k).1, key)) (n := E.length) (i := k)
      rw [hlen, if_neg]
      rw [lessOf_eq, Bool.not_eq_true, lessB_not, eAt_set hk, eAt_set hk, if_neg (by omega), if_pos rfl]
      exact kids _ (by omega) k2 k3
    · rfl
  have hfix : fixR (E.set k ((eAt E k).1, key)) Pl k = upR (E.set k ((eAt E k).1, key)) Pl k := by
    unfold fixR
    rw [hdown]
    rw [if_neg (by simp)]
  refine ⟨hfix, ?_⟩
  have hU : UpInv (E.set k ((eAt E k).1, key)).length (E.set k ((eAt E k).1, key)) k := by
    rw [hlen]
    refine ⟨fun c h1 h2 h3 => ?_, fun c h1 h2 h3 h4 => ?_⟩
    · rw [eAt_set hk, eAt_set hk, if_neg h3]
      by_cases hp : (c - 1) / 2 = k
      · rw [if_pos hp]; exact kids c h1 h2 hp
      · rw [if_neg hp]; exact h.heap c h1 h2
    · rw [eAt_set hk, eAt_set hk, if_neg (by omega), if_neg (by omega)]
      have a1 := h.heap c h1 h2
      have a2 := h.heap k h4 hk
      rw [h3] at a1
      exact notLt_trans a1 a2
  have := up_heap k (Pl := Pl) (by rw [hlen]; exact hk) hU
  rw [hlen] at this
  exact this

theorem put_yes {E : List En} {Pl : List Int} (h : QOk E Pl) {id key : Int} (hp : puts E Pl.length id key) :
    (putR E Pl id key).1 = true ∧ QOk (putR E Pl id key).2.1 (putR E Pl id key).2.2 ∧ (putR E Pl id key).2.2.length = Pl.length ∧ ∀ e, e ∈ (putR E Pl id key).2.1 ↔ e = (id, key) ∨ (e ∈ E ∧ e.1 ≠ id) := by
  obtain ⟨h0, h1, h2⟩ := hp
  obtain ⟨w1, w2⟩ := h.wf.put id key
  have hg : Pl[id.toNat]? = some (Pl.getD id.toNat 0) := by rw [List.getD_eq_getElem?_getD, List.getElem?_eq_getElem (by omega)]; rfl
  unfold putR at w1 w2 ⊢
  rw [if_pos ⟨h0, h1⟩] at w1 w2 ⊢
  by_cases hz : Pl.getD id.toNat 0 = 0
  · rw [if_pos hz] at w1 w2 ⊢
    have hU : UpInv (E ++ [(id, key)]).length (E ++ [(id, key)]) E.length := by
      simp only [List.length_append, List.length_cons, List.length_nil, Nat.zero_add]
      refine ⟨fun k k1 k2 k3 => ?_, fun k k1 k2 k3 k4 => by omega⟩
      rw [eAt_append_lt (by omega), eAt_append_lt (by omega)]
      exact h.heap k k1 (by omega)
    obtain ⟨u1, u2⟩ := up_heap E.length (Pl := Pl.set id.toNat ((E.length + 1 : Nat) : Int)) (by simp) hU
    obtain ⟨_, u4, _⟩ := (h.wf.push (key := key) h0 h1 (by rw [hg, hz])).up E.length (by simp)
    refine ⟨rfl, ⟨w1, by simp only; rw [u4]; exact u1⟩, w2, fun e => ?_⟩
    simp only
    rw [u2, List.mem_append, List.mem_singleton]
    constructor
    · rintro (he | he)
      · refine .inr ⟨he, fun hid => ?_⟩
        obtain ⟨k, hk, hek⟩ := mem_at.1 he
        have := h.wf.at' k e (by rw [eAt_get hk, hek])
        rw [hid, hg, hz] at this
        have := Option.some.inj this
        omega
      · exact .inl he
    · rintro (he | ⟨he, _⟩)
      · exact .inr he
      · exact .inl he
  · rw [if_neg hz] at w1 w2 ⊢
    obtain ⟨k, e, k1, k2, k3⟩ := (h.wf.no _ _ hg).resolve_left hz
    have hk : k < E.length := (List.getElem?_eq_some_iff.1 k1).1
    have hkk : (Pl.getD id.toNat 0 - 1).toNat = k := by omega
    have he := eAt_of k1
    have hid : (eAt E k).1 = id := by rw [he]; omega
    have hlow : key < (eAt E k).2 := h2 _ (by
      rw [← hid]
      exact List.mem_of_getElem? (eAt_get hk))
    rw [hkk] at w1 w2 ⊢
    rw [if_neg (by omega)] at w1 w2 ⊢
    obtain ⟨f1, f2, f3⟩ := fix_sem h hk hlow
    have hlen : (fixR (E.set k ((eAt E k).1, key)) Pl k).1.length = E.length := by
      have := ((h.wf.key hk key).fix (k := k) (by rw [List.length_set]; exact hk)).2.1
      rw [List.length_set] at this
      exact this
    refine ⟨rfl, ⟨w1, by simp only; rw [hlen, f1]; exact f2⟩, w2, fun x => ?_⟩
    simp only
    rw [f1, f3, mem_at, List.length_set]
    constructor
    · rintro ⟨j, hj, hx⟩
      rw [eAt_set hk] at hx
      split at hx
      · rw [← hx, hid]; exact .inl rfl
      · rename_i hjk
        refine .inr ⟨mem_at.2 ⟨j, hj, hx⟩, fun hh => ?_⟩
        have := h.wf.ne (eAt_get hj) (eAt_get hk) hjk
        rw [hx] at this
        exact this (by rw [hh, hid])
    · rintro (hx | ⟨hx, hne⟩)
      · exact ⟨k, hk, by rw [eAt_set hk, if_pos rfl, hx, hid]⟩
      · obtain ⟨j, hj, hjx⟩ := mem_at.1 hx
        refine ⟨j, hj, ?_⟩
        rw [eAt_set hk, if_neg (fun hjk => ?_)]
        · exact hjx
        · subst hjk
          rw [← hjx] at hne
          exact hne hid
theorem put_no {E : List En} {Pl : List Int} (h : QOk E Pl) {id key : Int} (hp : ¬ puts E Pl.length id key) : putR E Pl id key = (false, (E, Pl)) := by
  unfold putR
  split
  · rename_i hin
    have hg : Pl[id.toNat]? = some (Pl.getD id.toNat 0) := by rw [List.getD_eq_getElem?_getD, List.getElem?_eq_getElem (by omega)]; rfl
    split
    · rename_i hz
      refine absurd ⟨hin.1, hin.2, fun k hk => ?_⟩ hp
      obtain ⟨j, hj, he⟩ := mem_at.1 hk
      have := h.wf.at' j (id, k) (by rw [eAt_get hj, he])
      simp only at this
      rw [hg, hz] at this
      have := Option.some.inj this
      omega
    · rename_i hz
      obtain ⟨k, e, k1, k2, k3⟩ := (h.wf.no _ _ hg).resolve_left hz
      have hk : k < E.length := (List.getElem?_eq_some_iff.1 k1).1
      have hkk : (Pl.getD id.toNat 0 - 1).toNat = k := by omega
      have he := eAt_of k1
      have hid : (eAt E k).1 = id := by rw [he]; omega
      rw [hkk]
      split
      · rfl
      · rename_i hle
        refine absurd ⟨hin.1, hin.2, fun x hx => ?_⟩ hp
        have := h.wf.one hx (List.mem_of_getElem? (eAt_get hk)) hid.symm
        rw [← this] at hle
        simp only at hle
        omega
  · rfl

theorem pop_none {E : List En} {Pl : List Int} (h : E.length = 0) : popR E Pl = (.tuple ⟨[i64 0, i64 0, .bool false]⟩, (E, Pl)) := by
  unfold popR; rw [if_pos h]
theorem pop_some {E : List En} {Pl : List Int} (h : QOk E Pl) (hn : E.length ≠ 0) : ∃ e, e ∈ E ∧ (∀ x ∈ E, ¬ Lt x e) ∧ (popR E Pl).1 = .tuple ⟨[i64 e.1, i64 e.2, .bool true]⟩ ∧
    QOk (popR E Pl).2.1 (popR E Pl).2.2 ∧ (popR E Pl).2.2.length = Pl.length ∧ (popR E Pl).2.1.length + 1 = E.length ∧ ∀ x, x ∈ (popR E Pl).2.1 ↔ x ∈ E ∧ x ≠ e := by
  obtain ⟨w1, w2⟩ := h.wf.pop
  obtain ⟨d1, d2, d3⟩ := popD_wf h.wf hn
  obtain ⟨n0, hn0⟩ : ∃ n0, E.length = n0 + 1 := ⟨E.length - 1, by omega⟩
  refine ⟨eAt E 0, mem_at.2 ⟨0, by omega, rfl⟩, fun x hx => ?_, ?_, ?_⟩
  · obtain ⟨k, hk, rfl⟩ := mem_at.1 hx
    exact heap_first h.heap k hk
  · unfold popR; rw [if_neg hn]
  have hE0 : n0 < E.length := by omega
  have hs0 : (0 : Nat) < E.length := by omega
  have hlast : eAt (popD E Pl).1.1 n0 = eAt E 0 ∧ Heap n0 (popD E Pl).1.1 ∧ ∀ e, e ∈ (popD E Pl).1.1 ↔ e ∈ E := by
    have hsl : (swapE E 0 n0).length = E.length := swapE_len ..
    have hpd : popD E Pl = downR n0 (swapE E 0 n0) (swapP Pl E 0 n0) 0 := by unfold popD; rw [hn0]; rfl
    have hD : DownInv n0 (swapE E 0 n0) 0 := by
      refine ⟨fun k k1 k2 k3 => ?_, fun k _ _ _ h => absurd h (Nat.lt_irrefl _)⟩
      rw [eAt_swap hs0 hE0, eAt_swap hs0 hE0, if_neg (by omega), if_neg (by omega), if_neg (by omega), if_neg k3]
      exact h.heap k k1 (by omega)
    obtain ⟨h1, h2, h3⟩ := down_heap (n := n0) _ (E := swapE E 0 n0) (Pl := swapP Pl E 0 n0) (i := 0) (Nat.le_refl _) (by omega) (by omega) hD
    rw [hpd]
    refine ⟨?_, h1, fun e => (h2 e).trans (mem_swap hs0 hE0 e)⟩
    by_cases hz : n0 = 0
    · subst hz
      rw [downR_eq, if_neg (by omega)]
      simp only
      rw [eAt_swap hs0 hE0, if_pos rfl]
    · rw [h3 n0 (Nat.le_refl _) (by omega), eAt_swap hs0 hE0, if_pos rfl]
  obtain ⟨l1, l2, l3⟩ := hlast
  have hr : (popR E Pl).2 = ((popD E Pl).1.1.take n0, (popD E Pl).1.2.set (eAt (popD E Pl).1.1 n0).1.toNat 0) := by unfold popR; rw [if_neg hn, hn0]; rfl
  have hr1 : (popR E Pl).2.1 = (popD E Pl).1.1.take n0 := by rw [hr]
  have hlen : (popR E Pl).2.1.length = n0 := by rw [hr1, List.length_take]; omega
  have htk : ∀ k, k < n0 → eAt ((popD E Pl).1.1.take n0) k = eAt (popD E Pl).1.1 k := fun k hk => by
    unfold eAt
    rw [List.getD_eq_getElem?_getD, List.getElem?_take, if_pos hk, List.getD_eq_getElem?_getD]
  refine ⟨⟨w1, ?_⟩, w2, by omega, fun x => ?_⟩
  · rw [hlen, hr1]
    intro k k1 k2
    rw [htk k k2, htk _ (by omega)]
    exact l2 k k1 k2
  · rw [hr1, mem_at]
    constructor
    · rintro ⟨k, hk, hx⟩
      rw [List.length_take] at hk
      have hk0 : k < n0 := by omega
      rw [htk k hk0] at hx
      refine ⟨(l3 x).1 (mem_at.2 ⟨k, by omega, hx⟩), fun he => ?_⟩
      have := d1.ne (eAt_get (E := (popD E Pl).1.1) (k := k) (by omega)) (eAt_get (E := (popD E Pl).1.1) (k := n0) (by omega)) (by omega)
      rw [hx, l1, he] at this
      exact this rfl
    · rintro ⟨hx, hne⟩
      obtain ⟨k, hk, hkx⟩ := mem_at.1 ((l3 x).2 hx)
      refine ⟨k, ?_, ?_⟩
      · rw [List.length_take]
        have : k ≠ n0 := fun hk0 => by
          subst hk0
          rw [l1] at hkx
          exact hne hkx.symm
        omega
      · rw [htk]
        · exact hkx
        · have : k ≠ n0 := fun hk0 => by
            subst hk0
            rw [l1] at hkx
            exact hne hkx.symm
          omega
end Go.Proofs.Ythocfeccinpbmaa

open Go Go.Am Go.Proofs
namespace Go.Proofs.Ythocfeccinpbmaa
set_option maxRecDepth 100000

theorem putQ {SP : Specs} {D : Nat → Door} {ids : List Nat} {looks : List (Option ABlk)} {p r e pl next n' m : Nat} {E E' : List En} {Pl Pl' : List Int} {id key : Int} {b : Bool} (hS : SP.calls 20 = some (gOf PD PR)) (hD : ∀ M : Mem, ids.map M.get = looks → QM M p r e pl E Pl) (hw : WF E Pl)
    (hR : putR E Pl id key = (b, (E', Pl'))) (hn : E'.length = n') (hm : Pl'.length = m) (h1 : p < next) (h2 : e < next) (h3 : pl < next) :
    (QV.mc 20 [pt p 0, i64 id, i64 key] looks next (.bool b) [(p, some (lineB r next pl n' m)), (e, none), (pl, some (own (ints Pl') 3 1))] [own (ents E') 43 2]).holds Try.prog SP D ids := by
  subst hn; subst hm
  refine qmc PD.inj hS (x := ⟨⟨p, r, e, pl, E, Pl⟩, id, key⟩) (fun M h _ => ⟨hD M h, rfl, hw⟩) (fun M hM => by simp only [PR, turned, hR, hM]) (fun a ha => ?_) (by simp)
  simp only [List.map_cons, List.map_nil, List.mem_cons, List.not_mem_nil, or_false] at ha
  rcases ha with rfl | rfl | rfl
  · exact h1
  · exact h2
  · exact h3
theorem popQ {SP : Specs} {D : Nat → Door} {ids : List Nat} {looks : List (Option ABlk)} {p r e pl next n' m : Nat} {E E' : List En} {Pl Pl' : List Int} {v : Value} (hS : SP.calls 16 = some (gOf OD OR)) (hD : ∀ M : Mem, ids.map M.get = looks → QM M p r e pl E Pl) (hw : WF E Pl)
    (hR : popR E Pl = (v, (E', Pl'))) (hn : E'.length = n') (hm : Pl'.length = m) (h1 : p < next) (h2 : e < next) (h3 : pl < next) :
    (QV.mc 16 [pt p 0] looks next v [(p, some (lineB r next pl n' m)), (e, none), (pl, some (own (ints Pl') 3 1))] [own (ents E') 43 2]).holds Try.prog SP D ids := by
  subst hn; subst hm
  refine qmc OD.inj hS (x := ⟨p, r, e, pl, E, Pl⟩) (fun M h _ => ⟨hD M h, rfl, hw⟩) (fun M hM => by simp only [OR, turned, hR, hM]) (fun a ha => ?_) (by simp)
  simp only [List.map_cons, List.map_nil, List.mem_cons, List.not_mem_nil, or_false] at ha
  rcases ha with rfl | rfl | rfl
  · exact h1
  · exact h2
  · exact h3

/- A queue, or one in which nothing was put yet. -/
structure QS where
  E : Option (List En)
  Pl : List Int
def QS.es (s : QS) : List En := s.E.getD []
def QS.Ok (s : QS) : Prop := QOk s.es s.Pl
def putS (s : QS) (id key : Int) : Bool × QS :=
  ((putR s.es s.Pl id key).1, ⟨if s.E.isSome || (putR s.es s.Pl id key).1 then some (putR s.es s.Pl id key).2.1 else none, (putR s.es s.Pl id key).2.2⟩)
def popS (s : QS) : Value × QS := ((popR s.es s.Pl).1, ⟨s.E.map fun _ => (popR s.es s.Pl).2.1, (popR s.es s.Pl).2.2⟩)
theorem putS_es (s : QS) (id key : Int) (h : s.Ok) : (putS s id key).2.es = (putR s.es s.Pl id key).2.1 := by
  unfold putS QS.es
  cases hE : s.E with
  | some E => simp
  | none =>
    cases hb : (putR s.es s.Pl id key).1 with
    | true => simp [QS.es, hE] at hb ⊢; simp [hb]
    | false =>
      have hno : ¬ puts s.es s.Pl.length id key := fun hp => by rw [(put_yes h hp).1] at hb; cases hb
      have := put_no h hno
      simp [QS.es, hE] at this ⊢
      simp [this]
theorem putS_yes {s : QS} (h : s.Ok) {id key : Int} (hp : puts s.es s.Pl.length id key) : (putS s id key).1 = true ∧ (putS s id key).2.Ok ∧ (putS s id key).2.Pl.length = s.Pl.length ∧ ∀ e, e ∈ (putS s id key).2.es ↔ e = (id, key) ∨ (e ∈ s.es ∧ e.1 ≠ id) := by
  obtain ⟨h1, h2, h3, h4⟩ := put_yes h hp
  refine ⟨h1, ?_, h3, ?_⟩
  · unfold QS.Ok
    rw [putS_es s id key h]; exact h2
  · rw [putS_es s id key h]; exact h4
theorem putS_no {s : QS} (h : s.Ok) {id key : Int} (hp : ¬ puts s.es s.Pl.length id key) : putS s id key = (false, s) := by
  have := put_no h hp
  unfold putS
  rw [this]
  obtain ⟨E, Pl⟩ := s
  cases E <;> rfl
theorem popS_none {s : QS} (h : s.es.length = 0) : popS s = (.tuple ⟨[i64 0, i64 0, .bool false]⟩, s) := by
  unfold popS
  rw [pop_none h]
  obtain ⟨E, Pl⟩ := s
  cases E <;> rfl
theorem popS_some {s : QS} (h : s.Ok) (hn : s.es.length ≠ 0) : ∃ e, e ∈ s.es ∧ (∀ x ∈ s.es, ¬ Lt x e) ∧ (popS s).1 = .tuple ⟨[i64 e.1, i64 e.2, .bool true]⟩ ∧ (popS s).2.Ok ∧ (popS s).2.Pl.length = s.Pl.length ∧ (popS s).2.es.length + 1 = s.es.length ∧ ∀ x, x ∈ (popS s).2.es ↔ x ∈ s.es ∧ x ≠ e := by
  obtain ⟨e, h1, h2, h3, h4, h5, h6, h7⟩ := pop_some h hn
  obtain ⟨E, Pl⟩ := s
  cases E with
  | none => exact absurd rfl hn
  | some E => exact ⟨e, h1, h2, h3, h4, h5, h6, h7⟩
theorem QS.new {m : Nat} (hm : m ≤ 2 ^ 30) : (⟨none, List.replicate m 0⟩ : QS).Ok := by
  refine ⟨⟨fun k e h => by simp [QS.es] at h, fun k e h => by simp [QS.es] at h, fun i z h => .inl ?_, by simpa using hm⟩, fun k _ h => by simp [QS.es] at h⟩
  rw [List.getElem?_replicate] at h
  split at h
  · cases h; rfl
  · cases h

/- Rows of bools. -/
def bools (l : List Bool) : List Value := l.map Value.bool
theorem bools_len (l : List Bool) : (bools l).length = l.length := by simp [bools]
theorem bools_flat : ∀ l : List Bool, flatL (bools l) = true
  | [] => rfl
  | _ :: l => by simp only [bools, List.map_cons, flatL, flat, Bool.true_and]; exact bools_flat l
theorem info4 : ∃ e, Try.prog.info? 4 = some e ∧ e.size = 1 := ⟨_, rfl, by kernel_rfl⟩
section
variable {SP : Specs} {D : Nat → Door} {ids : List Nat}
theorem ldB {l : List Bool} {k : Nat} {z : Bool} (h : l[k]? = some z) : (QV.ld 4 (0 + k * 1) (some (own (bools l) 4 1)) (.val (.bool z))).holds Try.prog SP D ids :=
  qld uBool rfl (by rw [Nat.zero_add, Nat.mul_one]; simp [bools, h])
theorem stB {l : List Bool} {k : Nat} {z : Bool} (h : k < l.length) : (QV.st 4 (0 + k * 1) (.bool z) (bools (l.set k z)) (own (bools l) 4 1)).holds Try.prog SP D ids := fun M id hM => by
  obtain ⟨i, h1, h2⟩ := info4
  exact st_ok h1 (by rw [h2]; rfl) rfl rfl (by rw [h2, bools_len]; omega) (by
    rw [Nat.zero_add, Nat.mul_one]
    have : bools (l.set k z) = (bools l).set k (.bool z) := by simp [bools, List.map_set]
    rw [this]
    exact splice_one _ _ _ (by rw [bools_len]; exact h)) M id hM
end
def lineN (r pl m : Nat) : ABlk := own [.iface 45 (.slice (some ⟨r, 0, none⟩) 2 3), .slice none 0 0, .slice (some ⟨pl, 0, none⟩) m (m + 1)] 52 3
end Go.Proofs.Ythocfeccinpbmaa
