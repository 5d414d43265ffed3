/-
  QueueSorts: whatever the two rows, the call returns true, and its arguments read as they did.
-/
import Derived.Test.YthocfeccinpbmaaGQD1
open Go Go.Am Go.Proofs
namespace Go.Proofs.Ythocfeccinpbmaa
set_option maxRecDepth 100000

/- What gives the entries a new place. -/
theorem moved {f : FuncId} {q : QX} {M : Mem} (h : q.At M) {args : List Value} {n : Nat} {SP : Specs} {args0 : List Value} {v : Value} {Ef : List En} {Pf : List Int} {M0 : Mem} {eid : Nat} {x : List Value} (he : eid = 2 ∨ eid = 6) (hS : ∀ B, SpecsOk Try.prog [] B SP)
    (hr : Go.Am.arun Try.prog [] SP n f args0 (startMem (small q.E q.Pl) 4) = some (v, M0)) (h0 : M0.get 0 = some (lineB 1 eid 3 Ef.length Pf.length)) (h2 : M0.get eid = some (own (ents Ef ++ x) 43 2)) (h3 : M0.get 3 = some (own (ints Pf) 3 1))
    (hl : ∀ t ∈ M0.log, t < 4 → t = 0 ∨ t = 2 ∨ t = 3) (ha : renL (mvIn 0 [q.p, q.r, q.e, q.pl]) args = some args0) (hv : flat v = true) (hx : flatL x = true) :
    ∃ src l n SP args0 v0 M0 keepJ newsS, FromMut Try.prog f args M v [(q.p, some (lineB q.r M.next q.pl Ef.length Pf.length)), (q.e, none), (q.pl, some (own (ints Pf) 3 1))] [own (ents Ef) 43 2] src l n SP args0 v0 M0 keepJ newsS := by
  have hnot : eid ∉ [0, 1, 3] := by rcases he with rfl | rfl <;> decide
  have hren : renL (mvOld [q.p, q.r, q.e, q.pl] [0, 1, 3] ++ mvNew M.next [eid]) (lineB 1 eid 3 Ef.length Pf.length).cs = some (lineB q.r M.next q.pl Ef.length Pf.length).cs := by
    rcases he with rfl | rfl <;> rfl
  refine ⟨[q.p, q.r, q.e, q.pl], small q.E q.Pl, n, SP, args0, v, M0, [0, 1, 3], [eid], hS, hr, h.dist, small_in h, ha, fun t ht hlt => ?_, small_lt h, fun a ha => ?_, fun j hj => ?_, fun a b hab => ?_, fun i b hb => ?_, rfl, rfl, fun s hs => ?_, renV_flat _ _ hv⟩
  · rcases hl t ht hlt with rfl | rfl | rfl
    · exact ⟨⟨(0, lineB 1 2 3 q.E.length q.Pl.length), by simp [small], rfl, .inl rfl⟩, q.p, rfl, by simp⟩
    · exact ⟨⟨(2, own (ents q.E) 43 2), by simp [small], rfl, .inl rfl⟩, q.e, rfl, by simp⟩
    · exact ⟨⟨(3, own (ints q.Pl) 3 1), by simp [small], rfl, .inl rfl⟩, q.pl, rfl, by simp⟩
  · simp only [List.map_cons, List.map_nil, List.mem_cons, List.not_mem_nil, or_false] at ha
    rcases ha with rfl | rfl | rfl
    · exact ⟨0, rfl⟩
    · exact ⟨2, rfl⟩
    · exact ⟨3, rfl⟩
  · simp only [List.mem_cons, List.not_mem_nil, or_false] at hj
    rcases hj with rfl | rfl | rfl <;> simp
  · simp only [List.mem_cons, List.not_mem_nil, or_false, Prod.mk.injEq, Option.some.injEq, reduceCtorEq, and_false, false_or] at hab
    rcases hab with ⟨rfl, rfl⟩ | ⟨rfl, rfl⟩
    · exact ⟨0, _, by simp, rfl, h0, ⟨[], by rw [List.append_nil]; exact hren⟩, rfl⟩
    · exact ⟨3, _, by simp, rfl, h3, ⟨[], by rw [List.append_nil]; exact renL_flat _ _ (ints_flat _)⟩, rfl⟩
  · cases i with
    | zero =>
      simp at hb
      subst hb
      have hf : flatL (ents Ef ++ x) = true := by
        have : ∀ a : List Value, flatL a = true → flatL (a ++ x) = true := by
          intro a
          induction a with
          | nil => intro _; exact hx
          | cons y a ih => intro hy; simp only [flatL, List.cons_append, Bool.and_eq_true] at hy ⊢; exact ⟨hy.1, ih hy.2⟩
        exact this _ (ents_flat _)
      exact ⟨eid, _, rfl, h2, ⟨x, renL_flat _ _ hf⟩, rfl⟩
    | succ i => simp at hb
  · rw [List.mem_singleton.1 hs]
    refine ⟨hnot, fun hlt => ?_⟩
    rcases he with rfl | rfl
    · exact ⟨q.e, rfl, by simp⟩
    · exact absurd hlt (by simp)

/- Putting, by itself. -/
def fixR (E : List En) (Pl : List Int) (k : Nat) : List En × List Int :=
  if (k : Int) < ((downR E.length E Pl k).2 : Int) then (downR E.length E Pl k).1 else upR (downR E.length E Pl k).1.1 (downR E.length E Pl k).1.2 k
def putR (E : List En) (Pl : List Int) (id key : Int) : Bool × (List En × List Int) :=
  if 0 ≤ id ∧ id < (Pl.length : Int) then
    if Pl.getD id.toNat 0 = 0 then (true, upR (E ++ [(id, key)]) (Pl.set id.toNat ((E.length + 1 : Nat) : Int)) E.length)
    else if (eAt E (Pl.getD id.toNat 0 - 1).toNat).2 ≤ key then (false, (E, Pl))
    else (true, fixR (E.set (Pl.getD id.toNat 0 - 1).toNat ((eAt E (Pl.getD id.toNat 0 - 1).toNat).1, key)) Pl (Pl.getD id.toNat 0 - 1).toNat)
  else (false, (E, Pl))

theorem WF.push {E : List En} {Pl : List Int} (h : WF E Pl) {id key : Int} (h0 : 0 ≤ id) (h1 : id < (Pl.length : Int)) (hz : Pl[id.toNat]? = some 0) : WF (E ++ [(id, key)]) (Pl.set id.toNat ((E.length + 1 : Nat) : Int)) := by
  have hne : ∀ (k : Nat) (e : En), E[k]? = some e → e.1 ≠ id := fun k e hk he => by
    have := h.at' k e hk
    rw [he, hz] at this
    have := Option.some.inj this
    omega
  refine ⟨fun k e hk => ?_, fun k e hk => ?_, fun i z hi => ?_, by rw [List.length_set]; exact h.big⟩
  · rw [List.length_set]
    rw [List.getElem?_append] at hk
    split at hk
    · exact h.lo k e hk
    · cases hh : k - E.length with
      | zero => rw [hh] at hk; simp at hk; subst hk; exact ⟨h0, h1⟩
      | succ n => rw [hh] at hk; simp at hk
  · rw [List.getElem?_append] at hk
    split at hk
    · have := hne k e hk
      have hl := h.lo k e hk
      exact get_set_miss (by omega) (h.at' k e hk)
    · rename_i hlt
      cases hh : k - E.length with
      | zero =>
        rw [hh] at hk; simp at hk; subst hk
        have : k = E.length := by omega
        subst this
        exact get_set_hit (by omega)
      | succ n => rw [hh] at hk; simp at hk
  · rw [List.getElem?_set] at hi
    split at hi
    · rename_i hx
      split at hi
      · cases hi
        refine .inr ⟨E.length, (id, key), by simp, by show id = _; omega, by omega⟩
      · cases hi
    · rcases h.no i z hi with h2 | ⟨k, e, k1, k2, k3⟩
      · exact .inl h2
      · refine .inr ⟨k, e, ?_, k2, k3⟩
        have : k < E.length := (List.getElem?_eq_some_iff.1 k1).1
        rw [List.getElem?_append_left this]; exact k1
theorem WF.key {E : List En} {Pl : List Int} (h : WF E Pl) {k : Nat} (hk : k < E.length) (key : Int) : WF (E.set k ((eAt E k).1, key)) Pl := by
  have hg : ∀ (j : Nat) (e : En), (E.set k ((eAt E k).1, key))[j]? = some e → ∃ e', E[j]? = some e' ∧ e'.1 = e.1 := fun j e hj => by
    rw [List.getElem?_set] at hj
    split at hj
    · rename_i hkj
      try rw [if_pos hk] at hj
      cases hj
      subst hkj
      exact ⟨_, eAt_get hk, rfl⟩
    · exact ⟨e, hj, rfl⟩
  refine ⟨fun j e hj => ?_, fun j e hj => ?_, fun i z hi => ?_, h.big⟩
  · obtain ⟨e', h1, h2⟩ := hg j e hj
    rw [← h2]; exact h.lo j e' h1
  · obtain ⟨e', h1, h2⟩ := hg j e hj
    rw [← h2]; exact h.at' j e' h1
  · rcases h.no i z hi with h2 | ⟨j, e, k1, k2, k3⟩
    · exact .inl h2
    · by_cases hjk : k = j
      · subst hjk
        rw [eAt_of k1]
        exact .inr ⟨k, (e.1, key), get_set_hit hk, k2, k3⟩
      · exact .inr ⟨j, e, get_set_miss hjk k1, k2, k3⟩
theorem WF.up {E : List En} {Pl : List Int} (h : WF E Pl) (j : Nat) (hj : j < E.length) : WF (upR E Pl j).1 (upR E Pl j).2 ∧ (upR E Pl j).1.length = E.length ∧ (upR E Pl j).2.length = Pl.length := by
  induction j using Nat.strongRecOn generalizing E Pl with
  | ind j ih =>
    rw [upR_eq]
    split
    · exact ⟨h, rfl, rfl⟩
    · split
      · obtain ⟨h1, h2, h3⟩ := ih ((j - 1) / 2) (by omega) (h.swap (i := (j - 1) / 2) (j := j) (by omega) hj (by omega)) (by rw [swapE_len]; omega)
        exact ⟨h1, by rw [h2, swapE_len], by rw [h3, swapP_len]⟩
      · exact ⟨h, rfl, rfl⟩
theorem WF.down {n1 : Nat} : ∀ (d : Nat) {E : List En} {Pl : List Int} {i : Nat}, n1 - i ≤ d → WF E Pl → n1 ≤ E.length → WF (downR n1 E Pl i).1.1 (downR n1 E Pl i).1.2 ∧ (downR n1 E Pl i).1.1.length = E.length ∧ (downR n1 E Pl i).1.2.length = Pl.length ∧ i ≤ (downR n1 E Pl i).2
  | d, E, Pl, i, hd, h, hn => by
    rw [downR_eq]
    split
    · rename_i hc
      have k1 := kid_gt E n1 i
      have k2 := kid_lt (E := E) hc
      split
      · cases d with
        | zero => omega
        | succ d =>
          obtain ⟨h1, h2, h3, h4⟩ := WF.down (n1 := n1) d (i := kid E n1 i) (by omega) (h.swap (i := i) (j := kid E n1 i) (by omega) (by omega) (by omega)) (by rw [swapE_len]; exact hn)
          exact ⟨h1, by rw [h2, swapE_len], by rw [h3, swapP_len], by omega⟩
      · exact ⟨h, rfl, rfl, Nat.le_refl _⟩
    · exact ⟨h, rfl, rfl, Nat.le_refl _⟩
theorem WF.fix {E : List En} {Pl : List Int} (h : WF E Pl) {k : Nat} (hk : k < E.length) : WF (fixR E Pl k).1 (fixR E Pl k).2 ∧ (fixR E Pl k).1.length = E.length ∧ (fixR E Pl k).2.length = Pl.length := by
  obtain ⟨h1, h2, h3, h4⟩ := WF.down (n1 := E.length) _ (i := k) (Nat.le_refl _) h (Nat.le_refl _)
  unfold fixR
  split
  · exact ⟨h1, h2, h3⟩
  · obtain ⟨k1, k2, k3⟩ := h1.up k (by rw [h2]; exact hk)
    exact ⟨k1, by rw [k2, h2], by rw [k3, h3]⟩
theorem WF.put {E : List En} {Pl : List Int} (h : WF E Pl) (id key : Int) : WF (putR E Pl id key).2.1 (putR E Pl id key).2.2 ∧ (putR E Pl id key).2.2.length = Pl.length := by
  unfold putR
  split
  · rename_i hin
    have hg : Pl[id.toNat]? = some (Pl.getD id.toNat 0) := by rw [List.getD_eq_getElem?_getD, List.getElem?_eq_getElem (by omega)]; rfl
    split
    · rename_i hz
      obtain ⟨h1, h2, h3⟩ := (h.push (key := key) hin.1 hin.2 (by rw [hg, hz])).up E.length (by simp)
      exact ⟨h1, by rw [h3, List.length_set]⟩
    · rename_i hz
      split
      · exact ⟨h, rfl⟩
      · rcases h.no _ _ hg with h2 | ⟨k, e, k1, k2, k3⟩
        · exact absurd h2 hz
        · have hk : k < E.length := (List.getElem?_eq_some_iff.1 k1).1
          rw [show (Pl.getD id.toNat 0 - 1).toNat = k by omega]
          obtain ⟨h1, _, h3⟩ := (h.key hk key).fix (k := k) (by rw [List.length_set]; exact hk)
          exact ⟨h1, h3⟩
  · exact ⟨h, rfl⟩
end Go.Proofs.Ythocfeccinpbmaa

open Go Go.Am Go.Proofs
namespace Go.Proofs.Ythocfeccinpbmaa
set_option maxRecDepth 100000

/- Put -/
noncomputable def B20 : Code := Try.f20.body.get!
theorem body20 : Try.f20.body = some B20 := by kernel_rfl
noncomputable def SP20 : Specs := specs [(32, gOf DD DR), (33, gOf UD UR)]
theorem specs20 (B : Nat) : SpecsOk Try.prog [] B SP20 := specs_ok fun p hp => by
  simp only [List.mem_cons, List.not_mem_nil, or_false] at hp
  rcases hp with rfl | rfl
  · exact ok32 B
  · exact ok33 B
noncomputable def run20 (ids : List Nat) (n m : Nat) (E : List En) (Pl : List Int) (id key : Int) (F : List Fact) :=
  (xexec Try.prog [] SP20 200 B20 ⟨initT [pt 0 0, i64 id, i64 key] 0 .nil, Try.f20.ntmps, startMem (smallN n m E Pl) 4⟩ F 0).map (fun r => (r.1.1, (r.1.2.M.log, ids.map r.1.2.M.get), aresults Try.prog Try.f20 r.1.2, r.2.2.2.map (view noDoors ids)))

theorem r200 (n m : Nat) (E : List En) (Pl : List Int) (id key : Int) (z : Int) (Ef : List En) (Pf : List Int) : run20 [0, 1, 6, 3] n m E Pl id key [tru 20, tru 22, tru 24, tru 26, tru 28, tru 30, tru 32, tru 35, fls 40, tru 69, tru 71, tru 73, tru 75, tru 77, tru 79, tru 81, tru 84, fls 91, fls 93, fls 95, fls 97, fls 99, fls 101, tru 102, fls 103, got 104 (i64 z), fls 105, fls 108, tru 109, ⟨176, .bool true, (6, .val (.tuple ⟨[.agg ⟨ents (E)⟩, .agg ⟨[(i64 id), (i64 key)]⟩]⟩), noMem)⟩, tru 206, onto 208 (ints ((Pl).set (id : Int).toNat (((n + 1 : Nat) : Int)))), mcl 232 (.tuple ⟨[]⟩) [(6, some ⟨ents (Ef), 43, 2, 0, true⟩), (3, some ⟨ints (Pf), 3, 1, 0, true⟩)] []] = some (.ret, ([3, 3, 0, 2], [some ⟨[(.iface 45 (.slice (some ⟨1, 0, none⟩) 2 3)), (.slice (some ⟨6, 0, none⟩) (n + 1) (n + 1)), (.slice (some ⟨3, 0, none⟩) m (m + 1))], 52, 3, 0, true⟩, some ⟨[(.func (.func 24) ⟨[]⟩ ⟨[]⟩), (.func (.func 25) ⟨[]⟩ ⟨[]⟩)], 41, 1, 0, true⟩, some ⟨ents (Ef), 43, 2, 0, true⟩, some ⟨ints (Pf), 3, 1, 0, true⟩]), some (.bool true), [.b (decide (id ≥ (0 : Int))) (.val (.bool true)), .b (decide (id ≥ (0 : Int))) (.val (.bool true)), .b (decide (id ≥ (0 : Int))) (.val (.bool true)), .b (decide (id ≥ (0 : Int))) (.val (.bool true)), .b (decide (id ≥ (0 : Int))) (.val (.bool true)), .b (decide (id ≥ (0 : Int))) (.val (.bool true)), .b (decide (id ≥ (0 : Int))) (.val (.bool true)), .b (decide (id ≥ (0 : Int))) (.val (.bool true)), .b (!(decide (id < (((m : Nat) : Int))))) (.val (.bool false)), .b (decide (id ≥ (0 : Int))) (.val (.bool true)), .b (decide (id ≥ (0 : Int))) (.val (.bool true)), .b (decide (id ≥ (0 : Int))) (.val (.bool true)), .b (decide (id ≥ (0 : Int))) (.val (.bool true)), .b (decide (id ≥ (0 : Int))) (.val (.bool true)), .b (decide (id ≥ (0 : Int))) (.val (.bool true)), .b (decide (id ≥ (0 : Int))) (.val (.bool true)), .b (decide (id ≥ (0 : Int))) (.val (.bool true)), .b (!(decide (id < (((m : Nat) : Int))))) (.val (.bool false)), .b (!(decide (id < (((m : Nat) : Int))))) (.val (.bool false)), .b (!(decide (id < (((m : Nat) : Int))))) (.val (.bool false)), .b (!(decide (id < (((m : Nat) : Int))))) (.val (.bool false)), .b (!(decide (id < (((m : Nat) : Int))))) (.val (.bool false)), .b (!(decide (id < (((m : Nat) : Int))))) (.val (.bool false)), .ib id m, .b (!(decide (id < (((m : Nat) : Int))))) (.val (.bool false)), .ld 3 (0 + (id : Int).toNat * 1) (some ⟨ints (Pl), 3, 1, 0, true⟩) (.val (i64 z)), .b (!(decide (id < (((m : Nat) : Int))))) (.val (.bool false)), .b (!(decide (id < (((m : Nat) : Int))))) (.val (.bool false)), .b (z == (0 : Int)) (.val (.bool true)), .ap2 6 [48, 48] (.slice (some ⟨2, 0, none⟩) n n) (.slice (some ⟨5, 0, none⟩) 1 2) (ents (E)) [(i64 id), (i64 key)] ⟨ents (E), 43, 2, 0, true⟩ (some ⟨[(i64 id), (i64 key)], 43, 2, 0, true⟩), .ib id m, .st 3 (0 + (id : Int).toNat * 1) (i64 (((n + 1 : Nat) : Int))) (ints ((Pl).set (id : Int).toNat (((n + 1 : Nat) : Int)))) ⟨ints (Pl), 3, 1, 0, true⟩, .mc 33 [(.iface 56 (pt 0 0)), (i64 (IntKind.wrap .i64 ((((n + 1 : Nat) : Int)) - (1 : Int))))] [some ⟨[(.iface 45 (.slice (some ⟨1, 0, none⟩) 2 3)), (.slice (some ⟨6, 0, none⟩) (n + 1) (n + 1)), (.slice (some ⟨3, 0, none⟩) m (m + 1))], 52, 3, 0, true⟩, some ⟨[(.func (.func 24) ⟨[]⟩ ⟨[]⟩), (.func (.func 25) ⟨[]⟩ ⟨[]⟩)], 41, 1, 0, true⟩, some ⟨(ents (E)) ++ [(i64 id), (i64 key)], 43, 2, 0, true⟩, some ⟨ints ((Pl).set (id : Int).toNat (((n + 1 : Nat) : Int))), 3, 1, 0, true⟩] 7 (.tuple ⟨[]⟩) [(6, some ⟨ents (Ef), 43, 2, 0, true⟩), (3, some ⟨ints (Pf), 3, 1, 0, true⟩)] []]) := by kernel_rfl
theorem r201 (n m : Nat) (E : List En) (Pl : List Int) (id key : Int) (z : Int) (a2 : Int) : run20 [0, 1, 2, 3] n m E Pl id key [tru 20, tru 22, tru 24, tru 26, tru 28, tru 30, tru 32, tru 35, fls 40, tru 69, tru 71, tru 73, tru 75, tru 77, tru 79, tru 81, tru 84, fls 91, fls 93, fls 95, fls 97, fls 99, fls 101, tru 102, fls 103, got 104 (i64 z), fls 105, fls 108, fls 109, tru 121, got 123 (i64 z), tru 158, got 162 (i64 a2), tru 167] = some (.ret, ([], [some ⟨[(.iface 45 (.slice (some ⟨1, 0, none⟩) 2 3)), (.slice (some ⟨2, 0, none⟩) n n), (.slice (some ⟨3, 0, none⟩) m (m + 1))], 52, 3, 0, true⟩, some ⟨[(.func (.func 24) ⟨[]⟩ ⟨[]⟩), (.func (.func 25) ⟨[]⟩ ⟨[]⟩)], 41, 1, 0, true⟩, some ⟨ents (E), 43, 2, 0, true⟩, some ⟨ints (Pl), 3, 1, 0, true⟩]), some (.bool false), [.b (decide (id ≥ (0 : Int))) (.val (.bool true)), .b (decide (id ≥ (0 : Int))) (.val (.bool true)), .b (decide (id ≥ (0 : Int))) (.val (.bool true)), .b (decide (id ≥ (0 : Int))) (.val (.bool true)), .b (decide (id ≥ (0 : Int))) (.val (.bool true)), .b (decide (id ≥ (0 : Int))) (.val (.bool true)), .b (decide (id ≥ (0 : Int))) (.val (.bool true)), .b (decide (id ≥ (0 : Int))) (.val (.bool true)), .b (!(decide (id < (((m : Nat) : Int))))) (.val (.bool false)), .b (decide (id ≥ (0 : Int))) (.val (.bool true)), .b (decide (id ≥ (0 : Int))) (.val (.bool true)), .b (decide (id ≥ (0 : Int))) (.val (.bool true)), .b (decide (id ≥ (0 : Int))) (.val (.bool true)), .b (decide (id ≥ (0 : Int))) (.val (.bool true)), .b (decide (id ≥ (0 : Int))) (.val (.bool true)), .b (decide (id ≥ (0 : Int))) (.val (.bool true)), .b (decide (id ≥ (0 : Int))) (.val (.bool true)), .b (!(decide (id < (((m : Nat) : Int))))) (.val (.bool false)), .b (!(decide (id < (((m : Nat) : Int))))) (.val (.bool false)), .b (!(decide (id < (((m : Nat) : Int))))) (.val (.bool false)), .b (!(decide (id < (((m : Nat) : Int))))) (.val (.bool false)), .b (!(decide (id < (((m : Nat) : Int))))) (.val (.bool false)), .b (!(decide (id < (((m : Nat) : Int))))) (.val (.bool false)), .ib id m, .b (!(decide (id < (((m : Nat) : Int))))) (.val (.bool false)), .ld 3 (0 + (id : Int).toNat * 1) (some ⟨ints (Pl), 3, 1, 0, true⟩) (.val (i64 z)), .b (!(decide (id < (((m : Nat) : Int))))) (.val (.bool false)), .b (!(decide (id < (((m : Nat) : Int))))) (.val (.bool false)), .b (z == (0 : Int)) (.val (.bool false)), .ib id m, .ld 3 (0 + (id : Int).toNat * 1) (some ⟨ints (Pl), 3, 1, 0, true⟩) (.val (i64 z)), .ib (IntKind.wrap .i64 (z - (1 : Int))) n, .ld 3 (0 + (IntKind.wrap .i64 (z - (1 : Int)) : Int).toNat * 2 + 1) (some ⟨ents (E), 43, 2, 0, true⟩) (.val (i64 a2)), .b (decide (a2 ≤ key)) (.val (.bool true))]) := by kernel_rfl
theorem r202 (n m : Nat) (E : List En) (Pl : List Int) (id key : Int) (z : Int) (a1 : Int) (a2 : Int) (Ed : List En) (Pd : List Int) : run20 [0, 1, 2, 3] n m E Pl id key [tru 20, tru 22, tru 24, tru 26, tru 28, tru 30, tru 32, tru 35, fls 40, tru 69, tru 71, tru 73, tru 75, tru 77, tru 79, tru 81, tru 84, fls 91, fls 93, fls 95, fls 97, fls 99, fls 101, tru 102, fls 103, got 104 (i64 z), fls 105, fls 108, fls 109, tru 121, got 123 (i64 z), tru 158, got 162 (i64 a2), fls 167, tru 183, onto 187 (ents ((E).set (IntKind.wrap .i64 (z - (1 : Int)) : Int).toNat (a1, key))), mcl 223 (.bool true) [(2, some ⟨ents (Ed), 43, 2, 0, true⟩), (3, some ⟨ints (Pd), 3, 1, 0, true⟩)] []] = some (.ret, ([2, 3, 2], [some ⟨[(.iface 45 (.slice (some ⟨1, 0, none⟩) 2 3)), (.slice (some ⟨2, 0, none⟩) n n), (.slice (some ⟨3, 0, none⟩) m (m + 1))], 52, 3, 0, true⟩, some ⟨[(.func (.func 24) ⟨[]⟩ ⟨[]⟩), (.func (.func 25) ⟨[]⟩ ⟨[]⟩)], 41, 1, 0, true⟩, some ⟨ents (Ed), 43, 2, 0, true⟩, some ⟨ints (Pd), 3, 1, 0, true⟩]), some (.bool true), [.b (decide (id ≥ (0 : Int))) (.val (.bool true)), .b (decide (id ≥ (0 : Int))) (.val (.bool true)), .b (decide (id ≥ (0 : Int))) (.val (.bool true)), .b (decide (id ≥ (0 : Int))) (.val (.bool true)), .b (decide (id ≥ (0 : Int))) (.val (.bool true)), .b (decide (id ≥ (0 : Int))) (.val (.bool true)), .b (decide (id ≥ (0 : Int))) (.val (.bool true)), .b (decide (id ≥ (0 : Int))) (.val (.bool true)), .b (!(decide (id < (((m : Nat) : Int))))) (.val (.bool false)), .b (decide (id ≥ (0 : Int))) (.val (.bool true)), .b (decide (id ≥ (0 : Int))) (.val (.bool true)), .b (decide (id ≥ (0 : Int))) (.val (.bool true)), .b (decide (id ≥ (0 : Int))) (.val (.bool true)), .b (decide (id ≥ (0 : Int))) (.val (.bool true)), .b (decide (id ≥ (0 : Int))) (.val (.bool true)), .b (decide (id ≥ (0 : Int))) (.val (.bool true)), .b (decide (id ≥ (0 : Int))) (.val (.bool true)), .b (!(decide (id < (((m : Nat) : Int))))) (.val (.bool false)), .b (!(decide (id < (((m : Nat) : Int))))) (.val (.bool false)), .b (!(decide (id < (((m : Nat) : Int))))) (.val (.bool false)), .b (!(decide (id < (((m : Nat) : Int))))) (.val (.bool false)), .b (!(decide (id < (((m : Nat) : Int))))) (.val (.bool false)), .b (!(decide (id < (((m : Nat) : Int))))) (.val (.bool false)), .ib id m, .b (!(decide (id < (((m : Nat) : Int))))) (.val (.bool false)), .ld 3 (0 + (id : Int).toNat * 1) (some ⟨ints (Pl), 3, 1, 0, true⟩) (.val (i64 z)), .b (!(decide (id < (((m : Nat) : Int))))) (.val (.bool false)), .b (!(decide (id < (((m : Nat) : Int))))) (.val (.bool false)), .b (z == (0 : Int)) (.val (.bool false)), .ib id m, .ld 3 (0 + (id : Int).toNat * 1) (some ⟨ints (Pl), 3, 1, 0, true⟩) (.val (i64 z)), .ib (IntKind.wrap .i64 (z - (1 : Int))) n, .ld 3 (0 + (IntKind.wrap .i64 (z - (1 : Int)) : Int).toNat * 2 + 1) (some ⟨ents (E), 43, 2, 0, true⟩) (.val (i64 a2)), .b (decide (a2 ≤ key)) (.val (.bool false)), .ib (IntKind.wrap .i64 (z - (1 : Int))) n, .st 3 (0 + (IntKind.wrap .i64 (z - (1 : Int)) : Int).toNat * 2 + 1) (i64 key) (ents ((E).set (IntKind.wrap .i64 (z - (1 : Int)) : Int).toNat (a1, key))) ⟨ents (E), 43, 2, 0, true⟩, .mc 32 [(.iface 56 (pt 0 0)), (i64 (IntKind.wrap .i64 (z - (1 : Int)))), (i64 (((n : Nat) : Int)))] [some ⟨[(.iface 45 (.slice (some ⟨1, 0, none⟩) 2 3)), (.slice (some ⟨2, 0, none⟩) n n), (.slice (some ⟨3, 0, none⟩) m (m + 1))], 52, 3, 0, true⟩, some ⟨[(.func (.func 24) ⟨[]⟩ ⟨[]⟩), (.func (.func 25) ⟨[]⟩ ⟨[]⟩)], 41, 1, 0, true⟩, some ⟨ents ((E).set (IntKind.wrap .i64 (z - (1 : Int)) : Int).toNat (a1, key)), 43, 2, 0, true⟩, some ⟨ints (Pl), 3, 1, 0, true⟩] 4 (.bool true) [(2, some ⟨ents (Ed), 43, 2, 0, true⟩), (3, some ⟨ints (Pd), 3, 1, 0, true⟩)] []]) := by kernel_rfl
theorem r203 (n m : Nat) (E : List En) (Pl : List Int) (id key : Int) (z : Int) (a1 : Int) (a2 : Int) (Ed : List En) (Pd : List Int) (Ef : List En) (Pf : List Int) : run20 [0, 1, 2, 3] n m E Pl id key [tru 20, tru 22, tru 24, tru 26, tru 28, tru 30, tru 32, tru 35, fls 40, tru 69, tru 71, tru 73, tru 75, tru 77, tru 79, tru 81, tru 84, fls 91, fls 93, fls 95, fls 97, fls 99, fls 101, tru 102, fls 103, got 104 (i64 z), fls 105, fls 108, fls 109, tru 121, got 123 (i64 z), tru 158, got 162 (i64 a2), fls 167, tru 183, onto 187 (ents ((E).set (IntKind.wrap .i64 (z - (1 : Int)) : Int).toNat (a1, key))), mcl 223 (.bool false) [(2, some ⟨ents (Ed), 43, 2, 0, true⟩), (3, some ⟨ints (Pd), 3, 1, 0, true⟩)] [], mcl 232 (.tuple ⟨[]⟩) [(2, some ⟨ents (Ef), 43, 2, 0, true⟩), (3, some ⟨ints (Pf), 3, 1, 0, true⟩)] []] = some (.ret, ([2, 3, 2, 3, 2], [some ⟨[(.iface 45 (.slice (some ⟨1, 0, none⟩) 2 3)), (.slice (some ⟨2, 0, none⟩) n n), (.slice (some ⟨3, 0, none⟩) m (m + 1))], 52, 3, 0, true⟩, some ⟨[(.func (.func 24) ⟨[]⟩ ⟨[]⟩), (.func (.func 25) ⟨[]⟩ ⟨[]⟩)], 41, 1, 0, true⟩, some ⟨ents (Ef), 43, 2, 0, true⟩, some ⟨ints (Pf), 3, 1, 0, true⟩]), some (.bool true), [.b (decide (id ≥ (0 : Int))) (.val (.bool true)), .b (decide (id ≥ (0 : Int))) (.val (.bool true)), .b (decide (id ≥ (0 : Int))) (.val (.bool true)), .b (decide (id ≥ (0 : Int))) (.val (.bool true)), .b (decide (id ≥ (0 : Int))) (.val (.bool true)), .b (decide (id ≥ (0 : Int))) (.val (.bool true)), .b (decide (id ≥ (0 : Int))) (.val (.bool true)), .b (decide (id ≥ (0 : Int))) (.val (.bool true)), .b (!(decide (id < (((m : Nat) : Int))))) (.val (.bool false)), .b (decide (id ≥ (0 : Int))) (.val (.bool true)), .b (decide (id ≥ (0 : Int))) (.val (.bool true)), .b (decide (id ≥ (0 : Int))) (.val (.bool true)), .b (decide (id ≥ (0 : Int))) (.val (.bool true)), .b (decide (id ≥ (0 : Int))) (.val (.bool true)), .b (decide (id ≥ (0 : Int))) (.val (.bool true)), .b (decide (id ≥ (0 : Int))) (.val (.bool true)), .b (decide (id ≥ (0 : Int))) (.val (.bool true)), .b (!(decide (id < (((m : Nat) : Int))))) (.val (.bool false)), .b (!(decide (id < (((m : Nat) : Int))))) (.val (.bool false)), .b (!(decide (id < (((m : Nat) : Int))))) (.val (.bool false)), .b (!(decide (id < (((m : Nat) : Int))))) (.val (.bool false)), .b (!(decide (id < (((m : Nat) : Int))))) (.val (.bool false)), .b (!(decide (id < (((m : Nat) : Int))))) (.val (.bool false)), .ib id m, .b (!(decide (id < (((m : Nat) : Int))))) (.val (.bool false)), .ld 3 (0 + (id : Int).toNat * 1) (some ⟨ints (Pl), 3, 1, 0, true⟩) (.val (i64 z)), .b (!(decide (id < (((m : Nat) : Int))))) (.val (.bool false)), .b (!(decide (id < (((m : Nat) : Int))))) (.val (.bool false)), .b (z == (0 : Int)) (.val (.bool false)), .ib id m, .ld 3 (0 + (id : Int).toNat * 1) (some ⟨ints (Pl), 3, 1, 0, true⟩) (.val (i64 z)), .ib (IntKind.wrap .i64 (z - (1 : Int))) n, .ld 3 (0 + (IntKind.wrap .i64 (z - (1 : Int)) : Int).toNat * 2 + 1) (some ⟨ents (E), 43, 2, 0, true⟩) (.val (i64 a2)), .b (decide (a2 ≤ key)) (.val (.bool false)), .ib (IntKind.wrap .i64 (z - (1 : Int))) n, .st 3 (0 + (IntKind.wrap .i64 (z - (1 : Int)) : Int).toNat * 2 + 1) (i64 key) (ents ((E).set (IntKind.wrap .i64 (z - (1 : Int)) : Int).toNat (a1, key))) ⟨ents (E), 43, 2, 0, true⟩, .mc 32 [(.iface 56 (pt 0 0)), (i64 (IntKind.wrap .i64 (z - (1 : Int)))), (i64 (((n : Nat) : Int)))] [some ⟨[(.iface 45 (.slice (some ⟨1, 0, none⟩) 2 3)), (.slice (some ⟨2, 0, none⟩) n n), (.slice (some ⟨3, 0, none⟩) m (m + 1))], 52, 3, 0, true⟩, some ⟨[(.func (.func 24) ⟨[]⟩ ⟨[]⟩), (.func (.func 25) ⟨[]⟩ ⟨[]⟩)], 41, 1, 0, true⟩, some ⟨ents ((E).set (IntKind.wrap .i64 (z - (1 : Int)) : Int).toNat (a1, key)), 43, 2, 0, true⟩, some ⟨ints (Pl), 3, 1, 0, true⟩] 4 (.bool false) [(2, some ⟨ents (Ed), 43, 2, 0, true⟩), (3, some ⟨ints (Pd), 3, 1, 0, true⟩)] [], .mc 33 [(.iface 56 (pt 0 0)), (i64 (IntKind.wrap .i64 (z - (1 : Int))))] [some ⟨[(.iface 45 (.slice (some ⟨1, 0, none⟩) 2 3)), (.slice (some ⟨2, 0, none⟩) n n), (.slice (some ⟨3, 0, none⟩) m (m + 1))], 52, 3, 0, true⟩, some ⟨[(.func (.func 24) ⟨[]⟩ ⟨[]⟩), (.func (.func 25) ⟨[]⟩ ⟨[]⟩)], 41, 1, 0, true⟩, some ⟨ents (Ed), 43, 2, 0, true⟩, some ⟨ints (Pd), 3, 1, 0, true⟩] 4 (.tuple ⟨[]⟩) [(2, some ⟨ents (Ef), 43, 2, 0, true⟩), (3, some ⟨ints (Pf), 3, 1, 0, true⟩)] []]) := by kernel_rfl
theorem r204 (n m : Nat) (E : List En) (Pl : List Int) (id key : Int) : run20 [0, 1, 2, 3] n m E Pl id key [tru 20, tru 22, tru 24, tru 26, tru 28, tru 30, tru 32, tru 35, tru 40] = some (.ret, ([], [some ⟨[(.iface 45 (.slice (some ⟨1, 0, none⟩) 2 3)), (.slice (some ⟨2, 0, none⟩) n n), (.slice (some ⟨3, 0, none⟩) m (m + 1))], 52, 3, 0, true⟩, some ⟨[(.func (.func 24) ⟨[]⟩ ⟨[]⟩), (.func (.func 25) ⟨[]⟩ ⟨[]⟩)], 41, 1, 0, true⟩, some ⟨ents (E), 43, 2, 0, true⟩, some ⟨ints (Pl), 3, 1, 0, true⟩]), some (.bool false), [.b (decide (id ≥ (0 : Int))) (.val (.bool true)), .b (decide (id ≥ (0 : Int))) (.val (.bool true)), .b (decide (id ≥ (0 : Int))) (.val (.bool true)), .b (decide (id ≥ (0 : Int))) (.val (.bool true)), .b (decide (id ≥ (0 : Int))) (.val (.bool true)), .b (decide (id ≥ (0 : Int))) (.val (.bool true)), .b (decide (id ≥ (0 : Int))) (.val (.bool true)), .b (decide (id ≥ (0 : Int))) (.val (.bool true)), .b (!(decide (id < (((m : Nat) : Int))))) (.val (.bool true))]) := by kernel_rfl
theorem r205 (n m : Nat) (E : List En) (Pl : List Int) (id key : Int) : run20 [0, 1, 2, 3] n m E Pl id key [fls 20, fls 22, fls 24, fls 26, fls 28, fls 30, fls 32, fls 35] = some (.ret, ([], [some ⟨[(.iface 45 (.slice (some ⟨1, 0, none⟩) 2 3)), (.slice (some ⟨2, 0, none⟩) n n), (.slice (some ⟨3, 0, none⟩) m (m + 1))], 52, 3, 0, true⟩, some ⟨[(.func (.func 24) ⟨[]⟩ ⟨[]⟩), (.func (.func 25) ⟨[]⟩ ⟨[]⟩)], 41, 1, 0, true⟩, some ⟨ents (E), 43, 2, 0, true⟩, some ⟨ints (Pl), 3, 1, 0, true⟩]), some (.bool false), [.b (decide (id ≥ (0 : Int))) (.val (.bool false)), .b (decide (id ≥ (0 : Int))) (.val (.bool false)), .b (decide (id ≥ (0 : Int))) (.val (.bool false)), .b (decide (id ≥ (0 : Int))) (.val (.bool false)), .b (decide (id ≥ (0 : Int))) (.val (.bool false)), .b (decide (id ≥ (0 : Int))) (.val (.bool false)), .b (decide (id ≥ (0 : Int))) (.val (.bool false)), .b (decide (id ≥ (0 : Int))) (.val (.bool false))]) := by kernel_rfl
end Go.Proofs.Ythocfeccinpbmaa
open Go Go.Am Go.Proofs
namespace Go.Proofs.Ythocfeccinpbmaa
set_option maxRecDepth 100000

theorem upQ {SP : Specs} {D : Nat → Door} {eid next n m : Nat} {E Ef : List En} {Pl Pf : List Int} {j : Nat} (hS : SP.calls 33 = some (gOf UD UR)) (hn : E.length = n) (hm : Pl.length = m) (hw : WF E Pl) (hj : j < n) (hd : Go.Am.distinct [0, 1, eid, 3] = true) (h1 : eid < next) (h3 : 3 < next)
    (hR : upR E Pl j = (Ef, Pf)) : (QV.mc 33 [.iface 56 (pt 0 0), i64 (j : Int)] [some (lineB 1 eid 3 n m), some (own fns 41 1), some (own (ents E) 43 2), some (own (ints Pl) 3 1)] next (.tuple #[]) [(eid, some (own (ents Ef) 43 2)), (3, some (own (ints Pf) 3 1))] []).holds Try.prog SP D [0, 1, eid, 3] := by
  subst hn; subst hm
  refine qmc UD.inj hS (x := ⟨⟨0, 1, eid, 3, E, Pl⟩, j⟩) (fun M h _ => ⟨QM.small E Pl hd h, rfl, hw, hj⟩) (fun M _ => by simp only [UR, hR]) (fun a ha => ?_) (by simp)
  simp only [List.map_cons, List.map_nil, List.mem_cons, List.not_mem_nil, or_false] at ha
  rcases ha with rfl | rfl
  · exact h1
  · exact h3
theorem downQ {SP : Specs} {D : Nat → Door} {eid next n m : Nat} {E Ed : List En} {Pl Pd : List Int} {i0 n1 fi : Nat} {b : Bool} (hS : SP.calls 32 = some (gOf DD DR)) (hn : E.length = n) (hm : Pl.length = m) (hw : WF E Pl) (hn1 : n1 ≤ n) (hi : i0 < n) (hd : Go.Am.distinct [0, 1, eid, 3] = true) (h1 : eid < next) (h3 : 3 < next)
    (hR : downR n1 E Pl i0 = ((Ed, Pd), fi)) (hb : decide ((fi : Int) > (i0 : Int)) = b) : (QV.mc 32 [.iface 56 (pt 0 0), i64 (i0 : Int), i64 (n1 : Int)] [some (lineB 1 eid 3 n m), some (own fns 41 1), some (own (ents E) 43 2), some (own (ints Pl) 3 1)] next (.bool b) [(eid, some (own (ents Ed) 43 2)), (3, some (own (ints Pd) 3 1))] []).holds Try.prog SP D [0, 1, eid, 3] := by
  subst hn; subst hm; subst hb
  refine qmc DD.inj hS (x := ⟨⟨0, 1, eid, 3, E, Pl⟩, i0, n1⟩) (fun M h _ => ⟨QM.small E Pl hd h, rfl, hw, hn1, hi⟩) (fun M _ => by simp only [DR, downOf, hR]) (fun a ha => ?_) (by simp)
  simp only [List.map_cons, List.map_nil, List.mem_cons, List.not_mem_nil, or_false] at ha
  rcases ha with rfl | rfl
  · exact h1
  · exact h3
theorem ents_snoc (E : List En) (a b : Int) : ents E ++ [i64 a, i64 b] = ents (E ++ [(a, b)]) := by rw [ents_append]; rfl
theorem info43' : ∃ e, Try.prog.info? 43 = some e ∧ e.size = 2 ∧ e.bytes ≤ 1024 ∧ zeroOk e = true := ⟨_, rfl, by kernel_rfl, of_decide_eq_true (by kernel_rfl), by kernel_rfl⟩
theorem apQ {SP : Specs} {D : Nat → Door} {ids : List Nat} {E : List En} {n xid : Nat} {a b : Int} (hn : E.length = n) (hb : n ≤ 2 ^ 30 - 1) : (QV.ap2 6 [48, 48] (.slice (some ⟨2, 0, none⟩) n n) (.slice (some ⟨xid, 0, none⟩) 1 2) (ents E) [i64 a, i64 b] (own (ents E) 43 2) (some (own [i64 a, i64 b] 43 2))).holds Try.prog SP D ids := by
  obtain ⟨e, h1, h2, h3, h4⟩ := info43'
  exact qap2 Try.underlying48 Try.underlying48 rfl h1 (takeN_all (by rw [ents_len, h2]; show E.length * 2 = n * 2; rw [hn])) (roomy_ok (by omega) h3 h4 (by omega)) rfl (by rw [h2]; rfl) (by rw [h2]) rfl rfl rfl (.inl ⟨rfl, by decide, rfl⟩) (by rw [h2]; rfl)
theorem arun20 (E : List En) (Pl : List Int) (id key : Int) (hw : WF E Pl) : ∃ (M0 : Mem) (eid : Nat), (eid = 2 ∨ eid = 6) ∧ Go.Am.arun Try.prog [] SP20 200 20 [pt 0 0, i64 id, i64 key] (startMem (small E Pl) 4) = some (.bool (putR E Pl id key).1, M0) ∧
    M0.get 0 = some (lineB 1 eid 3 (putR E Pl id key).2.1.length (putR E Pl id key).2.2.length) ∧ M0.get eid = some (own (ents (putR E Pl id key).2.1) 43 2) ∧ M0.get 3 = some (own (ints (putR E Pl id key).2.2) 3 1) ∧ ∀ t ∈ M0.log, t < 4 → t = 0 ∨ t = 2 ∨ t = 3 := by
  have hnt : Nat.ble 3 Try.f20.ntmps = true := by kernel_rfl
  obtain ⟨n, hn⟩ : ∃ n, E.length = n := ⟨_, rfl⟩
  obtain ⟨m, hm⟩ : ∃ m, Pl.length = m := ⟨_, rfl⟩
  have hbig := hw.big
  have hfew := hw.few
  have hsm : small E Pl = smallN n m E Pl := by subst hn; subst hm; rfl
  rw [hsm]
  unfold putR
  by_cases h0 : 0 ≤ id
  · by_cases h1 : id < (m : Int)
    · rw [if_pos ⟨h0, by omega⟩]
      obtain ⟨z, hzd⟩ : ∃ z, Pl.getD id.toNat 0 = z := ⟨_, rfl⟩
      have hz : Pl[id.toNat]? = some z := by rw [← hzd, List.getD_eq_getElem?_getD, List.getElem?_eq_getElem (by omega)]; rfl
      rw [hzd]
      by_cases hz0 : z = 0
      · subst hz0
        rw [if_pos rfl]
        have hw2 := hw.push (key := key) h0 (by omega) hz
        have hlt : n < m := by
          have := hw2.few
          rw [List.length_append, List.length_set] at this
          simp at this; omega
        have hj : IntKind.wrap .i64 ((((n + 1 : Nat) : Int)) - (1 : Int)) = ((n : Nat) : Int) := by rw [IntWalk.i64_in _ (by omega)]; omega
        obtain ⟨u1, u2, u3⟩ := hw2.up E.length (by simp)
        have h := r200 n m E Pl id key 0 (upR (E ++ [(id, key)]) (Pl.set id.toNat ((E.length + 1 : Nat) : Int)) E.length).1 (upR (E ++ [(id, key)]) (Pl.set id.toNat ((E.length + 1 : Nat) : Int)) E.length).2
        rw [hj, ents_snoc] at h
        unfold run20 at h
        obtain ⟨M0, k1, k2⟩ := xrun_of (look := fun M => (M.log, [0, 1, 6, 3].map M.get)) Try.func20 body20 (by exact hnt) h (.inr rfl) (hold_cons (qd (by omega)) (hold_cons (qd (by omega)) (hold_cons (qd (by omega)) (hold_cons (qd (by omega)) (hold_cons (qd (by omega)) (hold_cons (qd (by omega)) (hold_cons (qd (by omega)) (hold_cons (qd (by omega)) (hold_cons (qb (by simp <;> omega)) (hold_cons (qd (by omega)) (hold_cons (qd (by omega)) (hold_cons (qd (by omega)) (hold_cons (qd (by omega)) (hold_cons (qd (by omega)) (hold_cons (qd (by omega)) (hold_cons (qd (by omega)) (hold_cons (qd (by omega)) (hold_cons (qb (by simp <;> omega)) (hold_cons (qb (by simp <;> omega)) (hold_cons (qb (by simp <;> omega)) (hold_cons (qb (by simp <;> omega)) (hold_cons (qb (by simp <;> omega)) (hold_cons (qb (by simp <;> omega)) (hold_cons (qib (by omega)) (hold_cons (qb (by simp <;> omega)) (hold_cons (ldI hz) (hold_cons (qb (by simp <;> omega)) (hold_cons (qb (by simp <;> omega)) (hold_cons (qb (by simp <;> omega)) (hold_cons (apQ hn (by omega)) (hold_cons (qib (by omega)) (hold_cons (stI (by omega)) (hold_cons (upQ rfl (by simp [hn]) (by simp [hm]) (by rw [hn] at hw2; exact hw2) (by omega) rfl (by decide) (by decide) (by rw [hn])) hold_nil)))))))))))))))))))))))))))))))))
        simp only [List.map_cons, List.map_nil, Prod.mk.injEq, List.cons.injEq, and_true] at k2
        obtain ⟨q1, q2, q3, q4, q5⟩ := k2
        refine ⟨M0, 6, .inr rfl, k1, ?_, q4, q5, fun t ht _ => ?_⟩
        · rw [q2, u2, u3]
          simp [hn, hm]
          rfl
        · rw [q1] at ht
          simp only [List.mem_cons, List.not_mem_nil, or_false] at ht
          omega
      · rw [if_neg hz0]
        obtain ⟨k, e, g1, g2, g3⟩ := (hw.no _ _ hz).resolve_left hz0
        have hk : k < E.length := (List.getElem?_eq_some_iff.1 g1).1
        have hkk : (z - 1).toNat = k := by omega
        have ga := eAt_get hk
        have hp : IntKind.wrap .i64 (z - (1 : Int)) = ((k : Nat) : Int) := by rw [IntWalk.i64_in _ (by omega)]; omega
        rw [hkk]
        by_cases hle : (eAt E k).2 ≤ key
        · rw [if_pos hle]
          have h := r201 n m E Pl id key z (eAt E k).2
          simp only [hp, Int.toNat_natCast] at h
          unfold run20 at h
          obtain ⟨M0, k1, k2⟩ := xrun_of (look := fun M => (M.log, [0, 1, 2, 3].map M.get)) Try.func20 body20 (by exact hnt) h (.inr rfl) (hold_cons (qd (by omega)) (hold_cons (qd (by omega)) (hold_cons (qd (by omega)) (hold_cons (qd (by omega)) (hold_cons (qd (by omega)) (hold_cons (qd (by omega)) (hold_cons (qd (by omega)) (hold_cons (qd (by omega)) (hold_cons (qb (by simp <;> omega)) (hold_cons (qd (by omega)) (hold_cons (qd (by omega)) (hold_cons (qd (by omega)) (hold_cons (qd (by omega)) (hold_cons (qd (by omega)) (hold_cons (qd (by omega)) (hold_cons (qd (by omega)) (hold_cons (qd (by omega)) (hold_cons (qb (by simp <;> omega)) (hold_cons (qb (by simp <;> omega)) (hold_cons (qb (by simp <;> omega)) (hold_cons (qb (by simp <;> omega)) (hold_cons (qb (by simp <;> omega)) (hold_cons (qb (by simp <;> omega)) (hold_cons (qib (by omega)) (hold_cons (qb (by simp <;> omega)) (hold_cons (ldI hz) (hold_cons (qb (by simp <;> omega)) (hold_cons (qb (by simp <;> omega)) (hold_cons (qb (by simp <;> omega)) (hold_cons (qib (by omega)) (hold_cons (ldI hz) (hold_cons (qib (by omega)) (hold_cons (ldE1 ga) (hold_cons (qd (by omega)) hold_nil))))))))))))))))))))))))))))))))))
          simp only [List.map_cons, List.map_nil, Prod.mk.injEq, List.cons.injEq, and_true] at k2
          obtain ⟨q1, q2, q3, q4, q5⟩ := k2
          refine ⟨M0, 2, .inl rfl, k1, ?_, q4, q5, fun t ht _ => ?_⟩
          · rw [q2]; simp only [hn, hm]; rfl
          · rw [q1] at ht; cases ht
        · rw [if_neg hle]
          have hw2 := hw.key hk key
          obtain ⟨d1, d2, d3, d4⟩ := WF.down (n1 := n) _ (i := k) (Nat.le_refl _) hw2 (by rw [List.length_set, hn]; exact Nat.le_refl _)
          rw [List.length_set] at d2
          unfold fixR
          rw [List.length_set, hn]
          by_cases hmv : (k : Int) < ((downR n (E.set k ((eAt E k).1, key)) Pl k).2 : Int)
          · rw [if_pos hmv]
            have h := r202 n m E Pl id key z (eAt E k).1 (eAt E k).2 (downR n (E.set k ((eAt E k).1, key)) Pl k).1.1 (downR n (E.set k ((eAt E k).1, key)) Pl k).1.2
            simp only [hp, Int.toNat_natCast] at h
            unfold run20 at h
            obtain ⟨M0, k1, k2⟩ := xrun_of (look := fun M => (M.log, [0, 1, 2, 3].map M.get)) Try.func20 body20 (by exact hnt) h (.inr rfl) (hold_cons (qd (by omega)) (hold_cons (qd (by omega)) (hold_cons (qd (by omega)) (hold_cons (qd (by omega)) (hold_cons (qd (by omega)) (hold_cons (qd (by omega)) (hold_cons (qd (by omega)) (hold_cons (qd (by omega)) (hold_cons (qb (by simp <;> omega)) (hold_cons (qd (by omega)) (hold_cons (qd (by omega)) (hold_cons (qd (by omega)) (hold_cons (qd (by omega)) (hold_cons (qd (by omega)) (hold_cons (qd (by omega)) (hold_cons (qd (by omega)) (hold_cons (qd (by omega)) (hold_cons (qb (by simp <;> omega)) (hold_cons (qb (by simp <;> omega)) (hold_cons (qb (by simp <;> omega)) (hold_cons (qb (by simp <;> omega)) (hold_cons (qb (by simp <;> omega)) (hold_cons (qb (by simp <;> omega)) (hold_cons (qib (by omega)) (hold_cons (qb (by simp <;> omega)) (hold_cons (ldI hz) (hold_cons (qb (by simp <;> omega)) (hold_cons (qb (by simp <;> omega)) (hold_cons (qb (by simp <;> omega)) (hold_cons (qib (by omega)) (hold_cons (ldI hz) (hold_cons (qib (by omega)) (hold_cons (ldE1 ga) (hold_cons (qdn (by omega)) (hold_cons (qib (by omega)) (hold_cons (stE1 ga) (hold_cons (downQ rfl (by rw [List.length_set]; exact hn) hm hw2 (Nat.le_refl _) (by omega) rfl (by decide) (by decide) rfl (decide_eq_true hmv)) hold_nil)))))))))))))))))))))))))))))))))))))
            simp only [List.map_cons, List.map_nil, Prod.mk.injEq, List.cons.injEq, and_true] at k2
            obtain ⟨q1, q2, q3, q4, q5⟩ := k2
            refine ⟨M0, 2, .inl rfl, k1, ?_, q4, q5, fun t ht _ => ?_⟩
            · rw [q2, d2, d3, hn, hm]; rfl
            · rw [q1] at ht
              simp only [List.mem_cons, List.not_mem_nil, or_false] at ht
              omega
          · rw [if_neg hmv]
            obtain ⟨u1, u2, u3⟩ := d1.up k (by rw [d2]; exact hk)
            have h := r203 n m E Pl id key z (eAt E k).1 (eAt E k).2 (downR n (E.set k ((eAt E k).1, key)) Pl k).1.1 (downR n (E.set k ((eAt E k).1, key)) Pl k).1.2 (upR (downR n (E.set k ((eAt E k).1, key)) Pl k).1.1 (downR n (E.set k ((eAt E k).1, key)) Pl k).1.2 k).1 (upR (downR n (E.set k ((eAt E k).1, key)) Pl k).1.1 (downR n (E.set k ((eAt E k).1, key)) Pl k).1.2 k).2
            simp only [hp, Int.toNat_natCast] at h
            unfold run20 at h
            obtain ⟨M0, k1, k2⟩ := xrun_of (look := fun M => (M.log, [0, 1, 2, 3].map M.get)) Try.func20 body20 (by exact hnt) h (.inr rfl) (hold_cons (qd (by omega)) (hold_cons (qd (by omega)) (hold_cons (qd (by omega)) (hold_cons (qd (by omega)) (hold_cons (qd (by omega)) (hold_cons (qd (by omega)) (hold_cons (qd (by omega)) (hold_cons (qd (by omega)) (hold_cons (qb (by simp <;> omega)) (hold_cons (qd (by omega)) (hold_cons (qd (by omega)) (hold_cons (qd (by omega)) (hold_cons (qd (by omega)) (hold_cons (qd (by omega)) (hold_cons (qd (by omega)) (hold_cons (qd (by omega)) (hold_cons (qd (by omega)) (hold_cons (qb (by simp <;> omega)) (hold_cons (qb (by simp <;> omega)) (hold_cons (qb (by simp <;> omega)) (hold_cons (qb (by simp <;> omega)) (hold_cons (qb (by simp <;> omega)) (hold_cons (qb (by simp <;> omega)) (hold_cons (qib (by omega)) (hold_cons (qb (by simp <;> omega)) (hold_cons (ldI hz) (hold_cons (qb (by simp <;> omega)) (hold_cons (qb (by simp <;> omega)) (hold_cons (qb (by simp <;> omega)) (hold_cons (qib (by omega)) (hold_cons (ldI hz) (hold_cons (qib (by omega)) (hold_cons (ldE1 ga) (hold_cons (qdn (by omega)) (hold_cons (qib (by omega)) (hold_cons (stE1 ga) (hold_cons (downQ rfl (by rw [List.length_set]; exact hn) hm hw2 (Nat.le_refl _) (by omega) rfl (by decide) (by decide) rfl (decide_eq_false hmv)) (hold_cons (upQ rfl (by rw [d2]; exact hn) (by rw [d3]; exact hm) d1 (by omega) rfl (by decide) (by decide) rfl) hold_nil))))))))))))))))))))))))))))))))))))))
            simp only [List.map_cons, List.map_nil, Prod.mk.injEq, List.cons.injEq, and_true] at k2
            obtain ⟨q1, q2, q3, q4, q5⟩ := k2
            refine ⟨M0, 2, .inl rfl, k1, ?_, q4, q5, fun t ht _ => ?_⟩
            · rw [q2, u2, u3, d2, d3, hn, hm]; rfl
            · rw [q1] at ht
              simp only [List.mem_cons, List.not_mem_nil, or_false] at ht
              omega
    · rw [if_neg (by omega)]
      have h := r204 n m E Pl id key
      unfold run20 at h
      obtain ⟨M0, k1, k2⟩ := xrun_of (look := fun M => (M.log, [0, 1, 2, 3].map M.get)) Try.func20 body20 (by exact hnt) h (.inr rfl) (hold_cons (qd (by omega)) (hold_cons (qd (by omega)) (hold_cons (qd (by omega)) (hold_cons (qd (by omega)) (hold_cons (qd (by omega)) (hold_cons (qd (by omega)) (hold_cons (qd (by omega)) (hold_cons (qd (by omega)) (hold_cons (qb (by simp <;> omega)) hold_nil)))))))))
      simp only [List.map_cons, List.map_nil, Prod.mk.injEq, List.cons.injEq, and_true] at k2
      obtain ⟨q1, q2, q3, q4, q5⟩ := k2
      refine ⟨M0, 2, .inl rfl, k1, ?_, q4, q5, fun t ht _ => ?_⟩
      · rw [q2]; simp only [hn, hm]; rfl
      · rw [q1] at ht; cases ht
  · rw [if_neg (by omega)]
    have h := r205 n m E Pl id key
    unfold run20 at h
    obtain ⟨M0, k1, k2⟩ := xrun_of (look := fun M => (M.log, [0, 1, 2, 3].map M.get)) Try.func20 body20 (by exact hnt) h (.inr rfl) (hold_cons (qdn (by omega)) (hold_cons (qdn (by omega)) (hold_cons (qdn (by omega)) (hold_cons (qdn (by omega)) (hold_cons (qdn (by omega)) (hold_cons (qdn (by omega)) (hold_cons (qdn (by omega)) (hold_cons (qdn (by omega)) hold_nil))))))))
    simp only [List.map_cons, List.map_nil, Prod.mk.injEq, List.cons.injEq, and_true] at k2
    obtain ⟨q1, q2, q3, q4, q5⟩ := k2
    refine ⟨M0, 2, .inl rfl, k1, ?_, q4, q5, fun t ht _ => ?_⟩
    · rw [q2]; simp only [hn, hm]; rfl
    · rw [q1] at ht; cases ht

structure PX where
  q : QX
  id : Int
  key : Int
def PD (x : PX) (args : List Value) (M : Mem) : Prop := x.q.At M ∧ args = [pt x.q.p 0, i64 x.id, i64 x.key] ∧ WF x.q.E x.q.Pl
def turned (q : QX) (M : Mem) (E : List En) (Pl : List Int) : List (Nat × Option ABlk) × List ABlk :=
  ([(q.p, some (lineB q.r M.next q.pl E.length Pl.length)), (q.e, none), (q.pl, some (own (ints Pl) 3 1))], [own (ents E) 43 2])
def PR (x : PX) (M : Mem) : Value × List (Nat × Option ABlk) × List ABlk := (.bool (putR x.q.E x.q.Pl x.id x.key).1, turned x.q M (putR x.q.E x.q.Pl x.id x.key).2.1 (putR x.q.E x.q.Pl x.id x.key).2.2)
theorem PD.inj : ∀ args M (x y : PX), PD x args M → PD y args M → x = y := fun args M x y ⟨h1, h2, _⟩ ⟨k1, k2, _⟩ => by
  subst h2
  obtain ⟨q, i0, n1⟩ := x
  obtain ⟨q', i0', n1'⟩ := y
  simp only [List.cons.injEq, Value.pointer.injEq, Option.some.injEq, Addr.mk.injEq, Value.int.injEq, and_true, true_and] at k2
  obtain ⟨e1, e2, e3⟩ := k2
  obtain rfl := QX.inj e1 h1 k1
  subst e2; subst e3; rfl
theorem ok20 (B : Nat) : SpecOk Try.prog [] B 20 (gOf PD PR) := SpecOk.gOf noNumP mixedP fun x args M h => by
  obtain ⟨⟨q, id, key⟩, rfl⟩ : ∃ y, x = y := ⟨x, rfl⟩
  obtain ⟨h1, rfl, h3⟩ := h
  simp only at h1 h3
  obtain ⟨M0, eid, he, k1, k2, k3, k4, k5⟩ := arun20 q.E q.Pl id key h3
  have t0 : toTgt (mvIn 0 [q.p, q.r, q.e, q.pl]) q.p = some 0 := toTgt_in (t := 0) h1.dist rfl
  exact moved (x := []) h1 he specs20 k1 k2 (by rw [List.append_nil]; exact k3) k4 k5 (by simp only [renL, renV, renAddr, t0, leaf, cond_true]) rfl rfl
end Go.Proofs.Ythocfeccinpbmaa
