/-
  QueueSorts: whatever the two rows, the call returns true, and its arguments read as they did.
-/
import Derived.Test.YthocfeccinpbmaaGQP0
open Go Go.Am Go.Proofs
namespace Go.Proofs.Ythocfeccinpbmaa
set_option maxRecDepth 100000

/- Pop -/
noncomputable def B16 : Code := Try.f16.body.get!
theorem body16 : Try.f16.body = some B16 := by kernel_rfl
noncomputable def SP16 : Specs := specs [(32, gOf DD DR)]
theorem specs16 (B : Nat) : SpecsOk Try.prog [] B SP16 := specs_ok fun p hp => by
  rw [List.mem_singleton.1 hp]; exact ok32 B
noncomputable def run16 (n m : Nat) (E : List En) (Pl : List Int) (F : List Fact) :=
  (xexec Try.prog [] SP16 200 B16 ⟨initT [pt 0 0] 0 .nil, Try.f16.ntmps, startMem (smallN n m E Pl) 4⟩ F 0).map (fun r => (r.1.1, (r.1.2.M.log, [0, 1, 2, 3].map r.1.2.M.get), aresults Try.prog Try.f16 r.1.2, r.2.2.2.map (view noDoors [0, 1, 2, 3])))

theorem r16_one (m : Nat) (E : List En) (Pl : List Int) (a1 : Int) (a2 : Int) (e1 : Int) (e2 : Int) (fb : Bool) (Ed : List En) (Pd : List Int) : run16 1 m E Pl [got 52 (.agg ⟨[(i64 a1), (i64 a2)]⟩), got 130 (.agg ⟨[(i64 a1), (i64 a2)]⟩), got 144 (.agg ⟨[(i64 a1), (i64 a2)]⟩), onto 148 (ents ((E).set 0 (a1, a2))), onto 152 (ents (((E).set 0 (a1, a2)).set 0 (a1, a2))), got 176 (i64 a1), tru 182, onto 184 (ints ((Pl).set (a1 : Int).toNat 1)), got 208 (i64 a1), tru 214, onto 216 (ints (((Pl).set (a1 : Int).toNat 1).set (a1 : Int).toNat 1)), mcl 222 (.bool fb) [(2, some ⟨ents (Ed), 43, 2, 0, true⟩), (3, some ⟨ints (Pd), 3, 1, 0, true⟩)] [], got 256 (.agg ⟨[(i64 e1), (i64 e2)]⟩), tru 294, onto 296 (ints ((Pd).set (e1 : Int).toNat 0))] = some (.ret, ([3, 0, 2, 3, 3, 3, 2, 2, 4], [some ⟨[(.iface 45 (.slice (some ⟨1, 0, none⟩) 2 3)), (.slice (some ⟨2, 0, none⟩) 0 0), (.slice (some ⟨3, 0, none⟩) m (m + 1))], 52, 3, 0, true⟩, some ⟨[(.func (.func 24) ⟨[]⟩ ⟨[]⟩), (.func (.func 25) ⟨[]⟩ ⟨[]⟩)], 41, 1, 0, true⟩, some ⟨ents (Ed), 43, 2, 0, true⟩, some ⟨ints ((Pd).set (e1 : Int).toNat 0), 3, 1, 0, true⟩]), some (.tuple ⟨[(i64 a1), (i64 a2), (.bool true)]⟩), [.ld 43 (0) (some ⟨ents (E), 43, 2, 0, true⟩) (.val (.agg ⟨[(i64 a1), (i64 a2)]⟩)), .ld 43 (0) (some ⟨ents (E), 43, 2, 0, true⟩) (.val (.agg ⟨[(i64 a1), (i64 a2)]⟩)), .ld 43 (0) (some ⟨ents (E), 43, 2, 0, true⟩) (.val (.agg ⟨[(i64 a1), (i64 a2)]⟩)), .st 43 (0) (.agg ⟨[(i64 a1), (i64 a2)]⟩) (ents ((E).set 0 (a1, a2))) ⟨ents (E), 43, 2, 0, true⟩, .st 43 (0) (.agg ⟨[(i64 a1), (i64 a2)]⟩) (ents (((E).set 0 (a1, a2)).set 0 (a1, a2))) ⟨ents ((E).set 0 (a1, a2)), 43, 2, 0, true⟩, .ld 3 (0) (some ⟨ents (((E).set 0 (a1, a2)).set 0 (a1, a2)), 43, 2, 0, true⟩) (.val (i64 a1)), .ib a1 m, .st 3 (0 + (a1 : Int).toNat * 1) (i64 1) (ints ((Pl).set (a1 : Int).toNat 1)) ⟨ints (Pl), 3, 1, 0, true⟩, .ld 3 (0) (some ⟨ents (((E).set 0 (a1, a2)).set 0 (a1, a2)), 43, 2, 0, true⟩) (.val (i64 a1)), .ib a1 m, .st 3 (0 + (a1 : Int).toNat * 1) (i64 1) (ints (((Pl).set (a1 : Int).toNat 1).set (a1 : Int).toNat 1)) ⟨ints ((Pl).set (a1 : Int).toNat 1), 3, 1, 0, true⟩, .mc 32 [(.iface 56 (pt 0 0)), (i64 0), (i64 0)] [some ⟨[(.iface 45 (.slice (some ⟨1, 0, none⟩) 2 3)), (.slice (some ⟨2, 0, none⟩) 1 1), (.slice (some ⟨3, 0, none⟩) m (m + 1))], 52, 3, 0, true⟩, some ⟨[(.func (.func 24) ⟨[]⟩ ⟨[]⟩), (.func (.func 25) ⟨[]⟩ ⟨[]⟩)], 41, 1, 0, true⟩, some ⟨ents (((E).set 0 (a1, a2)).set 0 (a1, a2)), 43, 2, 0, true⟩, some ⟨ints (((Pl).set (a1 : Int).toNat 1).set (a1 : Int).toNat 1), 3, 1, 0, true⟩] 5 (.bool fb) [(2, some ⟨ents (Ed), 43, 2, 0, true⟩), (3, some ⟨ints (Pd), 3, 1, 0, true⟩)] [], .ld 43 (0) (some ⟨ents (Ed), 43, 2, 0, true⟩) (.val (.agg ⟨[(i64 e1), (i64 e2)]⟩)), .ib e1 m, .st 3 (0 + (e1 : Int).toNat * 1) (i64 0) (ints ((Pd).set (e1 : Int).toNat 0)) ⟨ints (Pd), 3, 1, 0, true⟩]) := by kernel_rfl
theorem r16_more (m : Nat) (E : List En) (Pl : List Int) (n0 : Nat) (a1 : Int) (a2 : Int) (b1 : Int) (b2 : Int) (e1 : Int) (e2 : Int) (fb : Bool) (Ed : List En) (Pd : List Int) : run16 (n0 + 1) m E Pl [fls 38, tru 50, got 52 (.agg ⟨[(i64 a1), (i64 a2)]⟩), tru 128, got 130 (.agg ⟨[(i64 b1), (i64 b2)]⟩), tru 142, got 144 (.agg ⟨[(i64 a1), (i64 a2)]⟩), tru 146, onto 148 (ents ((E).set (0 : Int).toNat (b1, b2))), tru 150, onto 152 (ents (((E).set (0 : Int).toNat (b1, b2)).set (IntKind.wrap .i64 ((((n0 + 1 : Nat) : Int)) - (1 : Int)) : Int).toNat (a1, a2))), tru 172, got 176 (i64 b1), tru 182, onto 184 (ints ((Pl).set (b1 : Int).toNat 1)), tru 204, got 208 (i64 a1), tru 214, onto 216 (ints (((Pl).set (b1 : Int).toNat 1).set (a1 : Int).toNat (IntKind.wrap .i64 ((IntKind.wrap .i64 ((((n0 + 1 : Nat) : Int)) - (1 : Int))) + (1 : Int))))), mcl 222 (.bool fb) [(2, some ⟨ents (Ed), 43, 2, 0, true⟩), (3, some ⟨ints (Pd), 3, 1, 0, true⟩)] [], tru 254, got 256 (.agg ⟨[(i64 e1), (i64 e2)]⟩), got 274 (.slice (some ⟨2, 0, none⟩) n0 n0), tru 294, onto 296 (ints ((Pd).set (e1 : Int).toNat 0))] = some (.ret, ([3, 0, 2, 3, 3, 3, 2, 2, 4], [some ⟨[(.iface 45 (.slice (some ⟨1, 0, none⟩) 2 3)), (.slice (some ⟨2, 0, none⟩) n0 n0), (.slice (some ⟨3, 0, none⟩) m (m + 1))], 52, 3, 0, true⟩, some ⟨[(.func (.func 24) ⟨[]⟩ ⟨[]⟩), (.func (.func 25) ⟨[]⟩ ⟨[]⟩)], 41, 1, 0, true⟩, some ⟨ents (Ed), 43, 2, 0, true⟩, some ⟨ints ((Pd).set (e1 : Int).toNat 0), 3, 1, 0, true⟩]), some (.tuple ⟨[(i64 a1), (i64 a2), (.bool true)]⟩), [.b ((((n0 + 1 : Nat) : Int)) == (0 : Int)) (.val (.bool false)), .ib 0 (n0 + 1), .ld 43 (0 + (0 : Int).toNat * 2) (some ⟨ents (E), 43, 2, 0, true⟩) (.val (.agg ⟨[(i64 a1), (i64 a2)]⟩)), .ib (IntKind.wrap .i64 ((((n0 + 1 : Nat) : Int)) - (1 : Int))) (n0 + 1), .ld 43 (0 + (IntKind.wrap .i64 ((((n0 + 1 : Nat) : Int)) - (1 : Int)) : Int).toNat * 2) (some ⟨ents (E), 43, 2, 0, true⟩) (.val (.agg ⟨[(i64 b1), (i64 b2)]⟩)), .ib 0 (n0 + 1), .ld 43 (0 + (0 : Int).toNat * 2) (some ⟨ents (E), 43, 2, 0, true⟩) (.val (.agg ⟨[(i64 a1), (i64 a2)]⟩)), .ib 0 (n0 + 1), .st 43 (0 + (0 : Int).toNat * 2) (.agg ⟨[(i64 b1), (i64 b2)]⟩) (ents ((E).set (0 : Int).toNat (b1, b2))) ⟨ents (E), 43, 2, 0, true⟩, .ib (IntKind.wrap .i64 ((((n0 + 1 : Nat) : Int)) - (1 : Int))) (n0 + 1), .st 43 (0 + (IntKind.wrap .i64 ((((n0 + 1 : Nat) : Int)) - (1 : Int)) : Int).toNat * 2) (.agg ⟨[(i64 a1), (i64 a2)]⟩) (ents (((E).set (0 : Int).toNat (b1, b2)).set (IntKind.wrap .i64 ((((n0 + 1 : Nat) : Int)) - (1 : Int)) : Int).toNat (a1, a2))) ⟨ents ((E).set (0 : Int).toNat (b1, b2)), 43, 2, 0, true⟩, .ib 0 (n0 + 1), .ld 3 (0 + (0 : Int).toNat * 2) (some ⟨ents (((E).set (0 : Int).toNat (b1, b2)).set (IntKind.wrap .i64 ((((n0 + 1 : Nat) : Int)) - (1 : Int)) : Int).toNat (a1, a2)), 43, 2, 0, true⟩) (.val (i64 b1)), .ib b1 m, .st 3 (0 + (b1 : Int).toNat * 1) (i64 1) (ints ((Pl).set (b1 : Int).toNat 1)) ⟨ints (Pl), 3, 1, 0, true⟩, .ib (IntKind.wrap .i64 ((((n0 + 1 : Nat) : Int)) - (1 : Int))) (n0 + 1), .ld 3 (0 + (IntKind.wrap .i64 ((((n0 + 1 : Nat) : Int)) - (1 : Int)) : Int).toNat * 2) (some ⟨ents (((E).set (0 : Int).toNat (b1, b2)).set (IntKind.wrap .i64 ((((n0 + 1 : Nat) : Int)) - (1 : Int)) : Int).toNat (a1, a2)), 43, 2, 0, true⟩) (.val (i64 a1)), .ib a1 m, .st 3 (0 + (a1 : Int).toNat * 1) (i64 (IntKind.wrap .i64 ((IntKind.wrap .i64 ((((n0 + 1 : Nat) : Int)) - (1 : Int))) + (1 : Int)))) (ints (((Pl).set (b1 : Int).toNat 1).set (a1 : Int).toNat (IntKind.wrap .i64 ((IntKind.wrap .i64 ((((n0 + 1 : Nat) : Int)) - (1 : Int))) + (1 : Int))))) ⟨ints ((Pl).set (b1 : Int).toNat 1), 3, 1, 0, true⟩, .mc 32 [(.iface 56 (pt 0 0)), (i64 0), (i64 (IntKind.wrap .i64 ((((n0 + 1 : Nat) : Int)) - (1 : Int))))] [some ⟨[(.iface 45 (.slice (some ⟨1, 0, none⟩) 2 3)), (.slice (some ⟨2, 0, none⟩) (n0 + 1) (n0 + 1)), (.slice (some ⟨3, 0, none⟩) m (m + 1))], 52, 3, 0, true⟩, some ⟨[(.func (.func 24) ⟨[]⟩ ⟨[]⟩), (.func (.func 25) ⟨[]⟩ ⟨[]⟩)], 41, 1, 0, true⟩, some ⟨ents (((E).set (0 : Int).toNat (b1, b2)).set (IntKind.wrap .i64 ((((n0 + 1 : Nat) : Int)) - (1 : Int)) : Int).toNat (a1, a2)), 43, 2, 0, true⟩, some ⟨ints (((Pl).set (b1 : Int).toNat 1).set (a1 : Int).toNat (IntKind.wrap .i64 ((IntKind.wrap .i64 ((((n0 + 1 : Nat) : Int)) - (1 : Int))) + (1 : Int)))), 3, 1, 0, true⟩] 5 (.bool fb) [(2, some ⟨ents (Ed), 43, 2, 0, true⟩), (3, some ⟨ints (Pd), 3, 1, 0, true⟩)] [], .ib (IntKind.wrap .i64 ((((n0 + 1 : Nat) : Int)) - (1 : Int))) (n0 + 1), .ld 43 (0 + (IntKind.wrap .i64 ((((n0 + 1 : Nat) : Int)) - (1 : Int)) : Int).toNat * 2) (some ⟨ents (Ed), 43, 2, 0, true⟩) (.val (.agg ⟨[(i64 e1), (i64 e2)]⟩)), .sl 48 (.slice (some ⟨2, 0, none⟩) (n0 + 1) (n0 + 1)) none (some (i64 (IntKind.wrap .i64 ((((n0 + 1 : Nat) : Int)) - (1 : Int))))) none (some ⟨ents (Ed), 43, 2, 0, true⟩) (.val (.slice (some ⟨2, 0, none⟩) n0 n0)), .ib e1 m, .st 3 (0 + (e1 : Int).toNat * 1) (i64 0) (ints ((Pd).set (e1 : Int).toNat 0)) ⟨ints (Pd), 3, 1, 0, true⟩]) := by kernel_rfl
theorem r16_none (m : Nat) (E : List En) (Pl : List Int) : run16 0 m E Pl [] = some (.ret, ([], [some ⟨[(.iface 45 (.slice (some ⟨1, 0, none⟩) 2 3)), (.slice (some ⟨2, 0, none⟩) 0 0), (.slice (some ⟨3, 0, none⟩) m (m + 1))], 52, 3, 0, true⟩, some ⟨[(.func (.func 24) ⟨[]⟩ ⟨[]⟩), (.func (.func 25) ⟨[]⟩ ⟨[]⟩)], 41, 1, 0, true⟩, some ⟨ents (E), 43, 2, 0, true⟩, some ⟨ints (Pl), 3, 1, 0, true⟩]), some (.tuple ⟨[(i64 0), (i64 0), (.bool false)]⟩), []) := by kernel_rfl
end Go.Proofs.Ythocfeccinpbmaa
open Go Go.Am Go.Proofs
namespace Go.Proofs.Ythocfeccinpbmaa
set_option maxRecDepth 100000

theorem slQ {SP : Specs} {D : Nat → Door} {ids : List Nat} {cs : List Value} {n0 : Nat} : (QV.sl 48 (.slice (some ⟨2, 0, none⟩) (n0 + 1) (n0 + 1)) none (some (i64 (n0 : Int))) none (some (own cs 43 2)) (.val (.slice (some ⟨2, 0, none⟩) n0 n0))).holds Try.prog SP D ids := fun M hM => by
  refine ⟨_, rfl, ?_⟩
  obtain ⟨e, h1, h2⟩ := info43
  have hg : M.get 2 = some (own cs 43 2) := hM
  have b1 : (decide ((0 : Int) ≤ (n0 : Int)) && decide ((n0 : Int) ≤ ((n0 + 1 : Nat) : Int))) = true := by simp only [Bool.and_eq_true, decide_eq_true_eq]; omega
  have b2 : (decide ((0 : Int) ≤ ((0 : Nat) : Int)) && decide (((0 : Nat) : Int) ≤ (n0 : Int))) = true := by simp only [Bool.and_eq_true, decide_eq_true_eq]; omega
  have b3 : Nat.beq n0 (n0 + 1) = false := by
    cases hb : Nat.beq n0 (n0 + 1)
    · rfl
    · exact absurd (Nat.eq_of_beq_eq_true hb) (by omega)
  have b4 : Nat.beq 2 e.size = true := by rw [h2]; rfl
  unfold aslice
  simp only [Try.underlying48, h1, hg, abound, b1, Int.toNat_natCast, b4, b3, Option.isSome_none, Bool.false_and, Bool.false_or, cond_false, cond_true, Nat.sub_zero, Nat.zero_mul]
  rfl
theorem WF.swap0 {E : List En} {Pl : List Int} (h : WF E Pl) (h1 : E.length = 1) : swapE E 0 0 = E ∧ swapP Pl E 0 0 = Pl := by
  have ga := eAt_get (E := E) (k := 0) (by omega)
  have hl := h.lo _ _ ga
  have hp := h.at' _ _ ga
  have e1 : E.set 0 (eAt E 0) = E := by
    apply List.ext_getElem?
    intro k
    rw [List.getElem?_set]
    split
    · rename_i hk; subst hk; rw [if_pos (by omega), ga]
    · rfl
  have e2 : Pl.set (eAt E 0).1.toNat (((0 : Nat) : Int) + 1) = Pl := by
    apply List.ext_getElem?
    intro k
    rw [List.getElem?_set]
    split
    · rename_i hk; subst hk; rw [if_pos (by omega), hp]
    · rfl
  unfold swapE swapP
  rw [e1, e1, e2, e2]
  exact ⟨rfl, rfl⟩
theorem WF.cut {E : List En} {Pl : List Int} (h : WF E Pl) {n0 : Nat} (hn : E.length = n0 + 1) : WF (E.take n0) (Pl.set (eAt E n0).1.toNat 0) := by
  have gl := eAt_get (E := E) (k := n0) (by omega)
  have hl := h.lo _ _ gl
  have ht : ∀ (k : Nat) (e : En), (E.take n0)[k]? = some e → k < n0 ∧ E[k]? = some e := fun k e hk => by
    rw [List.getElem?_take] at hk
    split at hk
    · exact ⟨‹_›, hk⟩
    · cases hk
  refine ⟨fun k e hk => ?_, fun k e hk => ?_, fun i z hi => ?_, by rw [List.length_set]; exact h.big⟩
  · rw [List.length_set]; exact h.lo _ _ (ht k e hk).2
  · obtain ⟨k1, k2⟩ := ht k e hk
    have := h.lo _ _ k2
    have := h.ne k2 gl (by omega)
    exact get_set_miss (by omega) (h.at' _ _ k2)
  · rw [List.getElem?_set] at hi
    split at hi
    · split at hi
      · cases hi; exact .inl rfl
      · cases hi
    · rename_i hne
      rcases h.no i z hi with h2 | ⟨k, e, k1, k2, k3⟩
      · exact .inl h2
      · have hk : k < E.length := (List.getElem?_eq_some_iff.1 k1).1
        have : k ≠ n0 := fun hk => by
          subst hk
          rw [gl] at k1; cases k1
          omega
        exact .inr ⟨k, e, by rw [List.getElem?_take, if_pos (by omega)]; exact k1, k2, k3⟩

/- Popping, by itself. -/
def popD (E : List En) (Pl : List Int) : (List En × List Int) × Nat := downR (E.length - 1) (swapE E 0 (E.length - 1)) (swapP Pl E 0 (E.length - 1)) 0
def popR (E : List En) (Pl : List Int) : Value × (List En × List Int) :=
  if E.length = 0 then (.tuple ⟨[i64 0, i64 0, .bool false]⟩, (E, Pl))
  else (.tuple ⟨[i64 (eAt E 0).1, i64 (eAt E 0).2, .bool true]⟩, ((popD E Pl).1.1.take (E.length - 1), (popD E Pl).1.2.set (eAt (popD E Pl).1.1 (E.length - 1)).1.toNat 0))
theorem popD_wf {E : List En} {Pl : List Int} (h : WF E Pl) (hn : E.length ≠ 0) : WF (popD E Pl).1.1 (popD E Pl).1.2 ∧ (popD E Pl).1.1.length = E.length ∧ (popD E Pl).1.2.length = Pl.length := by
  have hs : WF (swapE E 0 (E.length - 1)) (swapP Pl E 0 (E.length - 1)) := by
    by_cases h1 : E.length = 1
    · rw [h1]
      obtain ⟨e1, e2⟩ := h.swap0 h1
      rw [e1, e2]; exact h
    · exact h.swap (by omega) (by omega) (by omega)
  obtain ⟨d1, d2, d3, _⟩ := WF.down (n1 := E.length - 1) _ (i := 0) (Nat.le_refl _) hs (by rw [swapE_len]; omega)
  exact ⟨d1, by unfold popD; rw [d2, swapE_len], by unfold popD; rw [d3, swapP_len]⟩
theorem WF.pop {E : List En} {Pl : List Int} (h : WF E Pl) : WF (popR E Pl).2.1 (popR E Pl).2.2 ∧ (popR E Pl).2.2.length = Pl.length := by
  unfold popR
  split
  · exact ⟨h, rfl⟩
  · rename_i hn
    obtain ⟨d1, d2, d3⟩ := popD_wf h hn
    exact ⟨d1.cut (by omega), by rw [List.length_set, d3]⟩
theorem arun16 (E : List En) (Pl : List Int) (hw : WF E Pl) : ∃ (M0 : Mem) (x : List Value), Go.Am.arun Try.prog [] SP16 200 16 [pt 0 0] (startMem (small E Pl) 4) = some ((popR E Pl).1, M0) ∧
    M0.get 0 = some (lineB 1 2 3 (popR E Pl).2.1.length (popR E Pl).2.2.length) ∧ M0.get 2 = some (own (ents (popR E Pl).2.1 ++ x) 43 2) ∧ M0.get 3 = some (own (ints (popR E Pl).2.2) 3 1) ∧ flatL x = true ∧ ∀ t ∈ M0.log, t < 4 → t = 0 ∨ t = 2 ∨ t = 3 := by
  have hnt : Nat.ble 1 Try.f16.ntmps = true := by kernel_rfl
  obtain ⟨m, hm⟩ : ∃ m, Pl.length = m := ⟨_, rfl⟩
  have hbig := hw.big
  have hfew := hw.few
  cases hE : E.length with
  | zero =>
    have hsm : small E Pl = smallN 0 m E Pl := by unfold small smallN; rw [hE, hm]
    unfold popR
    rw [if_pos hE, hsm]
    have h := r16_none m E Pl
    unfold run16 at h
    obtain ⟨M0, k1, k2⟩ := xrun_of (look := fun M => (M.log, [0, 1, 2, 3].map M.get)) Try.func16 body16 (by exact hnt) h (.inr rfl) hold_nil
    simp only [List.map_cons, List.map_nil, Prod.mk.injEq, List.cons.injEq, and_true] at k2
    obtain ⟨q1, q2, q3, q4, q5⟩ := k2
    refine ⟨M0, [], k1, ?_, by rw [List.append_nil]; exact q4, q5, rfl, fun t ht _ => ?_⟩
    · rw [q2]; simp only [hE, hm]; rfl
    · rw [q1] at ht; cases ht
  | succ n0 =>
    have hsm : small E Pl = smallN (n0 + 1) m E Pl := by unfold small smallN; rw [hE, hm]
    have hn : E.length ≠ 0 := by omega
    obtain ⟨d1, d2, d3⟩ := popD_wf hw hn
    have ga := eAt_get (E := E) (k := 0) (by omega)
    have hav := hw.lo _ _ ga
    have ge := eAt_get (E := (popD E Pl).1.1) (k := n0) (by omega)
    have hev := d1.lo _ _ ge
    have hex : ents (popD E Pl).1.1 = ents ((popD E Pl).1.1.take n0) ++ ents ((popD E Pl).1.1.drop n0) := by rw [← ents_append, List.take_append_drop]
    have hr : popR E Pl = (.tuple ⟨[i64 (eAt E 0).1, i64 (eAt E 0).2, .bool true]⟩, ((popD E Pl).1.1.take n0, (popD E Pl).1.2.set (eAt (popD E Pl).1.1 n0).1.toNat 0)) := by
      unfold popR
      rw [if_neg hn, hE]
      rfl
    have hl0 : ((popD E Pl).1.1.take n0).length = n0 := by rw [List.length_take]; omega
    have hpd : popD E Pl = downR n0 (swapE E 0 n0) (swapP Pl E 0 n0) 0 := by unfold popD; rw [hE]; rfl
    rw [hr, hsm]
    cases n0 with
    | zero =>
      have hs := hw.swap0 hE
      have hw0 : WF (swapE E 0 0) (swapP Pl E 0 0) := by rw [hs.1, hs.2]; exact hw
      have h := r16_one m E Pl (eAt E 0).1 (eAt E 0).2 (eAt (popD E Pl).1.1 0).1 (eAt (popD E Pl).1.1 0).2 (decide (((popD E Pl).2 : Int) > ((0 : Nat) : Int))) (popD E Pl).1.1 (popD E Pl).1.2
      unfold run16 at h
      obtain ⟨M0, k1, k2⟩ := xrun_of (look := fun M => (M.log, [0, 1, 2, 3].map M.get)) Try.func16 body16 (by exact hnt) h (.inr rfl) (hold_cons (ldE' ga) (hold_cons (ldE' ga) (hold_cons (ldE' ga) (hold_cons (stE (k := 0) (by omega)) (hold_cons (stE (k := 0) (by simp only [List.length_set]; omega)) (hold_cons (ldE0 (k := 0) (get_set_hit (by simp only [List.length_set]; omega))) (hold_cons (qib (by omega)) (hold_cons (stI (by omega)) (hold_cons (ldE0 (k := 0) (get_set_hit (by simp only [List.length_set]; omega))) (hold_cons (qib (by omega)) (hold_cons (stI (by simp only [List.length_set]; omega)) (hold_cons (downQ (i0 := 0) (n1 := 0) (n := 1) (m := m) (E := swapE E 0 0) (Pl := swapP Pl E 0 0) (fi := (popD E Pl).2) rfl (by rw [swapE_len, hE]) (by rw [swapP_len]; exact hm) hw0 (by decide) (by decide) rfl (by decide) (by decide) (by rw [← hpd]) rfl) (hold_cons (ldE' ge) (hold_cons (qib (by omega)) (hold_cons (stI (by omega)) hold_nil)))))))))))))))
      simp only [List.map_cons, List.map_nil, Prod.mk.injEq, List.cons.injEq, and_true] at k2
      obtain ⟨q1, q2, q3, q4, q5⟩ := k2
      refine ⟨M0, ents ((popD E Pl).1.1.drop 0), k1, ?_, by rw [← hex]; exact q4, q5, ents_flat _, fun t ht _ => ?_⟩
      · simp only [hl0, List.length_set, d3, hm]; exact q2
      · rw [q1] at ht
        simp only [List.mem_cons, List.not_mem_nil, or_false] at ht
        omega
    | succ k0 =>
      have hN : IntKind.wrap .i64 ((((k0 + 1 + 1 : Nat) : Int)) - (1 : Int)) = ((k0 + 1 : Nat) : Int) := by rw [IntWalk.i64_in _ (by omega)]; omega
      have hN1 : IntKind.wrap .i64 (((k0 + 1 : Nat) : Int) + (1 : Int)) = ((k0 + 1 : Nat) : Int) + 1 := IntWalk.i64_in _ (by omega)
      have gb := eAt_get (E := E) (k := k0 + 1) (by omega)
      have hbv := hw.lo _ _ gb
      have hw0 : WF (swapE E 0 (k0 + 1)) (swapP Pl E 0 (k0 + 1)) := hw.swap (by omega) (by omega) (by omega)
      have h := r16_more m E Pl (k0 + 1) (eAt E 0).1 (eAt E 0).2 (eAt E (k0 + 1)).1 (eAt E (k0 + 1)).2 (eAt (popD E Pl).1.1 (k0 + 1)).1 (eAt (popD E Pl).1.1 (k0 + 1)).2 (decide (((popD E Pl).2 : Int) > ((0 : Nat) : Int))) (popD E Pl).1.1 (popD E Pl).1.2
      simp only [hN, hN1, Int.toNat_natCast] at h
      unfold run16 at h
      obtain ⟨M0, k1, k2⟩ := xrun_of (look := fun M => (M.log, [0, 1, 2, 3].map M.get)) Try.func16 body16 (by exact hnt) h (.inr rfl) (hold_cons (qb (by simp <;> omega)) (hold_cons (qib (by omega)) (hold_cons (ldE' ga) (hold_cons (qib (by omega)) (hold_cons (ldE' gb) (hold_cons (qib (by omega)) (hold_cons (ldE' ga) (hold_cons (qib (by omega)) (hold_cons (stE (by omega)) (hold_cons (qib (by omega)) (hold_cons (stE (by simp only [List.length_set]; omega)) (hold_cons (qib (by omega)) (hold_cons (ldE0 (k := 0) (get_set2 (by omega) (by omega))) (hold_cons (qib (by omega)) (hold_cons (stI (by omega)) (hold_cons (qib (by omega)) (hold_cons (ldE0 (get_set_hit (by simp only [List.length_set]; omega))) (hold_cons (qib (by omega)) (hold_cons (stI (by simp only [List.length_set]; omega)) (hold_cons (downQ (i0 := 0) (n1 := k0 + 1) (n := k0 + 1 + 1) (m := m) (E := swapE E 0 (k0 + 1)) (Pl := swapP Pl E 0 (k0 + 1)) (fi := (popD E Pl).2) rfl (by rw [swapE_len, hE]) (by rw [swapP_len]; exact hm) hw0 (by omega) (by omega) rfl (by decide) (by decide) (by rw [← hpd]) rfl) (hold_cons (qib (by omega)) (hold_cons (ldE' ge) (hold_cons (slQ) (hold_cons (qib (by omega)) (hold_cons (stI (by omega)) hold_nil)))))))))))))))))))))))))
      simp only [List.map_cons, List.map_nil, Prod.mk.injEq, List.cons.injEq, and_true] at k2
      obtain ⟨q1, q2, q3, q4, q5⟩ := k2
      refine ⟨M0, ents ((popD E Pl).1.1.drop (k0 + 1)), k1, ?_, by rw [← hex]; exact q4, q5, ents_flat _, fun t ht _ => ?_⟩
      · simp only [hl0, List.length_set, d3, hm]; exact q2
      · rw [q1] at ht
        simp only [List.mem_cons, List.not_mem_nil, or_false] at ht
        omega

def OD (x : QX) (args : List Value) (M : Mem) : Prop := x.At M ∧ args = [pt x.p 0] ∧ WF x.E x.Pl
def OR (x : QX) (M : Mem) : Value × List (Nat × Option ABlk) × List ABlk := ((popR x.E x.Pl).1, turned x M (popR x.E x.Pl).2.1 (popR x.E x.Pl).2.2)
theorem OD.inj : ∀ args M (x y : QX), OD x args M → OD y args M → x = y := fun args M x y ⟨h1, h2, _⟩ ⟨k1, k2, _⟩ => by
  subst h2
  simp only [List.cons.injEq, Value.pointer.injEq, Option.some.injEq, Addr.mk.injEq, and_true] at k2
  exact QX.inj k2 h1 k1
theorem popR_flat (E : List En) (Pl : List Int) : flat (popR E Pl).1 = true := by
  unfold popR
  split <;> rfl
theorem ok16 (B : Nat) : SpecOk Try.prog [] B 16 (gOf OD OR) := SpecOk.gOf noNumP mixedP fun q args M h => by
  obtain ⟨h1, rfl, h3⟩ := h
  obtain ⟨M0, x, k1, k2, k3, k4, k6, k5⟩ := arun16 q.E q.Pl h3
  have t0 : toTgt (mvIn 0 [q.p, q.r, q.e, q.pl]) q.p = some 0 := toTgt_in (t := 0) h1.dist rfl
  exact moved h1 (.inl rfl) specs16 k1 k2 k3 k4 k5 (by simp only [renL, renV, renAddr, t0]) (popR_flat _ _) k6
end Go.Proofs.Ythocfeccinpbmaa
