/-
  QueueSorts: whatever the two rows, the call returns true, and its arguments read as they did.
-/
import Derived.Test.YthocfeccinpbmaaGQH1
open Go Go.Am Go.Proofs
namespace Go.Proofs.Ythocfeccinpbmaa
set_option maxRecDepth 100000

/- heap.up: one round. -/
noncomputable def B33 : Code := Try.f33.body.get!
theorem body33 : Try.f33.body = some B33 := by kernel_rfl
noncomputable def loop33 : Code := unloop ((inner 0 100 B33).get!)
noncomputable def SP33 (bs : List (Nat × (Code → St → Option (AExit × St)))) : Specs := specsB [(51, gOf LD LR)] bs
def S33 (n m : Nat) (E : List En) (Pl : List Int) (j : Int) (nx : Nat) : St := ⟨tabT [(0, .iface 56 (pt 0 0)), (1, i64 j)], 23, ⟨blkTree (smallN n m E Pl), nx, [], [2, 3] ++ []⟩⟩
def E33 (n m : Nat) (E : List En) (Pl : List Int) (nx : Nat) : St := ⟨tabT [], 23, ⟨blkTree (smallN n m E Pl), nx, [], [2, 3] ++ []⟩⟩

noncomputable def rnd33 (s : St) (F : List Fact) (nx : Nat) (mv : Moves) :=
  (xexec Try.prog [] (SP33 []) 200 loop33 s F 0).map (fun r => (r.1.1, rebase 4 nx mv [0, 1] [2, 3] [] r.1.2, stills r.1.2.M mv, Nat.ble r.1.2.M.next 20, r.2.2.2.map (view (noDoors) [0, 1, 2, 3])))
noncomputable def end33 (s : St) (F : List Fact) (nx : Nat) (mv : Moves) :=
  (xexec Try.prog [] (SP33 []) 200 loop33 s F 0).map (fun r => (r.1.1, rebase 4 nx mv [] [2, 3] [] r.1.2, stills r.1.2.M mv, Nat.ble r.1.2.M.next 20, r.2.2.2.map (view (noDoors) [0, 1, 2, 3])))
theorem t330 (n m : Nat) (E : List En) (Pl : List Int) (j : Nat) : end33 (S33 n m E Pl (j : Int) 4) [tru 16, tru 18, tru 20, tru 22, tru 24, tru 27] 20 [(0, 0, true), (1, 1, true), (2, 2, true), (3, 3, true)] = some ((.exit 0), some (E33 n m (E) (Pl) 20), [(lineB 1 2 3 n m).cs, fns, ents (E), ints (Pl)], true, [.b ((IntKind.wrap .i64 ((IntKind.wrap .i64 ((((j : Nat) : Int)) - (1 : Int))).tdiv (2 : Int))) == (((j : Nat) : Int))) (.val (.bool true)), .b ((IntKind.wrap .i64 ((IntKind.wrap .i64 ((((j : Nat) : Int)) - (1 : Int))).tdiv (2 : Int))) == (((j : Nat) : Int))) (.val (.bool true)), .b ((IntKind.wrap .i64 ((IntKind.wrap .i64 ((((j : Nat) : Int)) - (1 : Int))).tdiv (2 : Int))) == (((j : Nat) : Int))) (.val (.bool true)), .b ((IntKind.wrap .i64 ((IntKind.wrap .i64 ((((j : Nat) : Int)) - (1 : Int))).tdiv (2 : Int))) == (((j : Nat) : Int))) (.val (.bool true)), .b ((IntKind.wrap .i64 ((IntKind.wrap .i64 ((((j : Nat) : Int)) - (1 : Int))).tdiv (2 : Int))) == (((j : Nat) : Int))) (.val (.bool true)), .b ((IntKind.wrap .i64 ((IntKind.wrap .i64 ((((j : Nat) : Int)) - (1 : Int))).tdiv (2 : Int))) == (((j : Nat) : Int))) (.val (.bool true))]) := by kernel_rfl
theorem t331 (n m : Nat) (E : List En) (Pl : List Int) (j : Nat) (a1 a2 b1 b2 : Int) : rnd33 (S33 n m E Pl (j : Int) 4) [fls 16, fls 18, fls 20, fls 22, mcl 23 (.bool true) [] [], fls 24, fls 27, tru 68, got 70 (.agg ⟨[(i64 b1), (i64 b2)]⟩), tru 82, got 84 (.agg ⟨[(i64 a1), (i64 a2)]⟩), tru 86, onto 88 (ents ((E).set (IntKind.wrap .i64 ((IntKind.wrap .i64 ((((j : Nat) : Int)) - (1 : Int))).tdiv (2 : Int)) : Int).toNat (b1, b2))), tru 90, onto 92 (ents (((E).set (IntKind.wrap .i64 ((IntKind.wrap .i64 ((((j : Nat) : Int)) - (1 : Int))).tdiv (2 : Int)) : Int).toNat (b1, b2)).set (((j : Nat) : Int) : Int).toNat (a1, a2))), tru 112, got 116 (i64 b1), tru 122, onto 124 (ints ((Pl).set (b1 : Int).toNat (IntKind.wrap .i64 ((IntKind.wrap .i64 ((IntKind.wrap .i64 ((((j : Nat) : Int)) - (1 : Int))).tdiv (2 : Int))) + (1 : Int))))), tru 144, got 148 (i64 a1), tru 154, onto 156 (ints (((Pl).set (b1 : Int).toNat (IntKind.wrap .i64 ((IntKind.wrap .i64 ((IntKind.wrap .i64 ((((j : Nat) : Int)) - (1 : Int))).tdiv (2 : Int))) + (1 : Int)))).set (a1 : Int).toNat (IntKind.wrap .i64 ((((j : Nat) : Int)) + (1 : Int)))))] 4 [(0, 0, true), (1, 1, true), (2, 2, true), (3, 3, true)] = some (.normal, some (S33 n m (((E).set (IntKind.wrap .i64 ((IntKind.wrap .i64 ((((j : Nat) : Int)) - (1 : Int))).tdiv (2 : Int)) : Int).toNat (b1, b2)).set (((j : Nat) : Int) : Int).toNat (a1, a2)) (((Pl).set (b1 : Int).toNat (IntKind.wrap .i64 ((IntKind.wrap .i64 ((IntKind.wrap .i64 ((((j : Nat) : Int)) - (1 : Int))).tdiv (2 : Int))) + (1 : Int)))).set (a1 : Int).toNat (IntKind.wrap .i64 ((((j : Nat) : Int)) + (1 : Int)))) (IntKind.wrap .i64 ((IntKind.wrap .i64 ((((j : Nat) : Int)) - (1 : Int))).tdiv (2 : Int))) 4), [(lineB 1 2 3 n m).cs, fns, ents (((E).set (IntKind.wrap .i64 ((IntKind.wrap .i64 ((((j : Nat) : Int)) - (1 : Int))).tdiv (2 : Int)) : Int).toNat (b1, b2)).set (((j : Nat) : Int) : Int).toNat (a1, a2)), ints (((Pl).set (b1 : Int).toNat (IntKind.wrap .i64 ((IntKind.wrap .i64 ((IntKind.wrap .i64 ((((j : Nat) : Int)) - (1 : Int))).tdiv (2 : Int))) + (1 : Int)))).set (a1 : Int).toNat (IntKind.wrap .i64 ((((j : Nat) : Int)) + (1 : Int))))], true, [.b ((IntKind.wrap .i64 ((IntKind.wrap .i64 ((((j : Nat) : Int)) - (1 : Int))).tdiv (2 : Int))) == (((j : Nat) : Int))) (.val (.bool false)), .b ((IntKind.wrap .i64 ((IntKind.wrap .i64 ((((j : Nat) : Int)) - (1 : Int))).tdiv (2 : Int))) == (((j : Nat) : Int))) (.val (.bool false)), .b ((IntKind.wrap .i64 ((IntKind.wrap .i64 ((((j : Nat) : Int)) - (1 : Int))).tdiv (2 : Int))) == (((j : Nat) : Int))) (.val (.bool false)), .b ((IntKind.wrap .i64 ((IntKind.wrap .i64 ((((j : Nat) : Int)) - (1 : Int))).tdiv (2 : Int))) == (((j : Nat) : Int))) (.val (.bool false)), .cr 51 [(pt 0 0), (i64 (((j : Nat) : Int))), (i64 (IntKind.wrap .i64 ((IntKind.wrap .i64 ((((j : Nat) : Int)) - (1 : Int))).tdiv (2 : Int))))] [some ⟨[(.iface 45 (.slice (some ⟨1, 0, none⟩) 2 3)), (.slice (some ⟨2, 0, none⟩) n n), (.slice (some ⟨3, 0, none⟩) m (m + 1))], 52, 3, 0, true⟩, some ⟨[(.func (.func 24) ⟨[]⟩ ⟨[]⟩), (.func (.func 25) ⟨[]⟩ ⟨[]⟩)], 41, 1, 0, true⟩, some ⟨ents (E), 43, 2, 0, true⟩, some ⟨ints (Pl), 3, 1, 0, true⟩] (.val (.bool true)), .b ((IntKind.wrap .i64 ((IntKind.wrap .i64 ((((j : Nat) : Int)) - (1 : Int))).tdiv (2 : Int))) == (((j : Nat) : Int))) (.val (.bool false)), .b ((IntKind.wrap .i64 ((IntKind.wrap .i64 ((((j : Nat) : Int)) - (1 : Int))).tdiv (2 : Int))) == (((j : Nat) : Int))) (.val (.bool false)), .ib (((j : Nat) : Int)) n, .ld 43 (0 + (((j : Nat) : Int) : Int).toNat * 2) (some ⟨ents (E), 43, 2, 0, true⟩) (.val (.agg ⟨[(i64 b1), (i64 b2)]⟩)), .ib (IntKind.wrap .i64 ((IntKind.wrap .i64 ((((j : Nat) : Int)) - (1 : Int))).tdiv (2 : Int))) n, .ld 43 (0 + (IntKind.wrap .i64 ((IntKind.wrap .i64 ((((j : Nat) : Int)) - (1 : Int))).tdiv (2 : Int)) : Int).toNat * 2) (some ⟨ents (E), 43, 2, 0, true⟩) (.val (.agg ⟨[(i64 a1), (i64 a2)]⟩)), .ib (IntKind.wrap .i64 ((IntKind.wrap .i64 ((((j : Nat) : Int)) - (1 : Int))).tdiv (2 : Int))) n, .st 43 (0 + (IntKind.wrap .i64 ((IntKind.wrap .i64 ((((j : Nat) : Int)) - (1 : Int))).tdiv (2 : Int)) : Int).toNat * 2) (.agg ⟨[(i64 b1), (i64 b2)]⟩) (ents ((E).set (IntKind.wrap .i64 ((IntKind.wrap .i64 ((((j : Nat) : Int)) - (1 : Int))).tdiv (2 : Int)) : Int).toNat (b1, b2))) ⟨ents (E), 43, 2, 0, true⟩, .ib (((j : Nat) : Int)) n, .st 43 (0 + (((j : Nat) : Int) : Int).toNat * 2) (.agg ⟨[(i64 a1), (i64 a2)]⟩) (ents (((E).set (IntKind.wrap .i64 ((IntKind.wrap .i64 ((((j : Nat) : Int)) - (1 : Int))).tdiv (2 : Int)) : Int).toNat (b1, b2)).set (((j : Nat) : Int) : Int).toNat (a1, a2))) ⟨ents ((E).set (IntKind.wrap .i64 ((IntKind.wrap .i64 ((((j : Nat) : Int)) - (1 : Int))).tdiv (2 : Int)) : Int).toNat (b1, b2)), 43, 2, 0, true⟩, .ib (IntKind.wrap .i64 ((IntKind.wrap .i64 ((((j : Nat) : Int)) - (1 : Int))).tdiv (2 : Int))) n, .ld 3 (0 + (IntKind.wrap .i64 ((IntKind.wrap .i64 ((((j : Nat) : Int)) - (1 : Int))).tdiv (2 : Int)) : Int).toNat * 2) (some ⟨ents (((E).set (IntKind.wrap .i64 ((IntKind.wrap .i64 ((((j : Nat) : Int)) - (1 : Int))).tdiv (2 : Int)) : Int).toNat (b1, b2)).set (((j : Nat) : Int) : Int).toNat (a1, a2)), 43, 2, 0, true⟩) (.val (i64 b1)), .ib b1 m, .st 3 (0 + (b1 : Int).toNat * 1) (i64 (IntKind.wrap .i64 ((IntKind.wrap .i64 ((IntKind.wrap .i64 ((((j : Nat) : Int)) - (1 : Int))).tdiv (2 : Int))) + (1 : Int)))) (ints ((Pl).set (b1 : Int).toNat (IntKind.wrap .i64 ((IntKind.wrap .i64 ((IntKind.wrap .i64 ((((j : Nat) : Int)) - (1 : Int))).tdiv (2 : Int))) + (1 : Int))))) ⟨ints (Pl), 3, 1, 0, true⟩, .ib (((j : Nat) : Int)) n, .ld 3 (0 + (((j : Nat) : Int) : Int).toNat * 2) (some ⟨ents (((E).set (IntKind.wrap .i64 ((IntKind.wrap .i64 ((((j : Nat) : Int)) - (1 : Int))).tdiv (2 : Int)) : Int).toNat (b1, b2)).set (((j : Nat) : Int) : Int).toNat (a1, a2)), 43, 2, 0, true⟩) (.val (i64 a1)), .ib a1 m, .st 3 (0 + (a1 : Int).toNat * 1) (i64 (IntKind.wrap .i64 ((((j : Nat) : Int)) + (1 : Int)))) (ints (((Pl).set (b1 : Int).toNat (IntKind.wrap .i64 ((IntKind.wrap .i64 ((IntKind.wrap .i64 ((((j : Nat) : Int)) - (1 : Int))).tdiv (2 : Int))) + (1 : Int)))).set (a1 : Int).toNat (IntKind.wrap .i64 ((((j : Nat) : Int)) + (1 : Int))))) ⟨ints ((Pl).set (b1 : Int).toNat (IntKind.wrap .i64 ((IntKind.wrap .i64 ((IntKind.wrap .i64 ((((j : Nat) : Int)) - (1 : Int))).tdiv (2 : Int))) + (1 : Int)))), 3, 1, 0, true⟩]) := by kernel_rfl
theorem t332 (n m : Nat) (E : List En) (Pl : List Int) (j : Nat) : end33 (S33 n m E Pl (j : Int) 4) [fls 16, fls 18, fls 20, fls 22, mcl 23 (.bool false) [] [], fls 24, fls 27] 20 [(0, 0, true), (1, 1, true), (2, 2, true), (3, 3, true)] = some ((.exit 0), some (E33 n m (E) (Pl) 20), [(lineB 1 2 3 n m).cs, fns, ents (E), ints (Pl)], true, [.b ((IntKind.wrap .i64 ((IntKind.wrap .i64 ((((j : Nat) : Int)) - (1 : Int))).tdiv (2 : Int))) == (((j : Nat) : Int))) (.val (.bool false)), .b ((IntKind.wrap .i64 ((IntKind.wrap .i64 ((((j : Nat) : Int)) - (1 : Int))).tdiv (2 : Int))) == (((j : Nat) : Int))) (.val (.bool false)), .b ((IntKind.wrap .i64 ((IntKind.wrap .i64 ((((j : Nat) : Int)) - (1 : Int))).tdiv (2 : Int))) == (((j : Nat) : Int))) (.val (.bool false)), .b ((IntKind.wrap .i64 ((IntKind.wrap .i64 ((((j : Nat) : Int)) - (1 : Int))).tdiv (2 : Int))) == (((j : Nat) : Int))) (.val (.bool false)), .cr 51 [(pt 0 0), (i64 (((j : Nat) : Int))), (i64 (IntKind.wrap .i64 ((IntKind.wrap .i64 ((((j : Nat) : Int)) - (1 : Int))).tdiv (2 : Int))))] [some ⟨[(.iface 45 (.slice (some ⟨1, 0, none⟩) 2 3)), (.slice (some ⟨2, 0, none⟩) n n), (.slice (some ⟨3, 0, none⟩) m (m + 1))], 52, 3, 0, true⟩, some ⟨[(.func (.func 24) ⟨[]⟩ ⟨[]⟩), (.func (.func 25) ⟨[]⟩ ⟨[]⟩)], 41, 1, 0, true⟩, some ⟨ents (E), 43, 2, 0, true⟩, some ⟨ints (Pl), 3, 1, 0, true⟩] (.val (.bool false)), .b ((IntKind.wrap .i64 ((IntKind.wrap .i64 ((((j : Nat) : Int)) - (1 : Int))).tdiv (2 : Int))) == (((j : Nat) : Int))) (.val (.bool false)), .b ((IntKind.wrap .i64 ((IntKind.wrap .i64 ((((j : Nat) : Int)) - (1 : Int))).tdiv (2 : Int))) == (((j : Nat) : Int))) (.val (.bool false))]) := by kernel_rfl
def D33 : Door := ⟨4, 4, [(0, 0, true), (1, 1, true), (2, 2, true), (3, 3, true)], [0, 1], [2, 3], []⟩
noncomputable def run33 (SP : Specs) (n m : Nat) (E : List En) (Pl : List Int) (j : Nat) (F : List Fact) :=
  (xexec Try.prog [] SP 200 B33 ⟨initT [.iface 56 (pt 0 0), i64 (j : Int)] 0 .nil, Try.f33.ntmps, startMem (smallN n m E Pl) 4⟩ F 0).map (fun r => (r.1.1, r.1.2.M, aresults Try.prog Try.f33 r.1.2, r.2.2.2.map (view (fun _ => D33) [])))
theorem m33 (n m : Nat) (E Ef : List En) (Pl Plf : List Int) (j : Nat) (g : Code → St → Option (AExit × St)) : run33 (SP33 [(0, g)]) n m E Pl j [past 0 .normal (E33 n m Ef Plf 20)] =
    some (.normal, (E33 n m Ef Plf 20).M, some (.tuple #[]), [.bk 0 (.loop loop33) 4 [] (some (S33 n m E Pl (j : Int) 4)) [(lineB 1 2 3 n m).cs, fns, ents E, ints Pl] true .normal (E33 n m Ef Plf 20)]) := by kernel_rfl
end Go.Proofs.Ythocfeccinpbmaa
open Go Go.Am Go.Proofs
namespace Go.Proofs.Ythocfeccinpbmaa
set_option maxRecDepth 100000

def eAt (E : List En) (k : Nat) : En := E.getD k (0, 0)
theorem eAt_get {E : List En} {k : Nat} (h : k < E.length) : E[k]? = some (eAt E k) := by
  unfold eAt; rw [List.getD_eq_getElem?_getD, List.getElem?_eq_getElem h]; rfl
theorem eAt_of {E : List En} {k : Nat} {e : En} (h : E[k]? = some e) : eAt E k = e := by
  unfold eAt; rw [List.getD_eq_getElem?_getD, h]; rfl
def swapE (E : List En) (i j : Nat) : List En := (E.set i (eAt E j)).set j (eAt E i)
def swapP (Pl : List Int) (E : List En) (i j : Nat) : List Int := (Pl.set (eAt E j).1.toNat ((i : Int) + 1)).set (eAt E i).1.toNat ((j : Int) + 1)
theorem swapE_len (E : List En) (i j : Nat) : (swapE E i j).length = E.length := by simp [swapE]
theorem swapP_len (Pl : List Int) (E : List En) (i j : Nat) : (swapP Pl E i j).length = Pl.length := by simp [swapP]
theorem swapE_get {E : List En} {i j k : Nat} (hi : i < E.length) (hj : j < E.length) : (swapE E i j)[k]? = if k = j then some (eAt E i) else if k = i then some (eAt E j) else E[k]? := by
  unfold swapE
  rw [List.getElem?_set]
  by_cases h1 : k = j
  · subst h1; rw [if_pos rfl, if_pos rfl, if_pos (by rw [List.length_set]; exact hj)]
  · rw [if_neg (Ne.symm h1), if_neg h1, List.getElem?_set]
    by_cases h2 : k = i
    · subst h2; rw [if_pos rfl, if_pos rfl, if_pos hi]
    · rw [if_neg (Ne.symm h2), if_neg h2]
theorem WF.ne {E : List En} {Pl : List Int} (h : WF E Pl) {i j : Nat} {a b : En} (hi : E[i]? = some a) (hj : E[j]? = some b) (hne : i ≠ j) : a.1 ≠ b.1 := fun he => by
  have h1 := h.at' i a hi
  have h2 := h.at' j b hj
  rw [he, h2] at h1
  cases h1
  omega
theorem WF.swap {E : List En} {Pl : List Int} (h : WF E Pl) {i j : Nat} (hi : i < E.length) (hj : j < E.length) (hne : i ≠ j) : WF (swapE E i j) (swapP Pl E i j) := by
  have ga := eAt_get hi
  have gb := eAt_get hj
  have hab := h.ne ga gb hne
  obtain ⟨a1, a2⟩ := h.lo _ _ ga
  obtain ⟨b1, b2⟩ := h.lo _ _ gb
  refine ⟨fun k e hk => ?_, fun k e hk => ?_, fun x z hz => ?_, by rw [swapP_len]; exact h.big⟩
  · rw [swapE_get hi hj] at hk
    rw [swapP_len]
    split at hk
    · cases hk; exact ⟨a1, a2⟩
    · split at hk
      · cases hk; exact ⟨b1, b2⟩
      · exact h.lo _ _ hk
  · rw [swapE_get hi hj] at hk
    unfold swapP
    split at hk
    · rename_i hkj
      cases hk
      rw [get_set_hit (by rw [List.length_set]; omega), hkj]
    · rename_i hkj
      split at hk
      · rename_i hki
        cases hk
        rw [get_set_miss (by omega) (get_set_hit (by omega)), hki]
      · rename_i hki
        have n1 := h.ne hk ga hki
        have n2 := h.ne hk gb hkj
        have := h.lo _ _ hk
        exact get_set_miss (by omega) (get_set_miss (by omega) (h.at' _ _ hk))
  · unfold swapP at hz
    rw [List.getElem?_set] at hz
    split at hz
    · rename_i hx
      split at hz
      · cases hz
        exact .inr ⟨j, eAt E i, by rw [swapE_get hi hj, if_pos rfl], by omega, rfl⟩
      · cases hz
    · rename_i hx
      rw [List.getElem?_set] at hz
      split at hz
      · rename_i hx2
        split at hz
        · cases hz
          exact .inr ⟨i, eAt E j, by rw [swapE_get hi hj, if_neg hne, if_pos rfl], by omega, rfl⟩
        · cases hz
      · rename_i hx2
        rcases h.no x z hz with h0 | ⟨k, e, k1, k2, k3⟩
        · exact .inl h0
        · refine .inr ⟨k, e, ?_, k2, k3⟩
          have kj : k ≠ j := fun hh => by
            subst hh
            rw [gb] at k1; cases k1
            omega
          have ki : k ≠ i := fun hh => by
            subst hh
            rw [ga] at k1; cases k1
            omega
          rw [swapE_get hi hj, if_neg kj, if_neg ki]
          exact k1

/- up, by itself. -/
def upR (E : List En) (Pl : List Int) (j : Nat) : List En × List Int :=
  if j = 0 then (E, Pl) else if lessOf E j ((j - 1) / 2) then upR (swapE E ((j - 1) / 2) j) (swapP Pl E ((j - 1) / 2) j) ((j - 1) / 2) else (E, Pl)
termination_by j
decreasing_by omega
theorem upR_eq (E : List En) (Pl : List Int) (j : Nat) : upR E Pl j = if j = 0 then (E, Pl) else if lessOf E j ((j - 1) / 2) then upR (swapE E ((j - 1) / 2) j) (swapP Pl E ((j - 1) / 2) j) ((j - 1) / 2) else (E, Pl) := by rw [upR]
theorem QM.small (E : List En) (Pl : List Int) {M : Mem} {e : Nat} (hd : Go.Am.distinct [0, 1, e, 3] = true) (h : [0, 1, e, 3].map M.get = [some (lineB 1 e 3 E.length Pl.length), some (own fns 41 1), some (own (ents E) 43 2), some (own (ints Pl) 3 1)]) : QM M 0 1 e 3 E Pl := by
  simp only [List.map_cons, List.map_nil, List.cons.injEq, and_true] at h
  exact ⟨h.1, h.2.1, h.2.2.1, h.2.2.2, hd⟩
theorem lessQ {SP : Specs} {D : Nat → Door} {n m : Nat} {E : List En} {Pl : List Int} {i j : Nat} {t : Bool} (hS : SP.calls 51 = some (gOf LD LR) ∧ E.length = n ∧ Pl.length = m) (hi : i < n) (hj : j < n) (ht : lessOf E i j = t) :
    (QV.cr 51 [pt 0 0, i64 (i : Int), i64 (j : Int)] [some (lineB 1 2 3 n m), some (own fns 41 1), some (own (ents E) 43 2), some (own (ints Pl) 3 1)] (.val (.bool t))).holds Try.prog SP D [0, 1, 2, 3] := by
  obtain ⟨hS, rfl, rfl⟩ := hS
  exact qcr LD.inj hS (x := ⟨⟨0, 1, 2, 3, E, Pl⟩, i, j⟩) (fun M h => ⟨QM.small E Pl rfl h, rfl, hi, hj⟩) (fun M => by simp only [LR, ht])
theorem specs33 (bs : List (Nat × (Code → St → Option (AExit × St)))) (B : Nat) (hb : ∀ p ∈ bs, BlkOk Try.prog [] B p.1 p.2) : SpecsOk Try.prog [] B (SP33 bs) := specsB_ok (fun p hp => by
  rw [List.mem_singleton.1 hp]; exact ok51 B) hb
def I33 (n m : Nat) (d : (List En × List Int) × Nat) : St := S33 n m d.1.1 d.1.2 (d.2 : Int) 4
theorem loop33_ok (E0 : List En) (Pl0 : List Int) (j0 : Nat) (h0 : WF E0 Pl0) (hj0 : j0 < E0.length) (B : Nat) :
    BlkOk Try.prog [] B 0 (loopG (.loop loop33) D33 (I33 E0.length Pl0.length ((E0, Pl0), j0)) (.normal, E33 E0.length Pl0.length (upR E0 Pl0 j0).1 (upR E0 Pl0 j0).2 20)) := by
  refine loopG_ok noNumP mixedP (I33 E0.length Pl0.length) (fun d => WF d.1.1 d.1.2 ∧ d.1.1.length = E0.length ∧ d.1.2.length = Pl0.length ∧ d.2 < E0.length ∧ upR d.1.1 d.1.2 d.2 = upR E0 Pl0 j0) (fun d => d.2) (e := .exit 0) (K := 20) (by intro h; cases h) ⟨h0, rfl, rfl, hj0, rfl⟩ (by decide) rfl rfl rfl (fun id h1 h2 => ?_) (fun d hd => ?_)
  · match id, h1 with
    | 0, _ => rfl
    | 1, _ => rfl
    | 2, _ => exact absurd (by decide) h2
    | 3, _ => exact absurd (by decide) h2
    | n + 4, h => exact absurd (show n + 4 < 4 from h) (by omega)
  · obtain ⟨⟨E, Pl⟩, j⟩ := d
    obtain ⟨hw, hn, hm, hlt, hR⟩ := hd
    simp only at hw hn hm hlt hR
    generalize E0.length = n at *
    generalize Pl0.length = m at *
    have hS := specs33 [] B (fun p hp => by cases hp)
    have hbig := hw.big
    have hsz : E.length ≤ 2 ^ 30 := Nat.le_trans hw.few hbig
    have gb := eAt_get (E := E) (k := j) (by omega)
    obtain ⟨i, hi⟩ : ∃ i, i = (j - 1) / 2 := ⟨_, rfl⟩
    have hix : IntKind.wrap .i64 ((IntKind.wrap .i64 ((((j : Nat) : Int)) - (1 : Int))).tdiv (2 : Int)) = ((i : Nat) : Int) := by
      rw [IntWalk.i64_in (((j : Nat) : Int) - 1) (by omega)]
      by_cases hj : j = 0
      · subst hj
        have : i = 0 := by omega
        subst this
        rfl
      · rw [show (((j : Nat) : Int)) - 1 = ((j - 1 : Nat) : Int) by omega, show (2 : Int) = ((2 : Nat) : Int) by rfl, ← Int.ofNat_tdiv, ← hi, IntWalk.i64_in _ (by omega)]
    have hi1 : IntKind.wrap .i64 ((((i : Nat) : Int)) + (1 : Int)) = ((i : Nat) : Int) + 1 := IntWalk.i64_in _ (by omega)
    have hj1 : IntKind.wrap .i64 ((((j : Nat) : Int)) + (1 : Int)) = ((j : Nat) : Int) + 1 := IntWalk.i64_in _ (by omega)
    have hQ : (SP33 []).calls 51 = some (gOf LD LR) ∧ E.length = n ∧ Pl.length = m := ⟨rfl, hn, hm⟩
    rw [upR_eq E Pl j] at hR
    by_cases hj : j = 0
    · subst hj
      obtain rfl : i = 0 := by omega
      rw [if_pos rfl] at hR
      have h := t330 n m E Pl 0
      simp only [hix] at h
      unfold end33 at h
      obtain ⟨s1, k1, k2, k3⟩ := xround_of h (hold_cons (qb (by simp <;> omega)) (hold_cons (qb (by simp <;> omega)) (hold_cons (qb (by simp <;> omega)) (hold_cons (qb (by simp <;> omega)) (hold_cons (qb (by simp <;> omega)) (hold_cons (qb (by simp <;> omega)) hold_nil)))))) (still_cons rfl (still_cons rfl (still_cons (renL_flat _ _ (ents_flat _)) (still_cons (renL_flat _ _ (ints_flat _)) still_nil))))
      rw [← hR]
      exact ⟨_, 200, s1, hS, k1, .inr ⟨_, _, k2, k3⟩⟩
    · have hij : i < j := by omega
      have hlti : i < n := by omega
      have ga := eAt_get (E := E) (k := i) (by omega)
      rw [if_neg hj, ← hi] at hR
      cases hless : lessOf E j i with
      | false =>
        rw [hless, if_neg (by decide)] at hR
        have h := t332 n m E Pl j
        simp only [hix] at h
        unfold end33 at h
        obtain ⟨s1, k1, k2, k3⟩ := xround_of h (hold_cons (qb (by simp <;> omega)) (hold_cons (qb (by simp <;> omega)) (hold_cons (qb (by simp <;> omega)) (hold_cons (qb (by simp <;> omega)) (hold_cons (lessQ hQ hlt hlti hless) (hold_cons (qb (by simp <;> omega)) (hold_cons (qb (by simp <;> omega)) hold_nil))))))) (still_cons rfl (still_cons rfl (still_cons (renL_flat _ _ (ents_flat _)) (still_cons (renL_flat _ _ (ints_flat _)) still_nil))))
        rw [← hR]
        exact ⟨_, 200, s1, hS, k1, .inr ⟨_, _, k2, k3⟩⟩
      | true =>
        rw [hless, if_pos rfl] at hR
        have hav := hw.lo _ _ ga
        have hbv := hw.lo _ _ gb
        have h := t331 n m E Pl j (eAt E i).1 (eAt E i).2 (eAt E j).1 (eAt E j).2
        simp only [hix, hi1, hj1, Int.toNat_natCast] at h
        unfold rnd33 at h
        obtain ⟨s1, k1, k2, k3⟩ := xround_of h (hold_cons (qb (by simp <;> omega)) (hold_cons (qb (by simp <;> omega)) (hold_cons (qb (by simp <;> omega)) (hold_cons (qb (by simp <;> omega)) (hold_cons (lessQ hQ hlt hlti hless) (hold_cons (qb (by simp <;> omega)) (hold_cons (qb (by simp <;> omega)) (hold_cons (qib (by omega)) (hold_cons (ldE' gb) (hold_cons (qib (by omega)) (hold_cons (ldE' ga) (hold_cons (qib (by omega)) (hold_cons (stE (by omega)) (hold_cons (qib (by omega)) (hold_cons (stE (by simp only [List.length_set]; omega)) (hold_cons (qib (by omega)) (hold_cons (ldE0 (get_set2 (by omega) (by omega))) (hold_cons (qib (by omega)) (hold_cons (stI (by omega)) (hold_cons (qib (by omega)) (hold_cons (ldE0 (get_set_hit (by simp only [List.length_set]; omega))) (hold_cons (qib (by omega)) (hold_cons (stI (by simp only [List.length_set]; omega)) hold_nil))))))))))))))))))))))) (still_cons rfl (still_cons rfl (still_cons (renL_flat _ _ (ents_flat _)) (still_cons (renL_flat _ _ (ints_flat _)) still_nil))))
        exact ⟨_, 200, s1, hS, k1, .inl ⟨_, _, _, ((swapE E i j, swapP Pl E i j), i), k2, k3, ⟨hw.swap (by omega) (by omega) (by omega), by rw [swapE_len]; exact hn, by rw [swapP_len]; exact hm, hlti, hR⟩, hij⟩⟩
end Go.Proofs.Ythocfeccinpbmaa

open Go Go.Am Go.Proofs
namespace Go.Proofs.Ythocfeccinpbmaa
set_option maxRecDepth 100000

/- What turns the entries and the places, where they lie. -/
theorem inPlace {f : FuncId} {q : QX} {M : Mem} (h : q.At M) {args : List Value} {n : Nat} {SP : Specs} {args0 : List Value} {v : Value} {Ef : List En} {Plf : List Int} {M0 : Mem} (hS : ∀ B, SpecsOk Try.prog [] B SP)
    (hr : Go.Am.arun Try.prog [] SP n f args0 (startMem (small q.E q.Pl) 4) = some (v, M0)) (h2 : M0.get 2 = some (own (ents Ef) 43 2)) (h3 : M0.get 3 = some (own (ints Plf) 3 1)) (hl : ∀ t ∈ M0.log, t < 4 → t = 2 ∨ t = 3)
    (ha : renL (mvIn 0 [q.p, q.r, q.e, q.pl]) args = some args0) (hv : flat v = true) :
    ∃ src l n SP args0 v0 M0 keepJ newsS, FromMut Try.prog f args M v [(q.e, some (own (ents Ef) 43 2)), (q.pl, some (own (ints Plf) 3 1))] [] src l n SP args0 v0 M0 keepJ newsS := by
  refine ⟨[q.p, q.r, q.e, q.pl], small q.E q.Pl, n, SP, args0, v, M0, [0, 1, 2, 3], [], hS, hr, h.dist, small_in h, ha, fun t ht hlt => ?_, small_lt h, fun a ha => ?_, fun j hj => ?_, fun a b hab => ?_, fun i b hb => (by simp at hb), rfl, rfl, fun s hs => (by cases hs), renV_flat _ _ hv⟩
  · rcases hl t ht hlt with rfl | rfl
    · exact ⟨⟨(2, own (ents q.E) 43 2), by simp [small], rfl, .inl rfl⟩, q.e, rfl, by simp⟩
    · exact ⟨⟨(3, own (ints q.Pl) 3 1), by simp [small], rfl, .inl rfl⟩, q.pl, rfl, by simp⟩
  · simp only [List.map_cons, List.map_nil, List.mem_cons, List.not_mem_nil, or_false] at ha
    rcases ha with rfl | rfl
    · exact ⟨2, rfl⟩
    · exact ⟨3, rfl⟩
  · simp only [List.mem_cons, List.not_mem_nil, or_false] at hj
    rcases hj with rfl | rfl | rfl | rfl <;> simp
  · simp only [List.mem_cons, List.not_mem_nil, or_false, Prod.mk.injEq, Option.some.injEq] at hab
    rcases hab with ⟨rfl, rfl⟩ | ⟨rfl, rfl⟩
    · exact ⟨2, _, by simp, rfl, h2, ⟨[], by rw [List.append_nil]; exact renL_flat _ _ (ents_flat _)⟩, rfl⟩
    · exact ⟨3, _, by simp, rfl, h3, ⟨[], by rw [List.append_nil]; exact renL_flat _ _ (ints_flat _)⟩, rfl⟩

/- heap.up -/
structure UX where
  q : QX
  j : Nat
def UD (x : UX) (args : List Value) (M : Mem) : Prop := x.q.At M ∧ args = [.iface 56 (pt x.q.p 0), i64 (x.j : Int)] ∧ WF x.q.E x.q.Pl ∧ x.j < x.q.E.length
def UR (x : UX) (_ : Mem) : Value × List (Nat × Option ABlk) × List ABlk := (.tuple #[], [(x.q.e, some (own (ents (upR x.q.E x.q.Pl x.j).1) 43 2)), (x.q.pl, some (own (ints (upR x.q.E x.q.Pl x.j).2) 3 1))], [])
theorem UD.inj : ∀ args M (x y : UX), UD x args M → UD y args M → x = y := fun args M x y ⟨h1, h2, _, _⟩ ⟨k1, k2, _, _⟩ => by
  subst h2
  obtain ⟨q, j⟩ := x
  obtain ⟨q', j'⟩ := y
  simp only [List.cons.injEq, Value.iface.injEq, Value.pointer.injEq, Option.some.injEq, Addr.mk.injEq, Value.int.injEq, and_true, true_and] at k2
  obtain ⟨e1, e2⟩ := k2
  obtain rfl := QX.inj e1 h1 k1
  congr 1; omega
theorem ok33 (B : Nat) : SpecOk Try.prog [] B 33 (gOf UD UR) := SpecOk.gOf noNumP mixedP fun x args M h => by
  obtain ⟨⟨q, j⟩, rfl⟩ : ∃ y, x = y := ⟨x, rfl⟩
  obtain ⟨h1, rfl, h3, h4⟩ := h
  simp only at h1 h3 h4
  have hn : Nat.ble 2 Try.f33.ntmps = true := by kernel_rfl
  have hm := m33 q.E.length q.Pl.length q.E (upR q.E q.Pl j).1 q.Pl (upR q.E q.Pl j).2 j (loopG (.loop loop33) D33 (I33 q.E.length q.Pl.length ((q.E, q.Pl), j)) (.normal, E33 q.E.length q.Pl.length (upR q.E q.Pl j).1 (upR q.E q.Pl j).2 20))
  unfold run33 at hm
  obtain ⟨M0, k1, k2⟩ := xrun_of (look := fun M => M) Try.func33 body33 (by exact hn) hm (.inl rfl) (hold_cons (qbk rfl rfl rfl (still_cons rfl (still_cons rfl (still_cons (renL_flat _ _ (ents_flat _)) (still_cons (renL_flat _ _ (ints_flat _)) still_nil))))) hold_nil)
  have t0 : toTgt (mvIn 0 [q.p, q.r, q.e, q.pl]) q.p = some 0 := toTgt_in (t := 0) h1.dist rfl
  subst k2
  exact inPlace h1 (fun B => specs33 _ B (fun p hp => by rw [List.mem_singleton.1 hp]; exact loop33_ok q.E q.Pl j h3 h4 B)) k1 rfl rfl (fun t ht _ => by
    have : t ∈ [2, 3] := ht
    simpa using this) (by simp only [renL, renV, renAddr, t0, leaf, cond_true]) rfl
end Go.Proofs.Ythocfeccinpbmaa
