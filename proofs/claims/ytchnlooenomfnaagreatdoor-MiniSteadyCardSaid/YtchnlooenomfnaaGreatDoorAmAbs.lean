/-
  What is proved: MiniSteady: a machine of Make's is steady just if a letter twice is a letter once: for every x, y, every word. For every argument; one laid table (math/bits) is tied by the card.
-/
import Derived.Test.YtchnlooenomfnaaGreatDoorAmRel
set_option linter.unusedVariables false
set_option linter.unusedSimpArgs false
noncomputable section
namespace Go.Am
open Go
variable {P : Program} {GL : List Nat}
structure Abs (M M' : Mem) (L : List Nat) : Prop where
  hide : M'.hide = M.hide
  next : M.next ≤ M'.next
  log : M'.log = L ++ M.log
  keep : ∀ id, id < M.next → id ∉ L → M'.blks.get id = M.blks.get id
  logb : ∀ t ∈ L, t < M'.next
theorem Abs.refl (M : Mem) : Abs M M [] := ⟨rfl, Nat.le_refl _, rfl, fun _ _ _ => rfl, fun t ht => by cases ht⟩
theorem Abs.trans {M M1 M2 : Mem} {L1 L2 : List Nat} (h : Abs M M1 L1) (k : Abs M1 M2 L2) : Abs M M2 (L2 ++ L1) :=
  ⟨k.hide.trans h.hide, Nat.le_trans h.next k.next, by rw [k.log, h.log, List.append_assoc], fun id hi hn => by
    rw [k.keep id (Nat.lt_of_lt_of_le hi h.next) (fun x => hn (by simp [x])), h.keep id hi (fun x => hn (by simp [x]))], fun t ht => by
    rcases List.mem_append.1 ht with ht | ht
    · exact k.logb t ht
    · exact Nat.lt_of_lt_of_le (h.logb t ht) k.next⟩
theorem Abs.alloc (M : Mem) (b : ABlk) : Abs M (M.alloc b) [] :=
  ⟨rfl, Nat.le_succ _, rfl, fun id hi _ => by simp only [Mem.alloc, Tr.get_set]; rw [if_neg (by omega)], fun t ht => by cases ht⟩
theorem Abs.put (M : Mem) {i : Nat} (hi : i < M.next) (b : Option ABlk) : Abs M (M.put i b) [i] :=
  ⟨rfl, Nat.le_refl _, rfl, fun id _ hn => by
    simp only [Mem.put, Tr.get_set]
    rw [if_neg (by simpa using hn)], fun t ht => by simp at ht; subst ht; exact hi⟩
def CallAbs (callF : CallF) : Prop := ∀ f args M v M', callF f args M = some (v, M') → ∃ L, Abs M M' L
structure OpAbs (k : Nat) (M M' : Mem) : Prop where
  quiet : k = 0 → M' = M
  ex : ∃ L, Abs M M' L ∧ (k ≤ 1 → L = [])
theorem OpAbs.one {M : Mem} : OpAbs 1 M M := ⟨fun h => (by cases h), [], Abs.refl M, fun _ => rfl⟩
theorem OpAbs.zero {M : Mem} : OpAbs 0 M M := ⟨fun _ => rfl, [], Abs.refl M, fun _ => rfl⟩
theorem OpAbs.alloc {M : Mem} {b : ABlk} : OpAbs 1 M (M.alloc b) := ⟨fun h => (by cases h), [], Abs.alloc M b, fun _ => rfl⟩
theorem OpAbs.put {M : Mem} {i : Nat} {b : Option ABlk} (hi : i < M.next) : OpAbs 2 M (M.put i b) := ⟨fun h => (by cases h), [i], Abs.put M hi b, fun h => by omega⟩
theorem OpAbs.putAlloc {M : Mem} {i : Nat} {x : Option ABlk} {b : ABlk} (hi : i < M.next) : OpAbs 2 M ((M.put i x).alloc b) :=
  ⟨fun h => (by cases h), [] ++ [i], (Abs.put M hi x).trans (Abs.alloc _ b), fun h => by omega⟩
theorem OpAbs.made {M M' : Mem} {v : Value} {z : Nat} {elem : TypeId} {cs : List Value} {k : Nat} {r : AR} (h : Go.Am.made v (anew z elem cs M) = some (k, r, M')) : OpAbs k M M' := by
  simp [Go.Am.made] at h
  obtain ⟨rfl, _, rfl⟩ := h
  exact OpAbs.alloc
theorem below_spec {m : Nat} : ∀ {l : List Nat} {t : Nat}, t ∈ l → t < m → t ∈ below m l
  | [], _, h, _ => by cases h
  | x :: l, t, h, hlt => by
    unfold below
    rcases List.mem_cons.1 h with rfl | h
    · have : Nat.blt t m = true := Nat.ble_eq_true_of_le hlt
      simp [this]
    · cases hb : Nat.blt x m <;> simp [below_spec h hlt]
theorem below_lt' {m t : Nat} : ∀ {l : List Nat}, t ∈ below m l → t < m
  | [], h => by cases h
  | x :: l, h => by
    unfold below at h
    cases hb : Nat.blt x m <;> simp only [hb, cond_true, cond_false] at h
    · exact below_lt' h
    · rcases List.mem_cons.1 h with rfl | h
      · exact Nat.le_of_ble_eq_true hb
      · exact below_lt' h
theorem acall_abs {callF : CallF} (hC : CallAbs callF) {f : FuncId} {args : List Value} {M M' : Mem} {k : Nat} {r : AR} (h : acall callF f args M = some (k, r, M')) : OpAbs k M M' := by
  unfold acall at h
  split at h
  · rename_i v M1 hcall
    obtain ⟨L, h1, h2, h3, h4, h5⟩ := hC _ _ _ _ _ hcall
    simp only [List.append_nil] at h3
    split at h
    · rename_i hnil
      simp at h
      obtain ⟨rfl, _, rfl⟩ := h
      refine ⟨fun h => (by cases h), [], ⟨rfl, h2, rfl, fun id hi _ => h4 id hi fun hm => ?_, fun t ht => by cases ht⟩, fun _ => rfl⟩
      have := below_spec (h3 ▸ hm) hi
      rw [hnil] at this; cases this
    · simp at h
      obtain ⟨rfl, _, rfl⟩ := h
      exact ⟨fun h => (by cases h), _, ⟨rfl, h2, rfl, fun id hi hn => h4 id hi fun hm => hn (below_spec (h3 ▸ hm) hi), fun t ht => Nat.lt_of_lt_of_le (below_lt' ht) h2⟩, fun h => by omega⟩
  · simp at h
theorem aop_abs {callF : CallF} (hC : CallAbs callF) {o : Oper} {T : Tr Value} {M M' : Mem} {k : Nat} {r : AR} (h : aop P GL callF o T M = some (k, r, M')) : OpAbs k M M' := by
  unfold aop at h
  split at h
  · simp at h
    obtain ⟨rfl, _, rfl⟩ := h
    exact OpAbs.zero
  · replace h : aop1 P GL callF o T M = some (k, r, M') := by
      split at h
      · cases h
      · exact h
    unfold aop1 at h
    split at h
    · unfold aalloc at h
      split at h <;> try (simp at h; done)
      split at h <;> try (simp at h; done)
      rename_i i z _ _ _ v _
      cases hb : (flat v && v.cells.toList.all isCell) <;> simp only [hb, cond_true, cond_false] at h
      · simp at h
      · exact OpAbs.made h
    · split at h <;> try (simp at h; done)
      rename_i v _
      unfold abox at h
      split at h <;> try (simp at h; done)
      cases hb : (v.cells.toList.all isCell) <;> simp only [hb, cond_true, cond_false] at h
      · simp at h
      · exact OpAbs.made h
    · split at h <;> try (simp at h; done)
      unfold abuildSlice at h
      split at h <;> try (simp at h; done)
      split at h <;> try (simp at h; done)
      split at h <;> try (simp at h; done)
      rename_i e _ _ z _
      generalize (flat z && z.cells.toList.all isCell && Nat.beq z.cells.toList.length e.size && !Nat.beq e.size 0 && Nat.ble _ (2 ^ 24)) = b at h
      cases b <;> simp only [cond_true, cond_false] at h
      · simp at h
      · split at h <;> try (simp at h; done)
        rename_i cs _
        cases hb : cs.all isCell <;> simp only [hb, cond_true, cond_false] at h
        · simp at h
        · exact OpAbs.made h
    · split at h <;> try (simp at h; done)
      split at h <;> try (simp at h; done)
      simp at h
      obtain ⟨rfl, _, rfl⟩ := h
      exact OpAbs.one
    · split at h <;> try (simp at h; done)
      split at h <;> try (simp at h; done)
      rename_i M1 hs
      simp at h
      obtain ⟨rfl, _, rfl⟩ := h
      unfold astore at hs
      split at hs <;> try (simp at hs; done)
      rename_i b i hgb _
      generalize (Nat.beq _ i.size && _ && _ && _) = q at hs
      cases q <;> simp only [cond_true, cond_false] at hs
      · simp at hs
      · simp at hs; subst hs; exact OpAbs.put (get_spec.1 hgb).1
    · split at h <;> try (simp at h; done)
      unfold aconvert at h
      split at h <;> try (simp at h; done)
      · split at h <;> try (simp at h; done)
        rename_i i _ _
        generalize (Nat.beq i.size 1 && _) = q at h
        cases q <;> simp only [cond_true, cond_false] at h
        · simp at h
        · exact OpAbs.made h
      · split at h <;> try (simp at h; done)
        split at h <;> try (simp at h; done)
        split at h <;> try (simp at h; done)
        simp at h
        obtain ⟨rfl, _, rfl⟩ := h
        exact OpAbs.one
      · split at h <;> try (simp at h; done)
        generalize (_ || _) = q at h
        cases q <;> simp only [cond_true, cond_false] at h
        · simp at h
          obtain ⟨rfl, _, rfl⟩ := h
          exact OpAbs.one
        · simp at h
      · split at h <;> try (simp at h; done)
        generalize (_ || _ || _ || _ || _) = q at h
        cases q <;> simp only [cond_true, cond_false] at h
        · simp at h
          obtain ⟨rfl, _, rfl⟩ := h
          exact OpAbs.one
        · simp at h
    · split at h <;> try (simp at h; done)
      unfold amakeSlice at h
      split at h <;> try (simp at h; done)
      split at h <;> try (simp at h; done)
      split at h <;> try (simp at h; done)
      rename_i e _ _ z _
      generalize (flat z && _ && _ && _ && _ && _ && _ && _) = b at h
      cases b <;> simp only [cond_true, cond_false] at h
      · simp at h
      · exact OpAbs.made h
    · split at h <;> try (simp at h; done)
      split at h <;> try (simp at h; done)
      simp at h
      obtain ⟨rfl, _, rfl⟩ := h
      exact OpAbs.one
    · split at h
      · split at h <;> try (simp at h; done)
        split at h
        · rename_i g _ _ _
          cases hb : hasBody P g <;> simp only [hb, cond_true, cond_false] at h
          · unfold anoesc at h
            split at h <;> try (simp at h; done)
            generalize (_ && _) = q at h
            cases q <;> simp only [cond_true, cond_false] at h
            · simp at h
            · simp at h
              obtain ⟨rfl, _, rfl⟩ := h
              exact OpAbs.one
          · exact acall_abs hC h
        · unfold ayield at h
          split at h <;> try (simp at h; done)
          exact acall_abs hC h
      · split at h <;> try (simp at h; done)
        split at h <;> try (simp at h; done)
        rename_i g _
        cases hb : hasBody P g <;> simp only [hb, cond_true, cond_false] at h
        · simp at h
        · exact acall_abs hC h
      · split at h <;> try (simp at h; done)
        unfold aappend at h
        split at h <;> try (simp at h; done)
        split at h <;> try (simp at h; done)
        split at h <;> try (simp at h; done)
        split at h <;> try (simp at h; done)
        · generalize (!_ || _ || _) = q at h
          cases q <;> simp only [cond_true, cond_false] at h
          · rename_i n _ _ _ _ _ _ _ _
            generalize Nat.beq _ 0 = q at h
            cases q <;> simp only [cond_true, cond_false] at h
            · exact OpAbs.made h
            · simp at h
              obtain ⟨rfl, _, rfl⟩ := h
              exact OpAbs.one
          · simp at h
        · split at h <;> try (simp at h; done)
          split at h <;> try (simp at h; done)
          generalize (!_ || _ || _ || _ || _ || _) = q at h
          cases q <;> simp only [cond_true, cond_false] at h
          · generalize Nat.beq _ 0 = q at h
            cases q <;> simp only [cond_true, cond_false] at h
            · generalize Nat.beq _ _ = q at h
              cases q <;> simp only [cond_true, cond_false] at h
              · generalize (ABlk.app _ && _) = q at h
                cases q <;> simp only [cond_true, cond_false] at h
                · simp at h
                · generalize (keepT _ _ && _) = q at h
                  cases q <;> simp only [cond_true, cond_false] at h
                  · generalize (_ || _) = q at h
                    cases q <;> simp only [cond_true, cond_false] at h
                    · simp at h
                    · simp at h
                      obtain ⟨rfl, _, rfl⟩ := h
                      exact OpAbs.putAlloc (get_spec.1 ‹M.get _ = some _›).1
                  · simp at h
                    obtain ⟨rfl, _, rfl⟩ := h
                    exact OpAbs.putAlloc (get_spec.1 ‹M.get _ = some _›).1
              · exact OpAbs.made h
            · simp at h
              obtain ⟨rfl, _, rfl⟩ := h
              exact OpAbs.one
          · simp at h
      · split at h <;> try (simp at h; done)
        unfold acopy at h
        split at h <;> try (simp at h; done)
        split at h <;> try (simp at h; done)
        split at h <;> try (simp at h; done)
        · simp at h
          obtain ⟨rfl, _, rfl⟩ := h
          exact OpAbs.one
        · split at h <;> try (simp at h; done)
          generalize (!_ || _ || _ || _) = q at h
          cases q <;> simp only [cond_true, cond_false] at h
          · simp at h
            obtain ⟨rfl, _, rfl⟩ := h
            exact OpAbs.put (get_spec.1 ‹M.get _ = some _›).1
          · simp at h
      · split at h <;> try (simp at h; done)
        unfold aclear at h
        split at h <;> try (simp at h; done)
        split at h <;> try (simp at h; done)
        split at h <;> try (simp at h; done)
        generalize (_ && _ && _ && _ && _ && _) = q at h
        cases q <;> simp only [cond_true, cond_false] at h
        · simp at h
        · simp at h
          obtain ⟨rfl, _, rfl⟩ := h
          exact OpAbs.put (get_spec.1 ‹M.get _ = some _›).1
      · split at h <;> try (simp at h; done)
        unfold aunstr at h
        split at h <;> try (simp at h; done)
        split at h <;> try (simp at h; done)
        split at h <;> try (simp at h; done)
        split at h <;> try (simp at h; done)
        generalize (_ && _ && _ && _ && _) = q at h
        cases q <;> simp only [cond_true, cond_false] at h
        · simp at h
        · simp at h
          obtain ⟨rfl, _, rfl⟩ := h
          exact OpAbs.put (get_spec.1 ‹M.get _ = some _›).1
      · simp at h
    · split at h <;> try (simp at h; done)
      unfold amakeMap at h
      split at h <;> try (simp at h; done)
      generalize intO _ = q at h
      cases q <;> simp only [cond_true, cond_false] at h
      · simp at h
      · simp at h
        obtain ⟨rfl, _, rfl⟩ := h
        exact OpAbs.alloc
    · split at h <;> try (simp at h; done)
      unfold alookup at h
      split at h <;> try (simp at h; done)
      split at h <;> try (simp at h; done)
      generalize (_ && _) = q at h
      cases q <;> simp only [cond_true, cond_false] at h
      · simp at h
      · split at h
        all_goals
          simp at h
          obtain ⟨rfl, _, rfl⟩ := h
          exact OpAbs.one
    · split at h <;> try (simp at h; done)
      unfold amapUpdate at h
      split at h <;> try (simp at h; done)
      split at h <;> try (simp at h; done)
      rename_i hb
      generalize (_ && _) = q at h
      cases q <;> simp only [cond_true, cond_false] at h
      · simp at h
      · simp at h
        obtain ⟨rfl, _, rfl⟩ := h
        exact OpAbs.put (getA_spec.1 (getM_spec.1 hb).1).1
    · simp at h
end Go.Am
end
