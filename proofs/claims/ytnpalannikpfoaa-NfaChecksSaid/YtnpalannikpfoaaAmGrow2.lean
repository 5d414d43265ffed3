/-
  What is proved: NfaChecks: whether any machine of many ways is allowed is what the document's own reading says; one that is made of numbers is; so is one with one thing of it turned. For every argument.
-/
import Derived.Test.YtnpalannikpfoaaAmGrow
noncomputable section
namespace Go.Am
open Go Go.ChangeShapes Go.WideShapes
variable {P : Program} {GL : List Nat} {w : World} {φ : Emb}
theorem calls_ev {f : FuncId} {args args' : List Value} {v : Value} {M' : Mem} {l : List (Nat × ABlk)} {next : Nat}
    (hK : Knows1 P GL φ l next w) (h : Ev P GL f args (startMem l next) v M') (ha : LRel φ args args') :
    Calls P f args'.toArray w fun e w' => ∃ φ' v', e = .returned v' ∧ Kept w w' ∧ VRel φ' v v' ∧ φ.le φ' ∧ Rel P GL w.heap.size φ' M' w' := by
  have hG : Good φ (startMem l next) M' := fun id h1 _ => hK.fresh id h1
  have hc := h.run w.heap.size φ w hK.rel hG args'.toArray ha
  refine hc.mono fun e w' ⟨L, φ', v', he, hlog, hp, hv'⟩ => ⟨φ', v', he, ⟨hp.fr.os, hp.fr.output, hp.fr.size, fun k hk => ?_⟩, hv', hp.le hG, hp.rel⟩
  rcases hp.fr.block k hk with h1 | ⟨h2, _⟩
  · exact h1
  · omega
theorem MemOk.start (l : List (Nat × ABlk)) (n : Nat) : MemOk (startMem l n) := fun id h => by simp [startMem, hidden] at h
theorem blkTree_get : ∀ {l : List (Nat × ABlk)} {p : Nat × ABlk}, (l.map (·.1)).Nodup → p ∈ l → (blkTree l).get p.1 = some p.2
  | [], _, _, h => by cases h
  | (i, b) :: l, p, hn, h => by
    simp only [List.map_cons, List.nodup_cons] at hn
    unfold blkTree
    rw [Tr.get_set]
    rcases List.mem_cons.1 h with h | h
    · rw [h, if_pos rfl]
    · have : p.1 ≠ i := fun he => hn.1 (he ▸ List.mem_map.2 ⟨p, h, rfl⟩)
      rw [if_neg this]
      exact blkTree_get hn.2 h
theorem Laid.has {m : Nat} {bs : List (Nat × ABlk)} {φ0 : Emb} (h : Laid P w 0 m bs φ0) : Has (startMem bs m) bs := fun p hp =>
  get_spec.2 ⟨(h.ids p hp).2, rfl, blkTree_get h.nodup hp⟩
theorem Laid.knows {m : Nat} {bs : List (Nat × ABlk)} {φ0 : Emb} (h : Laid P w 0 m bs φ0) : Knows1 P [] φ0 bs m w := ⟨fun p hp => by
  obtain ⟨e, h1, h2⟩ := h.rel p hp
  exact ⟨e, h1, h2 φ0 (Emb.le_refl _)⟩, h.ro, fun g hg => (by cases hg), fun id hid => by
  cases hh : φ0 id with
  | none => rfl
  | some e => have := h.dom id e hh; omega⟩
section
variable {H : Type} {enc : TypeId × Value → H} {S E : TypeId} {k : Nat} {fs : Array Field} {held : Bool}
end
end Go.Am
end
