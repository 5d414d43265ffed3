/-
  DfaFlat: with all states turned to accept what they did not a machine takes just what it did not
-/
import Derived.Test.YtepgijgmnijdpaaDoorAmTree
import Derived.Test.YtepgijgmnijdpaaDoorAmArgs
noncomputable section
namespace Go.Am
open Go Go.ChangeShapes Go.WideShapes
variable {P : Program} {w : World}
structure Laid (P : Program) (w : World) (n m : Nat) (bs : List (Nat × ABlk)) (φ0 : Emb) : Prop where
  le : n ≤ m
  dom : ∀ i e, φ0 i = some e → n ≤ i ∧ i < m
  ids : ∀ p ∈ bs, n ≤ p.1 ∧ p.1 < m
  nodup : (bs.map (·.1)).Nodup
  ro : ∀ p ∈ bs, p.2.app = false ∧ p.2.wf = p.2.cs.length
  rel : ∀ p ∈ bs, ∃ ent, φ0 p.1 = some ent ∧ ∀ φ : Emb, φ0.le φ → BRel P w.heap.size φ w ent p.2
def Has (M : Mem) (bs : List (Nat × ABlk)) : Prop := ∀ p ∈ bs, M.get p.1 = some p.2
theorem Laid.nil (n : Nat) : Laid P w n n [] (fun _ => Option.none) := by
  refine ⟨Nat.le_refl _, fun i e h => ?_, fun p h => ?_, by simp, fun p h => ?_, fun p h => ?_⟩ <;> cases h
def both (φ1 φ2 : Emb) : Emb := fun i => match φ1 i with | some e => some e | none => φ2 i
theorem both_l (φ1 φ2 : Emb) : φ1.le (both φ1 φ2) := fun i e h => by simp only [both, h]
theorem both_r {n m k : Nat} {b1 b2 : List (Nat × ABlk)} {φ1 φ2 : Emb} (h1 : Laid P w n m b1 φ1) (h2 : Laid P w m k b2 φ2) : φ2.le (both φ1 φ2) := fun i e h => by
  have h3 := h2.dom i e h
  simp only [both]
  cases hh : φ1 i with
  | none => exact h
  | some e' => have := h1.dom i e' hh; omega
theorem Laid.join {n m k : Nat} {b1 b2 : List (Nat × ABlk)} {φ1 φ2 : Emb} (h1 : Laid P w n m b1 φ1) (h2 : Laid P w m k b2 φ2) : Laid P w n k (b1 ++ b2) (both φ1 φ2) := by
  have hr := both_r h1 h2
  refine ⟨Nat.le_trans h1.le h2.le, fun i e h => ?_, fun p hp => ?_, ?_, fun p hp => ?_, fun p hp => ?_⟩
  · simp only [both] at h
    cases hh : φ1 i with
    | none => rw [hh] at h; have := h2.dom i e h; have := h1.le; omega
    | some e' => have := h1.dom i e' hh; have := h2.le; omega
  · rcases List.mem_append.1 hp with hp | hp
    · have := h1.ids p hp; have := h2.le; omega
    · have := h2.ids p hp; have := h1.le; omega
  · rw [List.map_append, List.nodup_append]
    refine ⟨h1.nodup, h2.nodup, fun a ha b hb => ?_⟩
    obtain ⟨p, hp, rfl⟩ := List.mem_map.1 ha
    obtain ⟨q, hq, rfl⟩ := List.mem_map.1 hb
    have := h1.ids p hp; have := h2.ids q hq
    omega
  · rcases List.mem_append.1 hp with hp | hp
    · exact h1.ro p hp
    · exact h2.ro p hp
  · rcases List.mem_append.1 hp with hp | hp
    · obtain ⟨e, k1, k2⟩ := h1.rel p hp
      exact ⟨e, both_l φ1 φ2 _ _ k1, fun φ h => k2 φ (fun i e hi => h i e (both_l φ1 φ2 i e hi))⟩
    · obtain ⟨e, k1, k2⟩ := h2.rel p hp
      exact ⟨e, hr _ _ k1, fun φ h => k2 φ (fun i e hi => h i e (hr i e hi))⟩
theorem Has.left {M : Mem} {b1 b2 : List (Nat × ABlk)} (h : Has M (b1 ++ b2)) : Has M b1 := fun p hp => h p (List.mem_append_left _ hp)
theorem Has.right {M : Mem} {b1 b2 : List (Nat × ABlk)} (h : Has M (b1 ++ b2)) : Has M b2 := fun p hp => h p (List.mem_append_right _ hp)
section
variable {H : Type} {enc : TypeId × Value → H} {S E : TypeId} {k : Nat} {fs : Array Field}
theorem flat_at {c : Array Value} {d : Nat} : ∀ {css : List (List Value)} {o : Nat}, (∀ i cs, css[i]? = some cs → cs.length = d ∧ ∀ j, j < d → c[o + i * d + j]? = cs[j]?) → ∀ j v, css.flatten[j]? = some v → c[o + j]? = some v
  | [], o, _, j, v, hv => by simp at hv
  | cs :: css, o, h, j, v, hv => by
    obtain ⟨h1, h2⟩ := h 0 cs rfl
    simp only [List.flatten_cons] at hv
    by_cases hj : j < d
    · rw [List.getElem?_append_left (by omega)] at hv
      have := h2 j hj
      rw [Nat.zero_mul, Nat.add_zero] at this
      rw [this, hv]
    · rw [List.getElem?_append_right (by omega)] at hv
      have := flat_at (c := c) (d := d) (css := css) (o := o + d) (fun i cs' hi => by
        obtain ⟨k1, k2⟩ := h (i + 1) cs' (by simpa using hi)
        refine ⟨k1, fun j hj => ?_⟩
        rw [← k2 j hj]
        congr 1
        rw [Nat.succ_mul]
        omega) (j - cs.length) v hv
      rw [h1] at this
      rw [← this]
      congr 1
      omega
theorem add_none {a : Addr} (h : a.spot = none) (n : Nat) : a.add n = ⟨a.block, a.off + n, none⟩ := by
  cases a
  simp only at h
  subst h
  exact add_norm _ _ _
end
end Go.Am
end

noncomputable section
namespace Go.Am
open Go Go.ChangeShapes Go.WideShapes
variable {P : Program} {GL : List Nat} {w : World} {φ : Emb}
theorem calls_ev {f : FuncId} {args args' : List Value} {v : Value} {M' : Mem} {l : List (Nat × ABlk)} {next : Nat}
    (hK : Knows1 P GL φ l next w) (h : Ev P GL f args (startMem l next) v M') (ha : LRel φ args args') :
    Calls P f args'.toArray w fun e w' => ∃ φ' v', e = .returned v' ∧ Kept w w' ∧ VRel φ' v v' ∧ φ.le φ' ∧ Rel P GL w.heap.size φ' M' w' := by
  have hG : Good φ (startMem l next) M' := fun id h1 _ => hK.fresh id h1
  have hc := h.run w.heap.size φ w hK.rel hG args'.toArray ha
  refine hc.mono fun e w' ⟨L, φ', v', he, hlog, hp, hv'⟩ => ⟨φ', v', he, ⟨hp.fr.os, hp.fr.output, hp.fr.size, fun k hk => ?_⟩, hv', hp.le hG, hp.rel⟩
  rcases hp.fr.block k hk with h1 | ⟨h2, _⟩
  · exact h1
  · exact absurd h2.1 (Nat.not_le.2 hk)
theorem MemOk.start (l : List (Nat × ABlk)) (n : Nat) : MemOk (startMem l n) := fun id h => by simp [startMem, hidden] at h
theorem blkTree_get : ∀ {l : List (Nat × ABlk)} {p : Nat × ABlk}, (l.map (·.1)).Nodup → p ∈ l → (blkTree l).get p.1 = some p.2
  | [], _, _, h => by cases h
  | (i, b) :: l, p, hn, h => by
    simp only [List.map_cons, List.nodup_cons] at hn
    unfold blkTree
    rw [Tr.get_set]
    rcases List.mem_cons.1 h with h | h
    · rw [h, if_pos rfl]
    · have : p.1 ≠ i := fun he => hn.1 (he ▸ List.mem_map.2 ⟨p, h, rfl⟩)
      rw [if_neg this]
      exact blkTree_get hn.2 h
theorem Laid.has {m : Nat} {bs : List (Nat × ABlk)} {φ0 : Emb} (h : Laid P w 0 m bs φ0) : Has (startMem bs m) bs := fun p hp =>
  get_spec.2 ⟨(h.ids p hp).2, rfl, blkTree_get h.nodup hp⟩
theorem Laid.knows {m : Nat} {bs : List (Nat × ABlk)} {φ0 : Emb} (h : Laid P w 0 m bs φ0) : Knows1 P [] φ0 bs m w := ⟨fun p hp => by
  obtain ⟨e, h1, h2⟩ := h.rel p hp
  exact ⟨e, h1, h2 φ0 (Emb.le_refl _)⟩, h.ro, fun g hg => (by cases hg), fun id hid => by
  cases hh : φ0 id with
  | none => rfl
  | some e => have := h.dom id e hh; omega⟩
section
variable {H : Type} {enc : TypeId × Value → H} {S E : TypeId} {k : Nat} {fs : Array Field} {held : Bool}
end
end Go.Am
end

noncomputable section
namespace Go.Am
open Go Go.ChangeShapes Go.WideShapes
variable {P : Program} {w : World} {H : Type} {enc : TypeId × Value → H} {S E : TypeId} {k : Nat} {fs : Array Field} {held : Bool}
end Go.Am
end
