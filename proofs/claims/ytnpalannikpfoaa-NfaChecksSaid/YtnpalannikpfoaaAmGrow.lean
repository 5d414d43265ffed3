/-
  What is proved: NfaChecks: whether any machine of many ways is allowed is what the document's own reading says; one that is made of numbers is; so is one with one thing of it turned. For every argument.
-/
import Derived.Test.YtnpalannikpfoaaAmTree
import Derived.Test.YtnpalannikpfoaaAmArgs
noncomputable section
namespace Go.Am
open Go Go.ChangeShapes Go.WideShapes
variable {P : Program} {w : World}
structure Laid (P : Program) (w : World) (n m : Nat) (bs : List (Nat × ABlk)) (φ0 : Emb) : Prop where
  le : n ≤ m
  dom : ∀ i e, φ0 i = some e → n ≤ i ∧ i < m
  ids : ∀ p ∈ bs, n ≤ p.1 ∧ p.1 < m
  nodup : (bs.map (·.1)).Nodup
  ro : ∀ p ∈ bs, p.2.app = false ∧ p.2.wf = p.2.cs.length
  rel : ∀ p ∈ bs, ∃ ent, φ0 p.1 = some ent ∧ ∀ φ : Emb, φ0.le φ → BRel P w.heap.size φ w ent p.2
def Has (M : Mem) (bs : List (Nat × ABlk)) : Prop := ∀ p ∈ bs, M.get p.1 = some p.2
theorem Laid.nil (n : Nat) : Laid P w n n [] (fun _ => Option.none) := by
  refine ⟨Nat.le_refl _, fun i e h => ?_, fun p h => ?_, by simp, fun p h => ?_, fun p h => ?_⟩ <;> cases h
def both (φ1 φ2 : Emb) : Emb := fun i => match φ1 i with | some e => some e | none => φ2 i
theorem both_l (φ1 φ2 : Emb) : φ1.le (both φ1 φ2) := fun i e h => by simp only [both, h]
theorem both_r {n m k : Nat} {b1 b2 : List (Nat × ABlk)} {φ1 φ2 : Emb} (h1 : Laid P w n m b1 φ1) (h2 : Laid P w m k b2 φ2) : φ2.le (both φ1 φ2) := fun i e h => by
  have h3 := h2.dom i e h
  simp only [both]
  cases hh : φ1 i with
  | none => exact h
  | some e' => have := h1.dom i e' hh; omega
theorem Laid.join {n m k : Nat} {b1 b2 : List (Nat × ABlk)} {φ1 φ2 : Emb} (h1 : Laid P w n m b1 φ1) (h2 : Laid P w m k b2 φ2) : Laid P w n k (b1 ++ b2) (both φ1 φ2) := by
  have hr := both_r h1 h2
  refine ⟨Nat.le_trans h1.le h2.le, fun i e h => ?_, fun p hp => ?_, ?_, fun p hp => ?_, fun p hp => ?_⟩
  · simp only [both] at h
    cases hh : φ1 i with
    | none => rw [hh] at h; have := h2.dom i e h; have := h1.le; omega
    | some e' => have := h1.dom i e' hh; have := h2.le; omega
  · rcases List.mem_append.1 hp with hp | hp
    · have := h1.ids p hp; have := h2.le; omega
    · have := h2.ids p hp; have := h1.le; omega
  · rw [List.map_append, List.nodup_append]
    refine ⟨h1.nodup, h2.nodup, fun a ha b hb => ?_⟩
    obtain ⟨p, hp, rfl⟩ := List.mem_map.1 ha
    obtain ⟨q, hq, rfl⟩ := List.mem_map.1 hb
    have := h1.ids p hp; have := h2.ids q hq
    omega
  · rcases List.mem_append.1 hp with hp | hp
    · exact h1.ro p hp
    · exact h2.ro p hp
  · rcases List.mem_append.1 hp with hp | hp
    · obtain ⟨e, k1, k2⟩ := h1.rel p hp
      exact ⟨e, both_l φ1 φ2 _ _ k1, fun φ h => k2 φ (fun i e hi => h i e (both_l φ1 φ2 i e hi))⟩
    · obtain ⟨e, k1, k2⟩ := h2.rel p hp
      exact ⟨e, hr _ _ k1, fun φ h => k2 φ (fun i e hi => h i e (hr i e hi))⟩
theorem Has.left {M : Mem} {b1 b2 : List (Nat × ABlk)} (h : Has M (b1 ++ b2)) : Has M b1 := fun p hp => h p (List.mem_append_left _ hp)
theorem Has.right {M : Mem} {b1 b2 : List (Nat × ABlk)} (h : Has M (b1 ++ b2)) : Has M b2 := fun p hp => h p (List.mem_append_right _ hp)
section
variable {H : Type} {enc : TypeId × Value → H} {S E : TypeId} {k : Nat} {fs : Array Field}
def zOf : Option Value → Int
  | some (Value.int _ z) => z
  | _ => 0
theorem zOf_i64 (z : Int) : zOf (some (i64 z)) = z := rfl
theorem flat_at {c : Array Value} {d : Nat} : ∀ {css : List (List Value)} {o : Nat}, (∀ i cs, css[i]? = some cs → cs.length = d ∧ ∀ j, j < d → c[o + i * d + j]? = cs[j]?) → ∀ j v, css.flatten[j]? = some v → c[o + j]? = some v
  | [], o, _, j, v, hv => by simp at hv
  | cs :: css, o, h, j, v, hv => by
    obtain ⟨h1, h2⟩ := h 0 cs rfl
    simp only [List.flatten_cons] at hv
    by_cases hj : j < d
    · rw [List.getElem?_append_left (by omega)] at hv
      have := h2 j hj
      rw [Nat.zero_mul, Nat.add_zero] at this
      rw [this, hv]
    · rw [List.getElem?_append_right (by omega)] at hv
      have := flat_at (c := c) (d := d) (css := css) (o := o + d) (fun i cs' hi => by
        obtain ⟨k1, k2⟩ := h (i + 1) cs' (by simpa using hi)
        refine ⟨k1, fun j hj => ?_⟩
        rw [← k2 j hj]
        congr 1
        rw [Nat.succ_mul]
        omega) (j - cs.length) v hv
      rw [h1] at this
      rw [← this]
      congr 1
      omega
theorem add_none {a : Addr} (h : a.spot = none) (n : Nat) : a.add n = ⟨a.block, a.off + n, none⟩ := by
  cases a
  simp only at h
  subst h
  exact add_norm _ _ _
end
end Go.Am
end
