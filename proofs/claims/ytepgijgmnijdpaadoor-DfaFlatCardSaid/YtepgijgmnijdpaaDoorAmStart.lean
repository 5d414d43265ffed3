/-
  DfaFlat: with all states turned to accept what they did not a machine takes just what it did not
-/
import Derived.Test.YtepgijgmnijdpaaDoorAmTop
noncomputable section
namespace Go.Am
open Go
variable {P : Program} {GL : List Nat} {B : Bd} {φ : Emb} {w : World}
def blkTree : List (Nat × ABlk) → Tr ABlk
  | [] => .nil
  | (i, b) :: l => (blkTree l).set i (some b)
theorem blkTree_mem : ∀ {l : List (Nat × ABlk)} {id : Nat} {b : ABlk}, (blkTree l).get id = some b → (id, b) ∈ l
  | [], id, b, h => by simp [blkTree, Tr.get] at h
  | (i, c) :: l, id, b, h => by
    unfold blkTree at h
    rw [Tr.get_set] at h
    by_cases hi : id = i
    · rw [if_pos hi] at h
      cases h; subst hi
      exact List.mem_cons_self ..
    · rw [if_neg hi] at h
      exact List.mem_cons_of_mem _ (blkTree_mem h)
def startMem (l : List (Nat × ABlk)) (next : Nat) : Mem := ⟨blkTree l, next, [], []⟩
structure Knows1 (P : Program) (GL : List Nat) (φ : Emb) (l : List (Nat × ABlk)) (next : Nat) (w : World) : Prop where
  blk : ∀ p ∈ l, ∃ e, φ p.1 = some e ∧ BRel P w.heap.size φ w e p.2
  ro : ∀ p ∈ l, p.2.app = false ∧ p.2.wf = p.2.cs.length
  glob : ∀ g ∈ GL, g < next ∧ ∃ e, φ g = some e ∧ e.block = g ∧ e.base = 0
  fresh : ∀ id, next ≤ id → φ id = none
theorem Knows1.rel {l : List (Nat × ABlk)} {next : Nat} (h : Knows1 P GL φ l next w) : Rel P GL w.heap.size φ (startMem l next) w := by
  have hm : ∀ id b, (startMem l next).get id = some b → (id, b) ∈ l := fun id b hb => blkTree_mem (get_spec.1 hb).2.2
  refine ⟨fun id b hb => h.blk _ (hm id b hb), fun a b c d e f _ h1 _ hw => ?_, h.glob, fun k hk => bd_ok hk, fun id b hb => (get_spec.1 hb).1, fun x hx => by cases hx⟩
  obtain ⟨h2, h3⟩ := h.ro _ (hm a c h1)
  simp only at h2 h3
  rw [h2, h3] at hw
  rcases hw with hw | hw
  · cases hw
  · exact absurd hw (Nat.lt_irrefl _)
theorem BRel.table {b : Nat} {c : Array Value} {elem : TypeId} {fr : Nat × Nat} {cs : List Value} {esz : Nat} (hc : w.heap[b]? = some (.cells c elem fr)) (hs : LRel φ cs c.toList) :
    BRel P w.heap.size φ w ⟨b, 0, c.size, esz⟩ ⟨cs, elem, esz, cs.length, false⟩ := by
  have hl := hs.length
  refine ⟨rfl, ⟨c, fr.1, fr.2, hc, by simp, fun j v hj => ?_, fun hw => ?_⟩, by simp only [Array.length_toList] at hl; simp only [hl]; exact Nat.le_refl _, fun hw => ?_, ?_⟩
  · obtain ⟨v', hv, hr⟩ := hs.get hj
    exact ⟨v', by simpa using hv, hr⟩
  · rcases hw with hw | hw
    · cases hw
    · exact absurd hw (Nat.lt_irrefl _)
  · rcases hw with hw | hw
    · cases hw
    · exact absurd hw (Nat.lt_irrefl _)
  · exact fun _ _ => rfl
theorem BRel.part {b off : Nat} {c : Array Value} {elem : TypeId} {fr : Nat × Nat} {cs : List Value} {esz : Nat} (hc : w.heap[b]? = some (.cells c elem fr)) (ho : off + cs.length ≤ c.size)
    (hs : ∀ j v, cs[j]? = some v → ∃ v', c[off + j]? = some v' ∧ VRel φ v v') (hz : esz = 0 → cs = [] := by intro h; exact absurd h (by decide)) :
    BRel P w.heap.size φ w ⟨b, off, c.size - off, esz⟩ ⟨cs, elem, esz, cs.length, false⟩ := by
  refine ⟨rfl, ⟨c, fr.1, fr.2, hc, by simp only; omega, hs, fun hw => ?_⟩, by simp only; omega, fun hw => ?_, ?_⟩
  · rcases hw with hw | hw
    · cases hw
    · exact absurd hw (Nat.lt_irrefl _)
  · rcases hw with hw | hw
    · cases hw
    · exact absurd hw (Nat.lt_irrefl _)
  · exact fun h1 h2 => absurd (hz h1) h2
end Go.Am
end
