/-
  THE ABSTRACT MACHINE: from a world of which some blocks are known, to be read only: tables, what the arguments point to.
-/
import Derived.Test.YtchnlooenomfnaaGreatDoorAmTop
noncomputable section
namespace Go.Am
open Go

variable {P : Program} {GL : List Nat} {B : Bd} {φ : Emb} {w : World}

def blkTree : List (Nat × ABlk) → Tr ABlk
  | [] => .nil
  | (i, b) :: l => (blkTree l).set i (some b)

theorem blkTree_mem : ∀ {l : List (Nat × ABlk)} {id : Nat} {b : ABlk}, (blkTree l).get id = some b → (id, b) ∈ l
  | [], id, b, h => by simp [blkTree, Tr.get] at h
  | (i, c) :: l, id, b, h => by
    unfold blkTree at h
    rw [Tr.get_set] at h
    by_cases hi : id = i
    · rw [if_pos hi] at h
      cases h; subst hi
      exact List.mem_cons_self ..
    · rw [if_neg hi] at h
      exact List.mem_cons_of_mem _ (blkTree_mem h)

def startMem (l : List (Nat × ABlk)) (next : Nat) : Mem := ⟨blkTree l, next, [], []⟩

/- What is known of a world, to be read only. -/
structure Knows1 (P : Program) (GL : List Nat) (φ : Emb) (l : List (Nat × ABlk)) (next : Nat) (w : World) : Prop where
  blk : ∀ p ∈ l, ∃ e, φ p.1 = some e ∧ BRel P w.heap.size φ w e p.2
  ro : ∀ p ∈ l, p.2.app = false ∧ p.2.wf = p.2.cs.length
  glob : ∀ g ∈ GL, g < next ∧ ∃ e, φ g = some e ∧ e.block = g ∧ e.base = 0
  fresh : ∀ id, next ≤ id → φ id = none

theorem Knows1.rel {l : List (Nat × ABlk)} {next : Nat} (h : Knows1 P GL φ l next w) : Rel P GL w.heap.size φ (startMem l next) w := by
  have hm : ∀ id b, (startMem l next).getA id = some b → (id, b) ∈ l := fun id b hb => blkTree_mem (getA_spec.1 hb).2.2
  refine ⟨fun id b hb => let ⟨e, h1, h2⟩ := h.blk _ (hm id b hb); ⟨e, h1, .inl h2⟩, fun a b c d e f _ h1 _ hw => ?_, h.glob, fun k hk => bd_ok hk, fun id b hb => (getA_spec.1 hb).1, fun x hx => by cases hx⟩
  obtain ⟨h2, h3⟩ := h.ro _ (hm a c h1)
  simp only at h2 h3
  rw [h2, h3] at hw
  rcases hw with hw | hw
  · cases hw
  · exact absurd hw (Nat.lt_irrefl _)

/- A call from there. -/
theorem calls_start {SP : Specs} (hN : noNum P) (hm : P.follows .mixedOrders = true) {n : Nat} {f : FuncId} {args args' : List Value} {v : Value} {M' : Mem} {l : List (Nat × ABlk)} {next : Nat}
    (hS : SpecsOk P GL w.heap.size SP) (hK : Knows1 P GL φ l next w) (h : arun P GL SP n f args (startMem l next) = some (v, M')) (ha : LRel φ args args') :
    Calls P f args'.toArray w fun e w' => ∃ φ' v', e = .returned v' ∧ Kept w w' ∧ VRel φ' v v' ∧ φ.le φ' ∧ Rel P GL w.heap.size φ' M' w' := by
  have hG : Good φ (startMem l next) M' := fun id h1 _ => hK.fresh id h1
  have hc := arun_calls hN hm hS n h hK.rel hG args'.toArray ha
  refine hc.mono fun e w' ⟨L, φ', v', he, hlog, hp, hv'⟩ => ⟨φ', v', he, ⟨hp.fr.os, hp.fr.output, hp.fr.size, fun k hk => ?_⟩, hv', hp.le hG, hp.rel⟩
  rcases hp.fr.block k hk with h1 | ⟨h2, _⟩
  · exact h1
  · exact absurd h2.1 (Nat.not_le.2 hk)

/- A block that holds just these cells. -/
theorem BRel.table {b : Nat} {c : Array Value} {elem : TypeId} {fr : Nat × Nat} {cs : List Value} {esz : Nat} (hc : w.heap[b]? = some (.cells c elem fr)) (hs : LRel φ cs c.toList) :
    BRel P w.heap.size φ w ⟨b, 0, c.size, esz⟩ ⟨cs, elem, esz, cs.length, false⟩ := by
  have hl := hs.length
  refine ⟨rfl, ⟨c, fr.1, fr.2, hc, by simp, fun j v hj => ?_, fun hw => ?_⟩, by simp only [Array.length_toList] at hl; simp only [hl]; exact Nat.le_refl _, fun hw => ?_, ?_, fun hx => by cases hx.1⟩
  · obtain ⟨v', hv, hr⟩ := hs.get hj
    exact ⟨v', by simpa using hv, hr⟩
  · rcases hw with hw | hw
    · cases hw
    · exact absurd hw (Nat.lt_irrefl _)
  · rcases hw with hw | hw
    · cases hw
    · exact absurd hw (Nat.lt_irrefl _)
  · exact fun _ _ => rfl

/- The part of a block that a slice shows, from its first cell on. -/
theorem BRel.part {b off : Nat} {c : Array Value} {elem : TypeId} {fr : Nat × Nat} {cs : List Value} {esz : Nat} (hc : w.heap[b]? = some (.cells c elem fr)) (ho : off + cs.length ≤ c.size)
    (hs : ∀ j v, cs[j]? = some v → ∃ v', c[off + j]? = some v' ∧ VRel φ v v') (hz : esz = 0 → cs = [] := by intro h; exact absurd h (by decide)) (hm : off = 0 ∨ off < c.size ∨ esz ≠ mapEsz := by first | exact .inl rfl | exact .inr (.inr (by decide))) :
    BRel P w.heap.size φ w ⟨b, off, c.size - off, esz⟩ ⟨cs, elem, esz, cs.length, false⟩ := by
  refine ⟨rfl, ⟨c, fr.1, fr.2, hc, by simp only; omega, hs, fun hw => ?_⟩, by simp only; omega, fun hw => ?_, ?_, fun ⟨x1, x2, x3⟩ => ?_⟩
  · rcases hw with hw | hw
    · cases hw
    · exact absurd hw (Nat.lt_irrefl _)
  · rcases hw with hw | hw
    · cases hw
    · exact absurd hw (Nat.lt_irrefl _)
  · exact fun h1 h2 => absurd (hz h1) h2
  · simp only at x1 x2 x3
    rcases hm with hm | hm | hm
    · omega
    · omega
    · exact hm x3

end Go.Am
end
