/-
  THE ABSTRACT MACHINE: arguments that are slices, structs: how they lie, and that they read as they did.
-/
import Derived.Test.YtchnlooenomfnaaGreatDoorAmStart
import Derived.ChangeSlices
import Derived.WideKeyArgs
import Derived.ChangeSame
namespace Go.Am
open Go Go.ChangeShapes Go.WideShapes

variable {P : Program} {w : World}

theorem addr_eta {a : Addr} (h : a.spot = none) : a = ⟨a.block, a.off, none⟩ := by cases a; simp_all

/- A slice that may be read: the part of a block that it shows. -/
theorem arg_slice {a : Addr} {len cap esz : Nat} {cs : List Value} (hs : a.spot = none) (hsh : ∃ row cells, w.shape? a.block = some (row, cells)) (hlen : len ≤ cap) (hz : 0 < esz)
    (hcs : ∀ j u, cs[j]? = some u → w.cell? ⟨a.block, a.off + j, none⟩ = some u) (hflat : flatL cs = true) (hl : cs.length = cap * esz) :
    ∃ (ent : Ent) (elem : TypeId), (∀ φ, BRel P w.heap.size φ w ent ⟨cs.take (len * esz), elem, esz, (cs.take (len * esz)).length, false⟩) ∧
      ∀ φ id, φ id = some ent → VRel φ (.slice (some ⟨id, 0, none⟩) len len) (.slice (some a) len cap) := by
  obtain ⟨row, cells, hsh⟩ := hsh
  unfold World.shape? at hsh
  split at hsh
  · rename_i c elem fr hc
    have hcell : ∀ j u, cs[j]? = some u → c[a.off + j]? = some u := fun j u hu => by
      have := hcs j u hu
      unfold World.cell? at this
      simp only [hc] at this
      simpa using this
    by_cases hcap : cap = 0
    · subst hcap
      have hl0 : len = 0 := by omega
      subst hl0
      refine ⟨⟨a.block, 0, c.size, esz⟩, elem, fun φ => ?_, fun φ id hid => .slice ⟨rfl, hs, Nat.le_refl _, .inl rfl, _, hid, .inl rfl⟩⟩
      have := BRel.part (P := P) (w := w) (φ := φ) (b := a.block) (off := 0) (cs := []) (esz := esz) hc (by simp) (fun j v hv => by simp at hv) (fun _ => rfl)
      simpa using this
    · have hpos : 0 < cs.length := by rw [hl]; exact Nat.mul_pos (by omega) hz
      have hoff : a.off + cs.length ≤ c.size := by
        have h1 := hcell (cs.length - 1) cs[cs.length - 1] (List.getElem?_eq_getElem (by omega))
        have : a.off + (cs.length - 1) < c.size := by
          by_cases hh : a.off + (cs.length - 1) < c.size
          · exact hh
          · rw [Array.getElem?_eq_none (by omega)] at h1; cases h1
        omega
      refine ⟨⟨a.block, a.off, c.size - a.off, esz⟩, elem, fun φ => ?_, fun φ id hid => .slice ⟨rfl, hs, hlen, .inl rfl, _, hid, .inr ⟨rfl, rfl, ?_⟩⟩⟩
      · refine BRel.part hc (Nat.le_trans (by simp only [List.length_take]; omega) hoff) (fun j v hv => ?_) (fun h => absurd h (by omega)) (.inr (.inl (by omega)))
        have hv' : cs[j]? = some v := by
          rw [List.getElem?_take] at hv
          split at hv
          · exact hv
          · cases hv
        have hf : flat v = true := by
          have : ∀ {l : List Value} {j : Nat} {u : Value}, flatL l = true → l[j]? = some u → flat u = true := by
            intro l
            induction l with
            | nil => intro j u _ h; simp at h
            | cons x l ih =>
              intro j u hf h
              simp [flatL] at hf
              cases j with
              | zero => simp at h; subst h; exact hf.1
              | succ j => exact ih hf.2 (by simpa using h)
          exact this hflat hv'
        exact ⟨v, hcell j v hv', VRel.refl_flat _ _ hf⟩
      · show 0 + cap * esz ≤ c.size - a.off
        rw [← hl]; omega
  · cases hsh

theorem has_spot {r : Reach} {base : Nat} {a : Addr} {e : TypeId} {n : Nat} (h : w.has P r base a e n) : a.spot = none ∧ ∃ row cells, w.shape? a.block = some (row, cells) := by
  obtain ⟨_, h1, row, cells, h2, _⟩ := h
  exact ⟨h1, row, cells, h2⟩

theorem ok_slice {r : Reach} {base : Nat} {t e : TypeId} {a : Addr} {len cap : Nat} (ht : P.underlying t = some (.slice e)) (h : Cell.okWide P w r base t (.slice (some a) len cap)) : a.spot = none ∧ ∃ row cells, w.shape? a.block = some (row, cells) := by
  unfold Cell.okWide at h
  rw [ht] at h
  simp only at h
  unfold Cell.ok at h
  rw [ht] at h
  exact has_spot h.2.2

/- What nothing has touched reads as it did. -/
theorem sameAt_kept {w' : World} (h : Kept w w') {p : MemPlace} (hp : p.block < w.heap.size) : w.sameAt w' p := by
  cases p with
  | cell b off =>
    show w'.cell? _ = w.cell? _
    unfold World.cell?
    rw [h.block b hp]
  | map b => exact h.block b hp

theorem trodAll_kept {H : Type} {enc : TypeId × Value → H} {w' : World} {base : Nat} (hl : laidOutB P = true) (hk : Kept w w') {sp : Nat → Bool} : ∀ {ts : List TypeId} {vs : List Value} {ds : List (DataW H)} {ps : List MemPlace},
    (∀ t ∈ ts, P.readableRec t = true ∧ t < P.types.size) → DataW.TrodAll enc P w base (fun _ => true) true ts vs ds ps → (∀ p ∈ ps, p.block < w.heap.size) → (∀ p ∈ ps, sp p.block = true) → DataW.TrodAll enc P w' base sp true ts vs ds ps
  | [], vs, ds, ps, _, h, _, _ => by
    obtain ⟨rfl, rfl, rfl⟩ := trodAll_nil h
    exact trodAll_mk0
  | t :: ts, vs, ds, ps, ht, h, hp, hs => by
    obtain ⟨v, vs1, d, ds1, p, q, rfl, rfl, rfl, h1, h2⟩ := trodAll_cons h
    refine ⟨p, q, ?_, trodAll_kept hl hk (fun t h => ht t (List.mem_cons_of_mem _ h)) h2 (fun x hx => hp x (List.mem_append_right _ hx)) (fun x hx => hs x (List.mem_append_right _ hx)), rfl⟩
    exact Go.WideElems.Trod_stays hl (ht t (List.mem_cons_self ..)).1 (ht t (List.mem_cons_self ..)).2 h1 (fun x hx => sameAt_kept hk (hp x (List.mem_append_left _ hx))) (fun x hx => hs x (List.mem_append_left _ hx))

end Go.Am
