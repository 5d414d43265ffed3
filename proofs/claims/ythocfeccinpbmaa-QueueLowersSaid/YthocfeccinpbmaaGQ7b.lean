/-
  QueueLowers: for all arguments the call returns true, and they read as they did.
-/
import Derived.Test.YthocfeccinpbmaaGQ7a
open Go Go.Am Go.Proofs
namespace Go.Proofs.Ythocfeccinpbmaa
set_option maxRecDepth 100000

/- The least of the first keys. -/
def lowO (zs : List Int) : Nat → Option Int
  | 0 => none
  | j + 1 => match zs[j]? with
    | some z => match lowO zs j with
      | some a => some (if z < a then z else a)
      | none => some z
    | none => lowO zs j
def I7 (el : Nat) (zs : List Int) (up : Bool) : Nat × Option Int → St
  | (j, none) => S7 zs.length el (ints zs) (j : Int) 0 false 0 (.slice none 0 0) [] (bif up then 16 else 4)
  | (j, some a) => S7 zs.length el (ints zs) (j : Int) a true 1 (sl 4 1) [(4, own [i64 0, i64 a] 43 2)] (bif up then 16 else 5)
theorem specs7 (bs : List (Nat × (Code → St → Option (AExit × St)))) (B : Nat) (hb : ∀ p ∈ bs, BlkOk Try.prog [] B p.1 p.2) : SpecsOk Try.prog [] B (SP7 bs) := specsB_ok (fun p hp => by
  rw [List.mem_singleton.1 hp]; exact okKnown B) hb
def endJ (zs : List Int) : Nat := min zs.length 60
theorem loop7_ok (el : Nat) (zs : List Int) (B : Nat) : BlkOk Try.prog [] B 0 (loopG (.loop loop7) D7 (I7 el zs false (0, none)) (.normal, I7 el zs true (endJ zs, lowO zs (endJ zs)))) := by
  have hfin : ∀ d, (I7 el zs true d).M.log = [2, 3] ++ [] ∧ (I7 el zs true d).M.next = 16 ∧ (I7 el zs true d).M.hide = [] ∧ (I7 el zs true d).M.blks.get 0 = some (ro (ints zs) el 1) ∧ (I7 el zs true d).M.blks.get 1 = some (own fns 41 1) := fun d => by
    obtain ⟨j, o⟩ := d
    cases o <;> exact ⟨rfl, rfl, rfl, rfl, rfl⟩
  refine loopG_ok noNumP mixedP (I7 el zs false) (fun d => d.1 ≤ zs.length ∧ d.1 ≤ 60 ∧ d.2 = lowO zs d.1) (fun d => zs.length - d.1) (e := .exit 0) (K := 16) (by intro h; cases h) ⟨Nat.zero_le _, Nat.zero_le _, rfl⟩ (by decide) (hfin _).1 (hfin _).2.1 (hfin _).2.2.1 (fun id h1 h2 => ?_) (fun d hd => ?_)
  · match id, h1 with
    | 0, _ => exact (hfin _).2.2.2.1
    | 1, _ => exact (hfin _).2.2.2.2
    | 2, _ => exact absurd (by decide) h2
    | 3, _ => exact absurd (by decide) h2
    | n + 4, h => exact absurd (show n + 4 < 4 from h) (by omega)
  · obtain ⟨j, o⟩ := d
    obtain ⟨hd1, hd2, hd3⟩ := hd
    simp only at hd1 hd2 hd3
    have hiv : IntKind.wrap .i64 ((j : Int) + 1) = ((j + 1 : Nat) : Int) := by rw [IntWalk.i64_in _ (by omega)]; omega
    have hS := specs7 [] B (fun p hp => by cases hp)
    by_cases hlt : j < zs.length
    · by_cases h60 : j < 60
      · obtain ⟨z, hz⟩ : ∃ z, zs[j]? = some z := ⟨zs[j], List.getElem?_eq_getElem hlt⟩
        cases o with
        | none =>
          have h := t7A0 zs.length el (ints zs) (j : Int) z
          unfold rnd7 at h
          obtain ⟨s1, k1, k2, k3⟩ := xround_of h (hold_cons (qd (by omega)) (hold_cons (qd (by omega)) (hold_cons (qd (by omega)) (hold_cons (qd (by omega)) (hold_cons (qib (by omega)) (hold_cons (qldi uInt rfl (by simpa using hz)) (hold_cons (qib (by omega)) (hold_cons (qldi uInt rfl (by simpa using hz)) (hold_cons (qb (by simp)) hold_nil))))))))) (still_cons (renL_flat _ _ (ints_flat zs)) (still_cons rfl still_nil))
          rw [hiv] at k3
          exact ⟨_, 300, s1, hS, k1, .inl ⟨_, _, _, (j + 1, some z), k2, k3, ⟨hlt, h60, by simp only [lowO, hz, ← hd3]⟩, by simp only; omega⟩⟩
        | some a =>
          by_cases hza : z < a
          · have h := t7B1 zs.length el (ints zs) (j : Int) a z
            unfold rnd7 at h
            obtain ⟨s1, k1, k2, k3⟩ := xround_of h (hold_cons (qd (by omega)) (hold_cons (qd (by omega)) (hold_cons (qd (by omega)) (hold_cons (qd (by omega)) (hold_cons (qib (by omega)) (hold_cons (qldi uInt rfl (by simpa using hz)) (hold_cons (qib (by omega)) (hold_cons (qldi uInt rfl (by simpa using hz)) (hold_cons (qdn (by omega)) (hold_cons (qb (by simp; omega)) (hold_cons (qd (by omega)) (hold_cons (qib (by omega)) (hold_cons (qldi uInt rfl (by simpa using hz)) (hold_cons (qb (by simp)) hold_nil)))))))))))))) (still_cons (renL_flat _ _ (ints_flat zs)) (still_cons rfl still_nil))
            rw [hiv] at k3
            exact ⟨_, 300, s1, hS, k1, .inl ⟨_, _, _, (j + 1, some z), k2, k3, ⟨hlt, h60, by simp only [lowO, hz, ← hd3]; rw [if_pos hza]⟩, by simp only; omega⟩⟩
          · have h := t7B0 zs.length el (ints zs) (j : Int) a z
            unfold rnd7 at h
            obtain ⟨s1, k1, k2, k3⟩ := xround_of h (hold_cons (qd (by omega)) (hold_cons (qd (by omega)) (hold_cons (qd (by omega)) (hold_cons (qd (by omega)) (hold_cons (qib (by omega)) (hold_cons (qldi uInt rfl (by simpa using hz)) (hold_cons (qib (by omega)) (hold_cons (qldi uInt rfl (by simpa using hz)) (hold_cons (qd (by omega)) (hold_cons (qb (by simp; omega)) (hold_cons (qdn (by omega)) (hold_cons (qb (by simp)) hold_nil)))))))))))) (still_cons (renL_flat _ _ (ints_flat zs)) (still_cons rfl still_nil))
            rw [hiv] at k3
            exact ⟨_, 300, s1, hS, k1, .inl ⟨_, _, _, (j + 1, some a), k2, k3, ⟨hlt, h60, by simp only [lowO, hz, ← hd3]; rw [if_neg hza]⟩, by simp only; omega⟩⟩
      · have he : endJ zs = j := by unfold endJ; omega
        rw [he, ← hd3]
        cases o with
        | none =>
          have h := t7A1 zs.length el (ints zs) (j : Int)
          unfold rnd7 at h
          obtain ⟨s1, k1, k2, k3⟩ := xround_of h (hold_cons (qd (by omega)) (hold_cons (qd (by omega)) (hold_cons (qd (by omega)) (hold_cons (qdn (by omega)) hold_nil)))) (still_cons (renL_flat _ _ (ints_flat zs)) (still_cons rfl still_nil))
          exact ⟨_, 300, s1, hS, k1, .inr ⟨_, _, k2, k3⟩⟩
        | some a =>
          have h := t7B2 zs.length el (ints zs) (j : Int) a
          unfold rnd7 at h
          obtain ⟨s1, k1, k2, k3⟩ := xround_of h (hold_cons (qd (by omega)) (hold_cons (qd (by omega)) (hold_cons (qd (by omega)) (hold_cons (qdn (by omega)) hold_nil)))) (still_cons (renL_flat _ _ (ints_flat zs)) (still_cons rfl still_nil))
          exact ⟨_, 300, s1, hS, k1, .inr ⟨_, _, k2, k3⟩⟩
    · have he : endJ zs = j := by unfold endJ; omega
      rw [he, ← hd3]
      cases o with
      | none =>
        have h := t7A2 zs.length el (ints zs) (j : Int)
        unfold rnd7 at h
        obtain ⟨s1, k1, k2, k3⟩ := xround_of h (hold_cons (qdn (by omega)) (hold_cons (qdn (by omega)) (hold_cons (qdn (by omega)) hold_nil))) (still_cons (renL_flat _ _ (ints_flat zs)) (still_cons rfl still_nil))
        exact ⟨_, 300, s1, hS, k1, .inr ⟨_, _, k2, k3⟩⟩
      | some a =>
        have h := t7B3 zs.length el (ints zs) (j : Int) a
        unfold rnd7 at h
        obtain ⟨s1, k1, k2, k3⟩ := xround_of h (hold_cons (qdn (by omega)) (hold_cons (qdn (by omega)) (hold_cons (qdn (by omega)) hold_nil))) (still_cons (renL_flat _ _ (ints_flat zs)) (still_cons rfl still_nil))
        exact ⟨_, 300, s1, hS, k1, .inr ⟨_, _, k2, k3⟩⟩
theorem queueLowers_main : ∀ xs, KS.fitsAll [22] xs → ∃ SP n M', (∀ B, SpecsOk Try.prog [] B SP) ∧ Go.Am.arun Try.prog [] SP n 7 (argVs 0 xs) (startMem (argBs 0 xs) xs.length) = some (.bool true, M') := fun xs h => by
  have hn : Nat.ble 1 Try.f7.ntmps = true := by kernel_rfl
  match xs, h with
  | [.none], _ =>
    have h := m7n
    unfold run7n at h
    obtain ⟨M', h1, _⟩ := xrun_of (look := fun _ => ()) Try.func7 body7 (by exact hn) h (.inr rfl) hold_nil
    exact ⟨_, 300, M', fun B => specs7 [] B (fun p hp => by cases hp), h1⟩
  | [.row zs el], _ =>
    have hl := loop7_ok el zs
    cases ho : lowO zs (endJ zs) with
    | none =>
      rw [ho] at hl
      have h := m7A zs.length el (ints zs) (endJ zs : Nat) (loopG (.loop loop7) D7 (I7 el zs false (0, none)) (.normal, I7 el zs true (endJ zs, none)))
      unfold run7 at h
      obtain ⟨M', h1, _⟩ := xrun_of (look := fun _ => ()) Try.func7 body7 (by exact hn) h (.inr rfl) (hold_cons (qbk rfl rfl rfl (still_cons (renL_flat _ _ (ints_flat zs)) (still_cons rfl still_nil))) hold_nil)
      exact ⟨_, 300, M', fun B => specs7 _ B (fun p hp => by rw [List.mem_singleton.1 hp]; exact hl B), h1⟩
    | some a =>
      rw [ho] at hl
      have h := m7B zs.length el (ints zs) (endJ zs : Nat) a (loopG (.loop loop7) D7 (I7 el zs false (0, none)) (.normal, I7 el zs true (endJ zs, some a)))
      unfold run7 at h
      obtain ⟨M', h1, _⟩ := xrun_of (look := fun _ => ()) Try.func7 body7 (by exact hn) h (.inr rfl) (hold_cons (qbk rfl rfl rfl (still_cons (renL_flat _ _ (ints_flat zs)) (still_cons rfl still_nil))) hold_nil)
      exact ⟨_, 300, M', fun B => specs7 _ B (fun p hp => by rw [List.mem_singleton.1 hp]; exact hl B), h1⟩
  | [.int z], h => exact absurd (show (22 : Nat) = 3 from h.1.1) (by decide)
  | [.bool z], h => exact absurd (show (22 : Nat) = 4 from h.1) (by decide)
  | [], h => exact h.elim
  | _ :: _ :: _, h => exact h.2.elim
end Go.Proofs.Ythocfeccinpbmaa
