/-
  QueueBack: whatever the keys, what was popped may be put again: the call returns true, and its argument reads as it did.
-/
import Derived.Test.YthocfeccinpbmaaGQ5a
open Go Go.Am Go.Proofs
namespace Go.Proofs.Ythocfeccinpbmaa
set_option maxRecDepth 100000

def I5 (el : Nat) (zs : List Int) : Nat × Option Int → St
  | (j, none) => S5 zs.length el (ints zs) (j : Int) (.slice none 0 0) [] 4
  | (j, some a) => S5 zs.length el (ints zs) (j : Int) (sl 4 0) [(4, own [i64 1, i64 a] 43 2)] 5
theorem specs5 (bs : List (Nat × (Code → St → Option (AExit × St)))) (B : Nat) (hb : ∀ p ∈ bs, BlkOk Try.prog [] B p.1 p.2) : SpecsOk Try.prog [] B (SP5 bs) := specsB_ok (fun p hp => by
  rw [List.mem_singleton.1 hp]; exact okKnown B) hb
theorem loop5_ok (el : Nat) (zs : List Int) (B : Nat) : BlkOk Try.prog [] B 0 (loopG (.loop loop5) D5 (I5 el zs (0, none)) (.normal, E5 zs.length el (ints zs) 12)) := by
  refine loopG_ok noNumP mixedP (I5 el zs) (fun d => d.1 ≤ zs.length ∧ d.1 ≤ 40) (fun d => zs.length - d.1) (e := .exit 0) (K := 12) (by intro h; cases h) ⟨Nat.zero_le _, Nat.zero_le _⟩ (by decide) rfl rfl rfl (fun id h1 h2 => ?_) (fun d hd => ?_)
  · match id, h1 with
    | 0, _ => rfl
    | 1, _ => rfl
    | 2, _ => exact absurd (by decide) h2
    | 3, _ => exact absurd (by decide) h2
    | n + 4, h => exact absurd (show n + 4 < 4 from h) (by omega)
  · obtain ⟨j, o⟩ := d
    obtain ⟨hd1, hd2⟩ := hd
    simp only at hd1 hd2
    have hiv : IntKind.wrap .i64 ((j : Int) + 1) = ((j + 1 : Nat) : Int) := by rw [IntWalk.i64_in _ (by omega)]; omega
    have hS := specs5 [] B (fun p hp => by cases hp)
    by_cases hlt : j < zs.length
    · by_cases h40 : j < 40
      · obtain ⟨z, hz⟩ : ∃ z, zs[j]? = some z := ⟨zs[j], List.getElem?_eq_getElem hlt⟩
        cases o with
        | none =>
          have h := t5A0 zs.length el (ints zs) (j : Int) z
          unfold rnd5 at h
          obtain ⟨s1, k1, k2, k3⟩ := xround_of h (hold_cons (qd (by omega)) (hold_cons (qd (by omega)) (hold_cons (qd (by omega)) (hold_cons (qd (by omega)) (hold_cons (qib (by omega)) (hold_cons (qldi uInt rfl (by simpa using hz)) (hold_cons (qib (by omega)) (hold_cons (qldi uInt rfl (by simpa using hz)) (hold_cons (qd (by omega)) (hold_cons (qib (by omega)) (hold_cons (qldi uInt rfl (by simpa using hz)) (hold_cons (qb (by simp)) (hold_cons (qb (by simp)) (hold_cons (qb (by simp)) (hold_cons (qib (by omega)) (hold_cons (qldi uInt rfl (by simpa using hz)) (hold_cons (qb (by simp)) (hold_cons (qb (by simp)) (hold_cons (qb (by simp)) (hold_cons (qb (by simp)) hold_nil)))))))))))))))))))) (still_cons (renL_flat _ _ (ints_flat zs)) (still_cons rfl still_nil))
          rw [hiv] at k3
          exact ⟨_, 300, s1, hS, k1, .inl ⟨_, _, _, (j + 1, some z), k2, k3, ⟨hlt, h40⟩, by simp only; omega⟩⟩
        | some a =>
          have h := t5B0 zs.length el (ints zs) (j : Int) a z
          unfold rnd5 at h
          obtain ⟨s1, k1, k2, k3⟩ := xround_of h (hold_cons (qd (by omega)) (hold_cons (qd (by omega)) (hold_cons (qd (by omega)) (hold_cons (qd (by omega)) (hold_cons (qib (by omega)) (hold_cons (qldi uInt rfl (by simpa using hz)) (hold_cons (qib (by omega)) (hold_cons (qldi uInt rfl (by simpa using hz)) (hold_cons (qd (by omega)) (hold_cons (qib (by omega)) (hold_cons (qldi uInt rfl (by simpa using hz)) (hold_cons (qb (by simp)) (hold_cons (qb (by simp)) (hold_cons (qb (by simp)) (hold_cons (qib (by omega)) (hold_cons (qldi uInt rfl (by simpa using hz)) (hold_cons (qb (by simp)) (hold_cons (qb (by simp)) (hold_cons (qb (by simp)) (hold_cons (qb (by simp)) hold_nil)))))))))))))))))))) (still_cons (renL_flat _ _ (ints_flat zs)) (still_cons rfl still_nil))
          rw [hiv] at k3
          exact ⟨_, 300, s1, hS, k1, .inl ⟨_, _, _, (j + 1, some z), k2, k3, ⟨hlt, h40⟩, by simp only; omega⟩⟩
      · cases o with
        | none =>
          have h := t5A1 zs.length el (ints zs) (j : Int)
          unfold end5 at h
          obtain ⟨s1, k1, k2, k3⟩ := xround_of h (hold_cons (qd (by omega)) (hold_cons (qd (by omega)) (hold_cons (qd (by omega)) (hold_cons (qdn (by omega)) hold_nil)))) (still_cons (renL_flat _ _ (ints_flat zs)) (still_cons rfl still_nil))
          exact ⟨_, 300, s1, hS, k1, .inr ⟨_, _, k2, k3⟩⟩
        | some a =>
          have h := t5B1 zs.length el (ints zs) (j : Int) a
          unfold end5 at h
          obtain ⟨s1, k1, k2, k3⟩ := xround_of h (hold_cons (qd (by omega)) (hold_cons (qd (by omega)) (hold_cons (qd (by omega)) (hold_cons (qdn (by omega)) hold_nil)))) (still_cons (renL_flat _ _ (ints_flat zs)) (still_cons rfl still_nil))
          exact ⟨_, 300, s1, hS, k1, .inr ⟨_, _, k2, k3⟩⟩
    · cases o with
      | none =>
        have h := t5A2 zs.length el (ints zs) (j : Int)
        unfold end5 at h
        obtain ⟨s1, k1, k2, k3⟩ := xround_of h (hold_cons (qdn (by omega)) (hold_cons (qdn (by omega)) (hold_cons (qdn (by omega)) hold_nil))) (still_cons (renL_flat _ _ (ints_flat zs)) (still_cons rfl still_nil))
        exact ⟨_, 300, s1, hS, k1, .inr ⟨_, _, k2, k3⟩⟩
      | some a =>
        have h := t5B2 zs.length el (ints zs) (j : Int) a
        unfold end5 at h
        obtain ⟨s1, k1, k2, k3⟩ := xround_of h (hold_cons (qdn (by omega)) (hold_cons (qdn (by omega)) (hold_cons (qdn (by omega)) hold_nil))) (still_cons (renL_flat _ _ (ints_flat zs)) (still_cons rfl still_nil))
        exact ⟨_, 300, s1, hS, k1, .inr ⟨_, _, k2, k3⟩⟩
theorem queueBack_main : ∀ xs, KS.fitsAll [22] xs → ∃ SP n M', (∀ B, SpecsOk Try.prog [] B SP) ∧ Go.Am.arun Try.prog [] SP n 5 (argVs 0 xs) (startMem (argBs 0 xs) xs.length) = some (.bool true, M') := fun xs h => by
  have hn : Nat.ble 1 Try.f5.ntmps = true := by kernel_rfl
  match xs, h with
  | [.none], _ =>
    have h := m5n
    unfold run5n at h
    obtain ⟨M', h1, _⟩ := xrun_of (look := fun _ => ()) Try.func5 body5 (by exact hn) h (.inr rfl) hold_nil
    exact ⟨_, 300, M', fun B => specs5 [] B (fun p hp => by cases hp), h1⟩
  | [.row zs el], _ =>
    have h := m5 zs.length el (ints zs) (loopG (.loop loop5) D5 (I5 el zs (0, none)) (.normal, E5 zs.length el (ints zs) 12))
    unfold run5 at h
    obtain ⟨M', h1, _⟩ := xrun_of (look := fun _ => ()) Try.func5 body5 (by exact hn) h (.inr rfl) (hold_cons (qbk rfl rfl rfl (still_cons (renL_flat _ _ (ints_flat zs)) (still_cons rfl still_nil))) hold_nil)
    exact ⟨_, 300, M', fun B => specs5 _ B (fun p hp => by rw [List.mem_singleton.1 hp]; exact loop5_ok el zs B), h1⟩
  | [.int z], h => exact absurd (show (22 : Nat) = 3 from h.1.1) (by decide)
  | [.bool z], h => exact absurd (show (22 : Nat) = 4 from h.1) (by decide)
  | [], h => exact h.elim
  | _ :: _ :: _, h => exact h.2.elim
end Go.Proofs.Ythocfeccinpbmaa
