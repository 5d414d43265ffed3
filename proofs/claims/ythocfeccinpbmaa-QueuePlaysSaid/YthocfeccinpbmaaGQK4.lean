/-
  QueuePlays: whatever is put, popped, asked for, the call returns true, and its arguments read as they did.
-/
import Derived.Test.YthocfeccinpbmaaGQK3
open Go Go.Am Go.Proofs
namespace Go.Proofs.Ythocfeccinpbmaa
set_option maxRecDepth 100000

def D3 : Door := ⟨9, 9, [(1, 1, true), (3, 3, true), (4, 4, true), (5, 5, true), (6, 6, true), (7, 7, true), (8, 8, true)], [1, 2, 7, 8, 9, 10], [4, 5, 6, 7, 8], []⟩
noncomputable def run3 (SP : Specs) (n0 el : Nat) (kc : List Value) (sz raw : Int) (F : List Fact) :=
  (xexec Try.prog [] (SP) 400 B3 ⟨initT [i64 sz, sl 1 n0, i64 raw] 0 .nil, Try.f3.ntmps, startMem [(1, ro kc el 1)] 3⟩ F 0).map (fun r => (r.1.1, (), aresults Try.prog Try.f3 r.1.2, r.2.2.2.map (view (fun _ => D3) [])))
noncomputable def run3n (sz raw : Int) (F : List Fact) :=
  (xexec Try.prog [] (SP3N []) 400 B3 ⟨initT [i64 sz, .slice none 0 0, i64 raw] 0 .nil, Try.f3.ntmps, startMem [] 3⟩ F 0).map (fun r => (r.1.1, (), aresults Try.prog Try.f3 r.1.2, r.2.2.2.map (view (noDoors) [])))
theorem m3 (n0 el k : Nat) (kc : List Value) (sz raw : Int) (g : Code → St → Option (AExit × St)) : run3 (SP3N [(0, g)]) n0 el kc sz raw [got 10 (i64 (((k : Nat) : Int))), fls 25, fls 27, fls 30, fls 31, madeB 39 (.slice (some ⟨4, 0, none⟩) k (k + 1)) ⟨ints (List.replicate k 0), 3, 1, 0, true⟩, madeB 57 (.slice (some ⟨6, 0, none⟩) k (k + 1)) ⟨ints (List.replicate k 0), 3, 1, 0, true⟩, madeB 61 (.slice (some ⟨7, 0, none⟩) k (k + 1)) ⟨bools (List.replicate k false), 4, 1, 0, true⟩, past 79 .normal (E3 el kc 24)] = some (.ret, (), some (.bool true), [.cr 13 [(i64 sz), (i64 20)] [] (.val (i64 (((k : Nat) : Int)))), .b (decide ((((k : Nat) : Int)) < (0 : Int))) (.val (.bool false)), .b (decide ((((k : Nat) : Int)) < (0 : Int))) (.val (.bool false)), .b (decide ((((k : Nat) : Int)) < (0 : Int))) (.val (.bool false)), .b (decide ((((k : Nat) : Int)) > (1000000 : Int))) (.val (.bool false)), .mk 22 (i64 (((k : Nat) : Int))) (i64 (((k : Nat) : Int))) 4 (.val (.slice (some ⟨4, 0, none⟩) k (k + 1))) ⟨ints (List.replicate k 0), 3, 1, 0, true⟩, .mk 22 (i64 (((k : Nat) : Int))) (i64 (((k : Nat) : Int))) 6 (.val (.slice (some ⟨6, 0, none⟩) k (k + 1))) ⟨ints (List.replicate k 0), 3, 1, 0, true⟩, .mk 39 (i64 (((k : Nat) : Int))) (i64 (((k : Nat) : Int))) 7 (.val (.slice (some ⟨7, 0, none⟩) k (k + 1))) ⟨bools (List.replicate k false), 4, 1, 0, true⟩, .bk 0 (.loop loop3) 9 [] (some (S3 n0 el kc raw k 0 (List.replicate k 0) (List.replicate k 0) (List.replicate k false) 0 (lineN 3 4 k) [] 9)) [kc, fns, ints (List.replicate k 0), (lineN 3 4 k).cs, ints (List.replicate k 0), bools (List.replicate k false), (robj 6 7 k 0).cs] true .normal (E3 el kc 24)]) := by kernel_rfl
theorem m3n (k : Nat) (sz raw : Int) : run3n sz raw [got 10 (i64 (((k : Nat) : Int))), fls 25, fls 27, fls 30, fls 31, madeB 39 (.slice (some ⟨4, 0, none⟩) k (k + 1)) ⟨ints (List.replicate k 0), 3, 1, 0, true⟩, madeB 57 (.slice (some ⟨6, 0, none⟩) k (k + 1)) ⟨ints (List.replicate k 0), 3, 1, 0, true⟩, madeB 61 (.slice (some ⟨7, 0, none⟩) k (k + 1)) ⟨bools (List.replicate k false), 4, 1, 0, true⟩] = some (.ret, (), some (.bool true), [.cr 13 [(i64 sz), (i64 20)] [] (.val (i64 (((k : Nat) : Int)))), .b (decide ((((k : Nat) : Int)) < (0 : Int))) (.val (.bool false)), .b (decide ((((k : Nat) : Int)) < (0 : Int))) (.val (.bool false)), .b (decide ((((k : Nat) : Int)) < (0 : Int))) (.val (.bool false)), .b (decide ((((k : Nat) : Int)) > (1000000 : Int))) (.val (.bool false)), .mk 22 (i64 (((k : Nat) : Int))) (i64 (((k : Nat) : Int))) 4 (.val (.slice (some ⟨4, 0, none⟩) k (k + 1))) ⟨ints (List.replicate k 0), 3, 1, 0, true⟩, .mk 22 (i64 (((k : Nat) : Int))) (i64 (((k : Nat) : Int))) 6 (.val (.slice (some ⟨6, 0, none⟩) k (k + 1))) ⟨ints (List.replicate k 0), 3, 1, 0, true⟩, .mk 39 (i64 (((k : Nat) : Int))) (i64 (((k : Nat) : Int))) 7 (.val (.slice (some ⟨7, 0, none⟩) k (k + 1))) ⟨bools (List.replicate k false), 4, 1, 0, true⟩]) := by kernel_rfl
theorem loop3_ok (el : Nat) (zs : List Int) (raw : Int) (k : Nat) (hk : k < 20) (B : Nat) : BlkOk Try.prog [] B 0 (loopG (.loop loop3) D3 (I3 el zs raw k ⟨0, ⟨none, List.replicate k 0⟩, ⟨List.replicate k 0, List.replicate k false, 0⟩⟩) (.normal, E3 el (ints zs) 24)) := by
  refine loopG_ok noNumP mixedP (I3 el zs raw k) (fun d => d.i ≤ zs.length ∧ d.i ≤ 120 ∧ Same k d.s d.t) (fun d => zs.length - d.i) (e := .exit 0) (K := 24) (by intro h; cases h) ⟨Nat.zero_le _, Nat.zero_le _, Same.new (by omega)⟩ (by decide) rfl rfl rfl (fun id h1 h2 => ?_) (fun d hd => ?_)
  · match id, h1 with
    | 0, _ => rfl
    | 1, _ => rfl
    | 2, _ => rfl
    | 3, _ => rfl
    | 4, _ => exact absurd (by decide) h2
    | 5, _ => exact absurd (by decide) h2
    | 6, _ => exact absurd (by decide) h2
    | 7, _ => exact absurd (by decide) h2
    | 8, _ => exact absurd (by decide) h2
    | n + 9, h => exact absurd (show n + 9 < 9 from h) (by omega)
  · obtain ⟨i, ⟨E, Pl⟩, ⟨K, Is, N⟩⟩ := d
    obtain ⟨h1, h2, h3⟩ := hd
    cases E with
    | none => exact step3N el zs raw k B i Pl K Is N hk h1 h2 h3
    | some E => exact step3Q el zs raw k B i E Pl K Is N hk h1 h2 h3
theorem queuePlays_main : ∀ xs, KS.fitsAll [3, 22, 3] xs → ∃ SP n M', (∀ B, SpecsOk Try.prog [] B SP) ∧ Go.Am.arun Try.prog [] SP n 3 (argVs 0 xs) (startMem (argBs 0 xs) xs.length) = some (.bool true, M') := fun xs h => by
  have hn : Nat.ble 3 Try.f3.ntmps = true := by kernel_rfl
  obtain ⟨a, l, rfl, h1, h⟩ := KS.fits_cons h
  obtain ⟨b, l, rfl, h2, h⟩ := KS.fits_cons h
  obtain ⟨c, l, rfl, h3, h⟩ := KS.fits_cons h
  obtain rfl := KS.fits_nil h
  obtain ⟨sz, rfl⟩ := KS.fit_int (by decide) (by decide) h1
  obtain ⟨raw, rfl⟩ := KS.fit_int (by decide) (by decide) h3
  have hr := modI_range (x := sz) (n := 20) (by decide)
  obtain ⟨k, hk⟩ := modN sz 20 (by decide)
  rcases KS.fit_row (by decide) (by decide) h2 with rfl | ⟨zs, el, rfl, _⟩
  · have h := m3n k sz raw
    unfold run3n at h
    obtain ⟨M', k1, _⟩ := xrun_of (look := fun _ => ()) Try.func3 body3 (by exact hn) h (.inr rfl) (hold_cons (fun M _ => call_mod rfl (by decide) (by decide) hk M) (hold_cons (qdn (by omega)) (hold_cons (qdn (by omega)) (hold_cons (qdn (by omega)) (hold_cons (qdn (by omega)) (hold_cons (mkI (by omega)) (hold_cons (mkI (by omega)) (hold_cons (mkB (by omega)) hold_nil))))))))
    exact ⟨_, 400, M', fun B => specs3N [] B (fun p hp => by cases hp), k1⟩
  · have h := m3 zs.length el k (ints zs) sz raw (loopG (.loop loop3) D3 (I3 el zs raw k ⟨0, ⟨none, List.replicate k 0⟩, ⟨List.replicate k 0, List.replicate k false, 0⟩⟩) (.normal, E3 el (ints zs) 24))
    unfold run3 at h
    obtain ⟨M', k1, _⟩ := xrun_of (look := fun _ => ()) Try.func3 body3 (by exact hn) h (.inr rfl) (hold_cons (fun M _ => call_mod rfl (by decide) (by decide) hk M) (hold_cons (qdn (by omega)) (hold_cons (qdn (by omega)) (hold_cons (qdn (by omega)) (hold_cons (qdn (by omega)) (hold_cons (mkI (by omega)) (hold_cons (mkI (by omega)) (hold_cons (mkB (by omega)) (hold_cons (qbk rfl rfl rfl (still_cons (renL_flat _ _ (ints_flat zs)) (still_cons rfl (still_cons (renL_flat _ _ (ints_flat _)) (still_cons rfl (still_cons (renL_flat _ _ (ints_flat _)) (still_cons (renL_flat _ _ (bools_flat _)) (still_cons rfl still_nil)))))))) hold_nil)))))))))
    exact ⟨_, 400, M', fun B => specs3N _ B (fun p hp => by rw [List.mem_singleton.1 hp]; exact loop3_ok el zs raw k (by omega) B), k1⟩
end Go.Proofs.Ythocfeccinpbmaa
