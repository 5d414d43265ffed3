/-
  DfaFlat: with all states turned to accept what they did not a machine takes just what it did not
-/
import Derived.Test.YtepgijgmnijdpaaDoorGDM
open Go Go.Am Go.Proofs
namespace Go.Proofs.YtepgijgmnijdpaaDoor
set_option maxRecDepth 100000
theorem u64_small {i : Nat} (hi : i < 1000) : IntKind.wrap .u64 ((i : Nat) : Int) = ((i : Nat) : Int) := by
  show ((i : Nat) : Int) % (2 ^ 64) = _
  exact Int.emod_eq_of_lt (by omega) (by omega)
def accI (acc : Int) (i : Nat) : Bool := (modI (acc.fdiv (2 ^ i)) 2) == (1 : Int)
def rowI (N : Int) (ns : List Int) (acc : Int) (i : Nat) : List Int := [cellI N ns acc i 0, cellI N ns acc i 1, cellI N ns acc i 2, cellI N ns acc i 3, cellI N ns acc i 4]
theorem r14n_raw (p r6 i : Nat) (a : Option Addr) (c : Nat) (ns : List Int) (N acc : Int) (_ : ABlk) (M : Mem) (b1 : Nat) (M2 : Mem) (M11 : Mem) (b19 : Nat) (M20 : Mem) (b30 : Nat) (M31 : Mem) (M42 : Mem) (M55 : Mem) (b69 : Nat) (M70 : Mem) (b82 : Nat) (M83 : Mem) (M96 : Mem) : oR Tryd.prog [2] 60 Tryd.f14 (q14.loopAt 0) [(1, (.slice a ns.length c)), (2, (i64 acc)), (6, (pt r6 0)), (7, (pt p 0)), (8, (i64 N)), (9, (i64 (((i : Nat) : Int))))] M [ttT 6, ttV 8 (pt b1 0) M2, .blk 11 [1, 2, 6, 7, 8, 9, 10, 11] .normal (fr [(1, (.slice a ns.length c)), (2, (i64 acc)), (6, (pt r6 0)), (7, (pt p 0)), (8, (i64 N)), (9, (i64 (((i : Nat) : Int)))), (10, (pt b1 0))]) M11, ttL 15 sln, ttL 17 (.agg ⟨[(i64 (cellI N ns acc i 0)), (i64 (cellI N ns acc i 1)), (i64 (cellI N ns acc i 2)), (i64 (cellI N ns acc i 3)), (i64 (cellI N ns acc i 4))]⟩), ttV 19 (sli b19 0 1 2) M20, .at 21 (1, .val (sli b30 0 1 1), M31), ttS 25 M42, ttL 29 sln, ttT 37, ttV 39 (i64 (modI (acc.fdiv (2 ^ (IntKind.wrap .u64 (((i : Nat) : Int))).toNat)) 2)) M55, ttV 43 (sli b69 0 1 2) M70, .at 45 (1, .val (sli b82 0 1 1), M83), ttS 49 M96] [1, 2, 6, 7, 8, 9] = some (.normal, [some (.slice a ns.length c), some (i64 acc), some (pt r6 0), some (pt p 0), some (i64 N), some (i64 (IntKind.wrap .i64 ((((i : Nat) : Int)) + (1 : Int))))], (Mem.mk M96.blks M96.next M42.hide M96.log), [qT (decide ((((i : Nat) : Int)) < N)), .eq (aalloc Tryd.prog 31 M) (1, .val (pt b1 0), M2), .blk 2 (.loop (q14.loopAt 2)) Tryd.f14.ntmps [1, 2, 6, 7, 8, 9, 10, 11] [some (.slice a ns.length c), some (i64 acc), some (pt r6 0), some (pt p 0), some (i64 N), some (i64 (((i : Nat) : Int))), some (pt b1 0), some (i64 0)] M2 .normal (fr [(1, (.slice a ns.length c)), (2, (i64 acc)), (6, (pt r6 0)), (7, (pt p 0)), (8, (i64 N)), (9, (i64 (((i : Nat) : Int)))), (10, (pt b1 0))]) M11, qL 22 p 0 M11 sln, qL 31 b1 0 M11 (.agg ⟨[(i64 (cellI N ns acc i 0)), (i64 (cellI N ns acc i 1)), (i64 (cellI N ns acc i 2)), (i64 (cellI N ns acc i 3)), (i64 (cellI N ns acc i 4))]⟩), .eq (abuildSlice Tryd.prog 22 1 [(0, (.agg ⟨[(i64 (cellI N ns acc i 0)), (i64 (cellI N ns acc i 1)), (i64 (cellI N ns acc i 2)), (i64 (cellI N ns acc i 3)), (i64 (cellI N ns acc i 4))]⟩))] M11) (1, .val (sli b19 0 1 2), M20), .q (.append [22, 22] sln (sli b19 0 1 2) M20) (1, .val (sli b30 0 1 1), M31), qS 22 p 0 (sli b30 0 1 1) M31 M42, qL 23 p 1 M42 sln, .q (.inb (IntKind.wrap .u64 (((i : Nat) : Int))) 64) (ansB true), qC 17 [(i64 (acc.fdiv (2 ^ (IntKind.wrap .u64 (((i : Nat) : Int))).toNat))), (i64 2)] (Mem.mk M42.blks M42.next (hides 60 [⟨5, 0, M42.next, M42.next⟩, ⟨4, 0, M42.next, M42.next⟩, ⟨3, 0, M42.next, M42.next⟩, ⟨2, 0, M42.next, M42.next⟩, ⟨1, 1, M42.next, M42.next⟩, ⟨0, 0, M42.next, M42.next⟩] ++ M42.hide) M42.log) (i64 (modI (acc.fdiv (2 ^ (IntKind.wrap .u64 (((i : Nat) : Int))).toNat)) 2)) M55, .eq (abuildSlice Tryd.prog 23 1 [(0, (.bool ((modI (acc.fdiv (2 ^ (IntKind.wrap .u64 (((i : Nat) : Int))).toNat)) 2) == (1 : Int))))] (Mem.mk M55.blks M55.next (hides 252 [⟨7, 0, M55.next, M55.next⟩, ⟨6, 1, M42.next, M55.next⟩, ⟨5, 0, M42.next, M42.next⟩, ⟨4, 0, M42.next, M42.next⟩, ⟨3, 0, M42.next, M42.next⟩, ⟨2, 0, M42.next, M42.next⟩, ⟨1, 1, M42.next, M42.next⟩, ⟨0, 0, M42.next, M42.next⟩] ++ M42.hide) M55.log)) (1, .val (sli b69 0 1 2), M70), .q (.append [23, 23] sln (sli b69 0 1 2) (Mem.mk M70.blks M70.next M42.hide M70.log)) (1, .val (sli b82 0 1 1), M83), qS 23 p 1 (sli b82 0 1 1) (Mem.mk M83.blks M83.next M42.hide M83.log) M96]) := by kernel_rfl
theorem r14n (p r6 i : Nat) (a : Option Addr) (c : Nat) (ns : List Int) (N acc : Int) (k6 : ABlk) {M : Mem} (hM : MemOk M) {M0 : Mem} (hs : FlatAt 1 M0 (.slice a ns.length c) (ns.map ([·]))) (X0 : Ext M0 M) (np : M0.next ≤ p) (hN : 1 ≤ N ∧ N ≤ 9) (hi : i < 9) (gp : M.get p = some ⟨[sln, sln], 25, 2, 0, true⟩) (g6 : M.get r6 = some k6) (dpr6 : p ≠ r6) (cc0 : (decide ((((i : Nat) : Int)) < N)) = true) : ∃ T1 M' b1 b2, Rd Tryd.prog [] (q14.loopAt 0) Tryd.f14.ntmps (fr [(1, (.slice a ns.length c)), (2, (i64 acc)), (6, (pt r6 0)), (7, (pt p 0)), (8, (i64 N)), (9, (i64 (((i : Nat) : Int))))]) M .normal T1 M' ∧ [1, 2, 6, 7, 8, 9].map T1.get = [some (.slice a ns.length c), some (i64 acc), some (pt r6 0), some (pt p 0), some (i64 N), some (i64 (IntKind.wrap .i64 ((((i : Nat) : Int)) + (1 : Int))))] ∧ Ext M0 M' ∧ MemOk M' ∧ M'.get p = some ⟨[(sli b1 0 1 1), (sli b2 0 1 1)], 25, 2, 0, true⟩ ∧ M'.get r6 = some k6 ∧ (M0.next ≤ b1 ∧ p ≠ b1 ∧ r6 ≠ b1 ∧ M'.get b1 = some ⟨[(i64 (cellI N ns acc i 0)), (i64 (cellI N ns acc i 1)), (i64 (cellI N ns acc i 2)), (i64 (cellI N ns acc i 3)), (i64 (cellI N ns acc i 4))], 31, 5, 0, true⟩) ∧ (M0.next ≤ b2 ∧ p ≠ b2 ∧ r6 ≠ b2 ∧ M'.get b2 = some ⟨[(.bool ((modI (acc.fdiv (2 ^ (IntKind.wrap .u64 (((i : Nat) : Int))).toNat)) 2) == (1 : Int)))], 4, 1, 0, true⟩) ∧ b1 ≠ b2 := by
  obtain ⟨b1, M2, eb3, em4, g5, E6, hM7⟩ := new_t hM ⟨[(i64 0), (i64 0), (i64 0), (i64 0), (i64 0)], 31, 1, 0, true⟩
  have nb1 : M0.next ≤ b1 := by rw [← eb3]; exact X0.next
  have dpb1 : p ≠ b1 := by have := Mem.lt_of_get gp; omega
  have dr6b1 : r6 ≠ b1 := by have := Mem.lt_of_get g6; omega
  have g8 := E6.old gp
  have g9 := E6.old g6
  have X10 := X0.trans E6
  obtain ⟨M11, hL12, E13, hM14, g15, kp16⟩ := inner14 r6 p b1 i a c ns N acc 0 0 0 0 0 hM7 hs X10 nb1 hN (by omega) g5
  have g17 := kp16 _ _ g8 (by first | exact dpb1 | exact Ne.symm db1p)
  have g18 := kp16 _ _ g9 (by first | exact dr6b1 | exact Ne.symm db1r6)
  obtain ⟨b19, M20, eb21, em22, g23, E24, hM25⟩ := new_t hM14 ⟨[(i64 (cellI N ns acc i 0)), (i64 (cellI N ns acc i 1)), (i64 (cellI N ns acc i 2)), (i64 (cellI N ns acc i 3)), (i64 (cellI N ns acc i 4))], 31, 5, 0, true⟩
  have nb19 : M0.next ≤ b19 := by rw [← eb21]; exact E13.next
  have dpb19 : p ≠ b19 := by have := Mem.lt_of_get g17; omega
  have dr6b19 : r6 ≠ b19 := by have := Mem.lt_of_get g18; omega
  have db1b19 : b1 ≠ b19 := by have := Mem.lt_of_get g15; omega
  have g26 := E24.old g17
  have g27 := E24.old g18
  have g28 := E24.old g15
  have X29 := E13.trans E24
  obtain ⟨b30, M31, eb32, em33, g34, E36, hM35⟩ := new_t hM25 ⟨[(i64 (cellI N ns acc i 0)), (i64 (cellI N ns acc i 1)), (i64 (cellI N ns acc i 2)), (i64 (cellI N ns acc i 3)), (i64 (cellI N ns acc i 4))], 31, 5, 0, true⟩
  have nb30 : M0.next ≤ b30 := by rw [← eb32]; exact X29.next
  have dpb30 : p ≠ b30 := by have := Mem.lt_of_get g26; omega
  have dr6b30 : r6 ≠ b30 := by have := Mem.lt_of_get g27; omega
  have db1b30 : b1 ≠ b30 := by have := Mem.lt_of_get g28; omega
  have db19b30 : b19 ≠ b30 := by have := Mem.lt_of_get g23; omega
  have g37 := E36.old g26
  have g38 := E36.old g27
  have g39 := E36.old g28
  have g40 := E36.old g23
  have X41 := X29.trans E36
  obtain ⟨M42, q43, g44, kp45, X46, hM47, nx48⟩ := store_t (o := 0) (v := (sli b30 0 1 1)) (new := [(sli b30 0 1 1), sln]) X41 np hM35 dS22 g37 rfl rfl (Nat.zero_le _) (Nat.le_of_ble_eq_true rfl) rfl
  replace g44 : M42.get p = some ⟨[(sli b30 0 1 1), sln], 25, 2, 0, true⟩ := g44
  have g49 := (kp45 _ (Ne.symm dpr6)).trans g38
  have g50 := (kp45 _ (Ne.symm dpb1)).trans g39
  have g51 := (kp45 _ (Ne.symm dpb19)).trans g40
  have g52 := (kp45 _ (Ne.symm dpb30)).trans g34
  obtain ⟨w53, N54, M55, p56, l57, e58, E59, hM60, Q61, G62⟩ := call_t (P := Tryd.prog) (GL := []) (f := 17) hM47 (con17 (acc.fdiv (2 ^ (IntKind.wrap .u64 (((i : Nat) : Int))).toNat)) 2 (by decide))
  have g63 := E59.old g44
  have g64 := E59.old g49
  have g65 := E59.old g50
  have g66 := E59.old g51
  have g67 := E59.old g52
  have ew53 : w53 = (i64 (modI (acc.fdiv (2 ^ (IntKind.wrap .u64 (((i : Nat) : Int))).toNat)) 2)) := (Option.some.inj Q61.1).symm
  subst ew53
  have nxM55 : M55.next = M42.next := by rw [← e58]; exact Q61.2
  have X68 := X46.trans E59
  obtain ⟨b69, M70, eb71, em72, g73, E74, hM75⟩ := new_t hM60 ⟨[(.bool ((modI (acc.fdiv (2 ^ (IntKind.wrap .u64 (((i : Nat) : Int))).toNat)) 2) == (1 : Int)))], 4, 1, 0, true⟩
  have nb69 : M0.next ≤ b69 := by rw [← eb71]; exact X68.next
  have dpb69 : p ≠ b69 := by have := Mem.lt_of_get g63; omega
  have dr6b69 : r6 ≠ b69 := by have := Mem.lt_of_get g64; omega
  have db1b69 : b1 ≠ b69 := by have := Mem.lt_of_get g65; omega
  have db19b69 : b19 ≠ b69 := by have := Mem.lt_of_get g66; omega
  have db30b69 : b30 ≠ b69 := by have := Mem.lt_of_get g67; omega
  have g76 := E74.old g63
  have g77 := E74.old g64
  have g78 := E74.old g65
  have g79 := E74.old g66
  have g80 := E74.old g67
  have X81 := X68.trans E74
  obtain ⟨b82, M83, eb84, em85, g86, E88, hM87⟩ := new_t hM75 ⟨[(.bool ((modI (acc.fdiv (2 ^ (IntKind.wrap .u64 (((i : Nat) : Int))).toNat)) 2) == (1 : Int)))], 4, 1, 0, true⟩
  have nb82 : M0.next ≤ b82 := by rw [← eb84]; exact X81.next
  have dpb82 : p ≠ b82 := by have := Mem.lt_of_get g76; omega
  have dr6b82 : r6 ≠ b82 := by have := Mem.lt_of_get g77; omega
  have db1b82 : b1 ≠ b82 := by have := Mem.lt_of_get g78; omega
  have db19b82 : b19 ≠ b82 := by have := Mem.lt_of_get g79; omega
  have db30b82 : b30 ≠ b82 := by have := Mem.lt_of_get g80; omega
  have db69b82 : b69 ≠ b82 := by have := Mem.lt_of_get g73; omega
  have g89 := E88.old g76
  have g90 := E88.old g77
  have g91 := E88.old g78
  have g92 := E88.old g79
  have g93 := E88.old g80
  have g94 := E88.old g73
  have X95 := X81.trans E88
  obtain ⟨M96, q97, g98, kp99, X100, hM101, nx102⟩ := store_t (o := 1) (v := (sli b82 0 1 1)) (new := [(sli b30 0 1 1), (sli b82 0 1 1)]) X95 np hM87 dS23 g89 rfl rfl (Nat.zero_le _) (Nat.le_of_ble_eq_true rfl) rfl
  replace g98 : M96.get p = some ⟨[(sli b30 0 1 1), (sli b82 0 1 1)], 25, 2, 0, true⟩ := g98
  have g103 := (kp99 _ (Ne.symm dpr6)).trans g90
  have g104 := (kp99 _ (Ne.symm dpb1)).trans g91
  have g105 := (kp99 _ (Ne.symm dpb19)).trans g92
  have g106 := (kp99 _ (Ne.symm dpb30)).trans g93
  have g107 := (kp99 _ (Ne.symm dpb69)).trans g94
  have g108 := (kp99 _ (Ne.symm dpb82)).trans g86
  have hraw := r14n_raw p r6 i a c ns N acc k6 M b1 M2 M11 b19 M20 b30 M31 M42 M55 b69 M70 b82 M83 M96
  have rw0 : Mem.mk M42.blks M42.next (hides 0 [⟨1, 1, M42.next, M42.next⟩, ⟨0, 0, M42.next, M42.next⟩] ++ M42.hide) M42.log = M42 := by rw [show hides 0 [⟨1, 1, M42.next, M42.next⟩, ⟨0, 0, M42.next, M42.next⟩] = [] from by simp [hides, Nat.beq_refl, show Nat.beq 1 0 = false from rfl]]; rfl
  have rw1 : Mem.mk M42.blks M42.next (hides 0 [⟨2, 0, M42.next, M42.next⟩, ⟨1, 1, M42.next, M42.next⟩, ⟨0, 0, M42.next, M42.next⟩] ++ M42.hide) M42.log = M42 := by rw [show hides 0 [⟨2, 0, M42.next, M42.next⟩, ⟨1, 1, M42.next, M42.next⟩, ⟨0, 0, M42.next, M42.next⟩] = [] from by simp [hides, Nat.beq_refl, show Nat.beq 1 0 = false from rfl]]; rfl
  have rw2 : Mem.mk M42.blks M42.next (hides 8 [⟨3, 0, M42.next, M42.next⟩, ⟨2, 0, M42.next, M42.next⟩, ⟨1, 1, M42.next, M42.next⟩, ⟨0, 0, M42.next, M42.next⟩] ++ M42.hide) M42.log = M42 := by rw [show hides 8 [⟨3, 0, M42.next, M42.next⟩, ⟨2, 0, M42.next, M42.next⟩, ⟨1, 1, M42.next, M42.next⟩, ⟨0, 0, M42.next, M42.next⟩] = [] from by simp [hides, Nat.beq_refl, show Nat.beq 1 0 = false from rfl]]; rfl
  have rw3 : Mem.mk M42.blks M42.next (hides 28 [⟨4, 0, M42.next, M42.next⟩, ⟨3, 0, M42.next, M42.next⟩, ⟨2, 0, M42.next, M42.next⟩, ⟨1, 1, M42.next, M42.next⟩, ⟨0, 0, M42.next, M42.next⟩] ++ M42.hide) M42.log = M42 := by rw [show hides 28 [⟨4, 0, M42.next, M42.next⟩, ⟨3, 0, M42.next, M42.next⟩, ⟨2, 0, M42.next, M42.next⟩, ⟨1, 1, M42.next, M42.next⟩, ⟨0, 0, M42.next, M42.next⟩] = [] from by simp [hides, Nat.beq_refl, show Nat.beq 1 0 = false from rfl]]; rfl
  have rw4 : Mem.mk M42.blks M42.next (hides 60 [⟨5, 0, M42.next, M42.next⟩, ⟨4, 0, M42.next, M42.next⟩, ⟨3, 0, M42.next, M42.next⟩, ⟨2, 0, M42.next, M42.next⟩, ⟨1, 1, M42.next, M42.next⟩, ⟨0, 0, M42.next, M42.next⟩] ++ M42.hide) M42.log = M42 := by rw [show hides 60 [⟨5, 0, M42.next, M42.next⟩, ⟨4, 0, M42.next, M42.next⟩, ⟨3, 0, M42.next, M42.next⟩, ⟨2, 0, M42.next, M42.next⟩, ⟨1, 1, M42.next, M42.next⟩, ⟨0, 0, M42.next, M42.next⟩] = [] from by simp [hides, Nat.beq_refl, show Nat.beq 1 0 = false from rfl]]; rfl
  have rw5 : Mem.mk M55.blks M55.next M42.hide M55.log = M55 := by rw [(show M42.hide = M55.hide from ((X46).hide.trans (X68).hide.symm))]
  have rw6 : Mem.mk M55.blks M55.next (hides 124 [⟨6, 1, M42.next, M55.next⟩, ⟨5, 0, M42.next, M42.next⟩, ⟨4, 0, M42.next, M42.next⟩, ⟨3, 0, M42.next, M42.next⟩, ⟨2, 0, M42.next, M42.next⟩, ⟨1, 1, M42.next, M42.next⟩, ⟨0, 0, M42.next, M42.next⟩] ++ M42.hide) M55.log = M55 := by rw [show hides 124 [⟨6, 1, M42.next, M55.next⟩, ⟨5, 0, M42.next, M42.next⟩, ⟨4, 0, M42.next, M42.next⟩, ⟨3, 0, M42.next, M42.next⟩, ⟨2, 0, M42.next, M42.next⟩, ⟨1, 1, M42.next, M42.next⟩, ⟨0, 0, M42.next, M42.next⟩] = [] from by simp [hides, Nat.beq_refl, nxM55, show Nat.beq 1 0 = false from rfl, show Nat.testBit 124 6 = true from rfl], (show M42.hide = M55.hide from ((X46).hide.trans (X68).hide.symm))]; rfl
  have rw7 : Mem.mk M55.blks M55.next (hides 252 [⟨7, 0, M55.next, M55.next⟩, ⟨6, 1, M42.next, M55.next⟩, ⟨5, 0, M42.next, M42.next⟩, ⟨4, 0, M42.next, M42.next⟩, ⟨3, 0, M42.next, M42.next⟩, ⟨2, 0, M42.next, M42.next⟩, ⟨1, 1, M42.next, M42.next⟩, ⟨0, 0, M42.next, M42.next⟩] ++ M42.hide) M55.log = M55 := by rw [show hides 252 [⟨7, 0, M55.next, M55.next⟩, ⟨6, 1, M42.next, M55.next⟩, ⟨5, 0, M42.next, M42.next⟩, ⟨4, 0, M42.next, M42.next⟩, ⟨3, 0, M42.next, M42.next⟩, ⟨2, 0, M42.next, M42.next⟩, ⟨1, 1, M42.next, M42.next⟩, ⟨0, 0, M42.next, M42.next⟩] = [] from by simp [hides, Nat.beq_refl, nxM55, show Nat.beq 1 0 = false from rfl, show Nat.testBit 252 6 = true from rfl], (show M42.hide = M55.hide from ((X46).hide.trans (X68).hide.symm))]; rfl
  have rw8 : Mem.mk M70.blks M70.next M42.hide M70.log = M70 := by rw [(show M42.hide = M70.hide from ((X46).hide.trans (X81).hide.symm))]
  have rw9 : Mem.mk M83.blks M83.next M42.hide M83.log = M83 := by rw [(show M42.hide = M83.hide from ((X46).hide.trans (X95).hide.symm))]
  have rw10 : Mem.mk M96.blks M96.next M42.hide M96.log = M96 := by rw [(show M42.hide = M96.hide from ((X46).hide.trans (X100).hide.symm))]
  try rw [rw0] at hraw
  try rw [rw1] at hraw
  try rw [rw2] at hraw
  try rw [rw3] at hraw
  try rw [rw4] at hraw
  try rw [rw5] at hraw
  try rw [rw6] at hraw
  try rw [rw7] at hraw
  try rw [rw8] at hraw
  try rw [rw9] at hraw
  try rw [rw10] at hraw
  obtain ⟨T1, h1, h2⟩ := Rd.told noNumP mixedP (fun B => specsB_ok (hS14_17 B) (k := [(2, bone (.loop (q14.loopAt 2)) Tryd.f14.ntmps [1, 2, 6, 7, 8, 9, 10, 11] [some (.slice a ns.length c), some (i64 acc), some (pt r6 0), some (pt p 0), some (i64 N), some (i64 (((i : Nat) : Int))), some (pt b1 0), some (i64 0)] M2 .normal (fr [(1, (.slice a ns.length c)), (2, (i64 acc)), (6, (pt r6 0)), (7, (pt p 0)), (8, (i64 N)), (9, (i64 (((i : Nat) : Int)))), (10, (pt b1 0))]) M11)]) (fun p hp => by simp only [List.mem_cons, List.not_mem_nil, or_false] at hp; rcases hp with rfl <;> first | exact BlkOk.loop noNumP mixedP hL12)) (fun _ h => blksF_one h) hraw (hk (bT cc0) (hk (q_eq (by rw [← eb3, ← em4]; kernel_rfl) Nat.one_ne_zero) (hk (q_blk rfl) (hk (lC dC22 g17 rfl) (hk (lA ⟨dA31, dS31⟩ g15 rfl) (hk (q_eq (by rw [← eb21, ← em22]; kernel_rfl) Nat.one_ne_zero) (hk (q_app (by rw [← eb32, ← em33]; exact append_nil (w := 5) (by kernel_rfl) (by kernel_rfl) (y := 40) (by kernel_rfl) (by decide) (by decide) g23 rfl rfl rfl) Nat.one_ne_zero) (hk (q_st q43) (hk (lC dC23 g44 rfl) (hk (q_inb (by rw [u64_small (by omega)]; omega) (by rw [u64_small (by omega)]; omega)) (hk (q_call rfl p56 l57 e58) (hk (q_eq (by rw [← eb71, ← em72]; kernel_rfl) Nat.one_ne_zero) (hk (q_app (by rw [← eb84, ← em85]; exact append_nil (w := 1) (by kernel_rfl) (by kernel_rfl) (y := 1) (by kernel_rfl) (by decide) (by decide) g73 rfl rfl rfl) Nat.one_ne_zero) (hk (q_st q97) hn))))))))))))))
  exact ⟨T1, M96, b30, b82, h1, h2, X100, hM101, g98, g103, ⟨nb30, dpb30, dr6b30, g106⟩, ⟨nb82, dpb82, dr6b82, g108⟩, db30b82⟩
theorem r14x_raw (p r6 i : Nat) (a : Option Addr) (q c : Nat) (N acc : Int) (M : Mem) : oR Tryd.prog [] 40 Tryd.f14 (q14.loopAt 0) [(1, (.slice a q c)), (2, (i64 acc)), (6, (pt r6 0)), (7, (pt p 0)), (8, (i64 N)), (9, (i64 (((i : Nat) : Int))))] M [ttF 6] [6, 7] = some ((.exit 0), [some (pt r6 0), some (pt p 0)], M, [qF (decide ((((i : Nat) : Int)) < N))]) := by kernel_rfl
theorem r14x (p r6 i : Nat) (a : Option Addr) (q c : Nat) (N acc : Int) {M : Mem} (cc0 : (decide ((((i : Nat) : Int)) < N)) = false) : ∃ T1, Rd Tryd.prog [] (q14.loopAt 0) Tryd.f14.ntmps (fr [(1, (.slice a q c)), (2, (i64 acc)), (6, (pt r6 0)), (7, (pt p 0)), (8, (i64 N)), (9, (i64 (((i : Nat) : Int))))]) M (.exit 0) T1 M ∧ [6, 7].map T1.get = [some (pt r6 0), some (pt p 0)] := by
  obtain ⟨T1, h1, h2⟩ := Rd.told noNumP mixedP (specs_none Tryd.prog) (fun _ _ => rfl) (r14x_raw p r6 i a q c N acc M) (hk (bF cc0) hn)
  exact ⟨T1, h1, h2⟩
theorem r14s_raw (p r6 i : Nat) (a : Option Addr) (c : Nat) (ns : List Int) (N acc : Int) (_ : ABlk) (bs bf : Nat) (_ _ : List Value) (M : Mem) (b1 : Nat) (M2 : Mem) (M13 : Mem) (b23 : Nat) (M24 : Mem) (b38 : Nat) (M39 : Mem) (M49 : Mem) (M63 : Mem) (b78 : Nat) (M79 : Mem) (b94 : Nat) (M95 : Mem) (M106 : Mem) : oR Tryd.prog [2] 60 Tryd.f14 (q14.loopAt 0) [(1, (.slice a ns.length c)), (2, (i64 acc)), (6, (pt r6 0)), (7, (pt p 0)), (8, (i64 N)), (9, (i64 (((i : Nat) : Int))))] M [ttT 6, ttV 8 (pt b1 0) M2, .blk 11 [1, 2, 6, 7, 8, 9, 10, 11] .normal (fr [(1, (.slice a ns.length c)), (2, (i64 acc)), (6, (pt r6 0)), (7, (pt p 0)), (8, (i64 N)), (9, (i64 (((i : Nat) : Int)))), (10, (pt b1 0))]) M13, ttL 15 (sli bs 0 i i), ttL 17 (.agg ⟨[(i64 (cellI N ns acc i 0)), (i64 (cellI N ns acc i 1)), (i64 (cellI N ns acc i 2)), (i64 (cellI N ns acc i 3)), (i64 (cellI N ns acc i 4))]⟩), ttV 19 (sli b23 0 1 2) M24, .at 21 (2, .val (sli b38 0 (i + 1) (i + 1)), M39), ttS 25 M49, ttL 29 (sli bf 0 i i), ttT 37, ttV 39 (i64 (modI (acc.fdiv (2 ^ (IntKind.wrap .u64 (((i : Nat) : Int))).toNat)) 2)) M63, ttV 43 (sli b78 0 1 2) M79, .at 45 (2, .val (sli b94 0 (i + 1) (i + 1)), M95), ttS 49 M106] [1, 2, 6, 7, 8, 9] = some (.normal, [some (.slice a ns.length c), some (i64 acc), some (pt r6 0), some (pt p 0), some (i64 N), some (i64 (IntKind.wrap .i64 ((((i : Nat) : Int)) + (1 : Int))))], (Mem.mk M106.blks M106.next M49.hide M106.log), [qT (decide ((((i : Nat) : Int)) < N)), .eq (aalloc Tryd.prog 31 M) (1, .val (pt b1 0), M2), .blk 2 (.loop (q14.loopAt 2)) Tryd.f14.ntmps [1, 2, 6, 7, 8, 9, 10, 11] [some (.slice a ns.length c), some (i64 acc), some (pt r6 0), some (pt p 0), some (i64 N), some (i64 (((i : Nat) : Int))), some (pt b1 0), some (i64 0)] M2 .normal (fr [(1, (.slice a ns.length c)), (2, (i64 acc)), (6, (pt r6 0)), (7, (pt p 0)), (8, (i64 N)), (9, (i64 (((i : Nat) : Int)))), (10, (pt b1 0))]) M13, qL 22 p 0 M13 (sli bs 0 i i), qL 31 b1 0 M13 (.agg ⟨[(i64 (cellI N ns acc i 0)), (i64 (cellI N ns acc i 1)), (i64 (cellI N ns acc i 2)), (i64 (cellI N ns acc i 3)), (i64 (cellI N ns acc i 4))]⟩), .eq (abuildSlice Tryd.prog 22 1 [(0, (.agg ⟨[(i64 (cellI N ns acc i 0)), (i64 (cellI N ns acc i 1)), (i64 (cellI N ns acc i 2)), (i64 (cellI N ns acc i 3)), (i64 (cellI N ns acc i 4))]⟩))] M13) (1, .val (sli b23 0 1 2), M24), .q (.append [22, 22] (sli bs 0 i i) (sli b23 0 1 2) M24) (2, .val (sli b38 0 (i + 1) (i + 1)), M39), qS 22 p 0 (sli b38 0 (i + 1) (i + 1)) M39 M49, qL 23 p 1 M49 (sli bf 0 i i), .q (.inb (IntKind.wrap .u64 (((i : Nat) : Int))) 64) (ansB true), qC 17 [(i64 (acc.fdiv (2 ^ (IntKind.wrap .u64 (((i : Nat) : Int))).toNat))), (i64 2)] (Mem.mk M49.blks M49.next (hides 60 [⟨5, 0, M49.next, M49.next⟩, ⟨4, 0, M49.next, M49.next⟩, ⟨3, 0, M49.next, M49.next⟩, ⟨2, 0, M49.next, M49.next⟩, ⟨1, 1, M49.next, M49.next⟩, ⟨0, 0, M49.next, M49.next⟩] ++ M49.hide) M49.log) (i64 (modI (acc.fdiv (2 ^ (IntKind.wrap .u64 (((i : Nat) : Int))).toNat)) 2)) M63, .eq (abuildSlice Tryd.prog 23 1 [(0, (.bool ((modI (acc.fdiv (2 ^ (IntKind.wrap .u64 (((i : Nat) : Int))).toNat)) 2) == (1 : Int))))] (Mem.mk M63.blks M63.next (hides 252 [⟨7, 0, M63.next, M63.next⟩, ⟨6, 1, M49.next, M63.next⟩, ⟨5, 0, M49.next, M49.next⟩, ⟨4, 0, M49.next, M49.next⟩, ⟨3, 0, M49.next, M49.next⟩, ⟨2, 0, M49.next, M49.next⟩, ⟨1, 1, M49.next, M49.next⟩, ⟨0, 0, M49.next, M49.next⟩] ++ M49.hide) M63.log)) (1, .val (sli b78 0 1 2), M79), .q (.append [23, 23] (sli bf 0 i i) (sli b78 0 1 2) (Mem.mk M79.blks M79.next M49.hide M79.log)) (2, .val (sli b94 0 (i + 1) (i + 1)), M95), qS 23 p 1 (sli b94 0 (i + 1) (i + 1)) (Mem.mk M95.blks M95.next M49.hide M95.log) M106]) := by kernel_rfl
theorem r14s (p r6 i : Nat) (a : Option Addr) (c : Nat) (ns : List Int) (N acc : Int) (k6 : ABlk) (bs bf : Nat) (cs cf : List Value) {M : Mem} (hM : MemOk M) {M0 : Mem} (hs : FlatAt 1 M0 (.slice a ns.length c) (ns.map ([·]))) (X0 : Ext M0 M) (np : M0.next ≤ p) (hN : 1 ≤ N ∧ N ≤ 9) (hi : i < 9) (gp : M.get p = some ⟨[(sli bs 0 i i), (sli bf 0 i i)], 25, 2, 0, true⟩) (g6 : M.get r6 = some k6) (dpr6 : p ≠ r6) (nbs : M0.next ≤ bs) (gs : M.get bs = some ⟨cs, 31, 5, 0, true⟩) (dpbs : p ≠ bs) (dr6bs : r6 ≠ bs) (hcs : cs.length = i * 5) (nbf : M0.next ≤ bf) (gf : M.get bf = some ⟨cf, 4, 1, 0, true⟩) (dpbf : p ≠ bf) (dr6bf : r6 ≠ bf) (hcf : cf.length = i * 1) (dbsbf : bs ≠ bf) (cc0 : (decide ((((i : Nat) : Int)) < N)) = true) : ∃ T1 M' b1 b2, Rd Tryd.prog [] (q14.loopAt 0) Tryd.f14.ntmps (fr [(1, (.slice a ns.length c)), (2, (i64 acc)), (6, (pt r6 0)), (7, (pt p 0)), (8, (i64 N)), (9, (i64 (((i : Nat) : Int))))]) M .normal T1 M' ∧ [1, 2, 6, 7, 8, 9].map T1.get = [some (.slice a ns.length c), some (i64 acc), some (pt r6 0), some (pt p 0), some (i64 N), some (i64 (IntKind.wrap .i64 ((((i : Nat) : Int)) + (1 : Int))))] ∧ Ext M0 M' ∧ MemOk M' ∧ M'.get p = some ⟨[(sli b1 0 (i + 1) (i + 1)), (sli b2 0 (i + 1) (i + 1))], 25, 2, 0, true⟩ ∧ M'.get r6 = some k6 ∧ (M0.next ≤ b1 ∧ p ≠ b1 ∧ r6 ≠ b1 ∧ M'.get b1 = some ⟨cs ++ [(i64 (cellI N ns acc i 0)), (i64 (cellI N ns acc i 1)), (i64 (cellI N ns acc i 2)), (i64 (cellI N ns acc i 3)), (i64 (cellI N ns acc i 4))], 31, 5, 0, true⟩) ∧ (M0.next ≤ b2 ∧ p ≠ b2 ∧ r6 ≠ b2 ∧ M'.get b2 = some ⟨cf ++ [(.bool ((modI (acc.fdiv (2 ^ (IntKind.wrap .u64 (((i : Nat) : Int))).toNat)) 2) == (1 : Int)))], 4, 1, 0, true⟩) ∧ b1 ≠ b2 := by
  obtain ⟨b1, M2, eb3, em4, g5, E6, hM7⟩ := new_t hM ⟨[(i64 0), (i64 0), (i64 0), (i64 0), (i64 0)], 31, 1, 0, true⟩
  have nb1 : M0.next ≤ b1 := by rw [← eb3]; exact X0.next
  have dpb1 : p ≠ b1 := by have := Mem.lt_of_get gp; omega
  have dr6b1 : r6 ≠ b1 := by have := Mem.lt_of_get g6; omega
  have dbsb1 : bs ≠ b1 := by have := Mem.lt_of_get gs; omega
  have dbfb1 : bf ≠ b1 := by have := Mem.lt_of_get gf; omega
  have g8 := E6.old gp
  have g9 := E6.old g6
  have g10 := E6.old gs
  have g11 := E6.old gf
  have X12 := X0.trans E6
  obtain ⟨M13, hL14, E15, hM16, g17, kp18⟩ := inner14 r6 p b1 i a c ns N acc 0 0 0 0 0 hM7 hs X12 nb1 hN (by omega) g5
  have g19 := kp18 _ _ g8 (by first | exact dpb1 | exact Ne.symm db1p)
  have g20 := kp18 _ _ g9 (by first | exact dr6b1 | exact Ne.symm db1r6)
  have g21 := kp18 _ _ g10 (by first | exact dbsb1 | exact Ne.symm db1bs)
  have g22 := kp18 _ _ g11 (by first | exact dbfb1 | exact Ne.symm db1bf)
  obtain ⟨b23, M24, eb25, em26, g27, E28, hM29⟩ := new_t hM16 ⟨[(i64 (cellI N ns acc i 0)), (i64 (cellI N ns acc i 1)), (i64 (cellI N ns acc i 2)), (i64 (cellI N ns acc i 3)), (i64 (cellI N ns acc i 4))], 31, 5, 0, true⟩
  have nb23 : M0.next ≤ b23 := by rw [← eb25]; exact E15.next
  have dpb23 : p ≠ b23 := by have := Mem.lt_of_get g19; omega
  have dr6b23 : r6 ≠ b23 := by have := Mem.lt_of_get g20; omega
  have dbsb23 : bs ≠ b23 := by have := Mem.lt_of_get g21; omega
  have dbfb23 : bf ≠ b23 := by have := Mem.lt_of_get g22; omega
  have db1b23 : b1 ≠ b23 := by have := Mem.lt_of_get g17; omega
  have g30 := E28.old g19
  have g31 := E28.old g20
  have g32 := E28.old g21
  have g33 := E28.old g22
  have g34 := E28.old g17
  have X35 := E15.trans E28
  obtain ⟨b38, M39, eb40, em41, g42, X37, hM43, kp36⟩ := grow_t X35 nbs hM29 ⟨cs ++ [(i64 (cellI N ns acc i 0)), (i64 (cellI N ns acc i 1)), (i64 (cellI N ns acc i 2)), (i64 (cellI N ns acc i 3)), (i64 (cellI N ns acc i 4))], 31, 5, 0, true⟩
  have nb38 : M0.next ≤ b38 := by rw [← eb40]; exact X35.next
  have dpb38 : p ≠ b38 := by have := Mem.lt_of_get g30; omega
  have dr6b38 : r6 ≠ b38 := by have := Mem.lt_of_get g31; omega
  have dbsb38 : bs ≠ b38 := by have := Mem.lt_of_get g32; omega
  have dbfb38 : bf ≠ b38 := by have := Mem.lt_of_get g33; omega
  have db1b38 : b1 ≠ b38 := by have := Mem.lt_of_get g34; omega
  have db23b38 : b23 ≠ b38 := by have := Mem.lt_of_get g27; omega
  have g44 := (kp36 _ dpbs (Mem.lt_of_get g30)).trans g30
  have g45 := (kp36 _ dr6bs (Mem.lt_of_get g31)).trans g31
  have g46 := (kp36 _ (Ne.symm dbsbf) (Mem.lt_of_get g33)).trans g33
  have g47 := (kp36 _ (Ne.symm dbsb1) (Mem.lt_of_get g34)).trans g34
  have g48 := (kp36 _ (Ne.symm dbsb23) (Mem.lt_of_get g27)).trans g27
  obtain ⟨M49, q50, g51, kp52, X53, hM54, nx55⟩ := store_t (o := 0) (v := (sli b38 0 (i + 1) (i + 1))) (new := [(sli b38 0 (i + 1) (i + 1)), (sli bf 0 i i)]) X37 np hM43 dS22 g44 rfl rfl (Nat.zero_le _) (Nat.le_of_ble_eq_true rfl) rfl
  replace g51 : M49.get p = some ⟨[(sli b38 0 (i + 1) (i + 1)), (sli bf 0 i i)], 25, 2, 0, true⟩ := g51
  have g56 := (kp52 _ (Ne.symm dpr6)).trans g45
  have g57 := (kp52 _ (Ne.symm dpbf)).trans g46
  have g58 := (kp52 _ (Ne.symm dpb1)).trans g47
  have g59 := (kp52 _ (Ne.symm dpb23)).trans g48
  have g60 := (kp52 _ (Ne.symm dpb38)).trans g42
  obtain ⟨w61, N62, M63, p64, l65, e66, E67, hM68, Q69, G70⟩ := call_t (P := Tryd.prog) (GL := []) (f := 17) hM54 (con17 (acc.fdiv (2 ^ (IntKind.wrap .u64 (((i : Nat) : Int))).toNat)) 2 (by decide))
  have g71 := E67.old g51
  have g72 := E67.old g56
  have g73 := E67.old g57
  have g74 := E67.old g58
  have g75 := E67.old g59
  have g76 := E67.old g60
  have ew61 : w61 = (i64 (modI (acc.fdiv (2 ^ (IntKind.wrap .u64 (((i : Nat) : Int))).toNat)) 2)) := (Option.some.inj Q69.1).symm
  subst ew61
  have nxM63 : M63.next = M49.next := by rw [← e66]; exact Q69.2
  have X77 := X53.trans E67
  obtain ⟨b78, M79, eb80, em81, g82, E83, hM84⟩ := new_t hM68 ⟨[(.bool ((modI (acc.fdiv (2 ^ (IntKind.wrap .u64 (((i : Nat) : Int))).toNat)) 2) == (1 : Int)))], 4, 1, 0, true⟩
  have nb78 : M0.next ≤ b78 := by rw [← eb80]; exact X77.next
  have dpb78 : p ≠ b78 := by have := Mem.lt_of_get g71; omega
  have dr6b78 : r6 ≠ b78 := by have := Mem.lt_of_get g72; omega
  have dbfb78 : bf ≠ b78 := by have := Mem.lt_of_get g73; omega
  have db1b78 : b1 ≠ b78 := by have := Mem.lt_of_get g74; omega
  have db23b78 : b23 ≠ b78 := by have := Mem.lt_of_get g75; omega
  have db38b78 : b38 ≠ b78 := by have := Mem.lt_of_get g76; omega
  have g85 := E83.old g71
  have g86 := E83.old g72
  have g87 := E83.old g73
  have g88 := E83.old g74
  have g89 := E83.old g75
  have g90 := E83.old g76
  have X91 := X77.trans E83
  obtain ⟨b94, M95, eb96, em97, g98, X93, hM99, kp92⟩ := grow_t X91 nbf hM84 ⟨cf ++ [(.bool ((modI (acc.fdiv (2 ^ (IntKind.wrap .u64 (((i : Nat) : Int))).toNat)) 2) == (1 : Int)))], 4, 1, 0, true⟩
  have nb94 : M0.next ≤ b94 := by rw [← eb96]; exact X91.next
  have dpb94 : p ≠ b94 := by have := Mem.lt_of_get g85; omega
  have dr6b94 : r6 ≠ b94 := by have := Mem.lt_of_get g86; omega
  have dbfb94 : bf ≠ b94 := by have := Mem.lt_of_get g87; omega
  have db1b94 : b1 ≠ b94 := by have := Mem.lt_of_get g88; omega
  have db23b94 : b23 ≠ b94 := by have := Mem.lt_of_get g89; omega
  have db38b94 : b38 ≠ b94 := by have := Mem.lt_of_get g90; omega
  have db78b94 : b78 ≠ b94 := by have := Mem.lt_of_get g82; omega
  have g100 := (kp92 _ dpbf (Mem.lt_of_get g85)).trans g85
  have g101 := (kp92 _ dr6bf (Mem.lt_of_get g86)).trans g86
  have g102 := (kp92 _ (Ne.symm dbfb1) (Mem.lt_of_get g88)).trans g88
  have g103 := (kp92 _ (Ne.symm dbfb23) (Mem.lt_of_get g89)).trans g89
  have g104 := (kp92 _ (Ne.symm dbfb38) (Mem.lt_of_get g90)).trans g90
  have g105 := (kp92 _ (Ne.symm dbfb78) (Mem.lt_of_get g82)).trans g82
  obtain ⟨M106, q107, g108, kp109, X110, hM111, nx112⟩ := store_t (o := 1) (v := (sli b94 0 (i + 1) (i + 1))) (new := [(sli b38 0 (i + 1) (i + 1)), (sli b94 0 (i + 1) (i + 1))]) X93 np hM99 dS23 g100 rfl rfl (Nat.zero_le _) (Nat.le_of_ble_eq_true rfl) rfl
  replace g108 : M106.get p = some ⟨[(sli b38 0 (i + 1) (i + 1)), (sli b94 0 (i + 1) (i + 1))], 25, 2, 0, true⟩ := g108
  have g113 := (kp109 _ (Ne.symm dpr6)).trans g101
  have g114 := (kp109 _ (Ne.symm dpb1)).trans g102
  have g115 := (kp109 _ (Ne.symm dpb23)).trans g103
  have g116 := (kp109 _ (Ne.symm dpb38)).trans g104
  have g117 := (kp109 _ (Ne.symm dpb78)).trans g105
  have g118 := (kp109 _ (Ne.symm dpb94)).trans g98
  have hraw := r14s_raw p r6 i a c ns N acc k6 bs bf cs cf M b1 M2 M13 b23 M24 b38 M39 M49 M63 b78 M79 b94 M95 M106
  have rw0 : Mem.mk M49.blks M49.next (hides 0 [⟨1, 1, M49.next, M49.next⟩, ⟨0, 0, M49.next, M49.next⟩] ++ M49.hide) M49.log = M49 := by rw [show hides 0 [⟨1, 1, M49.next, M49.next⟩, ⟨0, 0, M49.next, M49.next⟩] = [] from by simp [hides, Nat.beq_refl, show Nat.beq 1 0 = false from rfl]]; rfl
  have rw1 : Mem.mk M49.blks M49.next (hides 0 [⟨2, 0, M49.next, M49.next⟩, ⟨1, 1, M49.next, M49.next⟩, ⟨0, 0, M49.next, M49.next⟩] ++ M49.hide) M49.log = M49 := by rw [show hides 0 [⟨2, 0, M49.next, M49.next⟩, ⟨1, 1, M49.next, M49.next⟩, ⟨0, 0, M49.next, M49.next⟩] = [] from by simp [hides, Nat.beq_refl, show Nat.beq 1 0 = false from rfl]]; rfl
  have rw2 : Mem.mk M49.blks M49.next (hides 8 [⟨3, 0, M49.next, M49.next⟩, ⟨2, 0, M49.next, M49.next⟩, ⟨1, 1, M49.next, M49.next⟩, ⟨0, 0, M49.next, M49.next⟩] ++ M49.hide) M49.log = M49 := by rw [show hides 8 [⟨3, 0, M49.next, M49.next⟩, ⟨2, 0, M49.next, M49.next⟩, ⟨1, 1, M49.next, M49.next⟩, ⟨0, 0, M49.next, M49.next⟩] = [] from by simp [hides, Nat.beq_refl, show Nat.beq 1 0 = false from rfl]]; rfl
  have rw3 : Mem.mk M49.blks M49.next (hides 28 [⟨4, 0, M49.next, M49.next⟩, ⟨3, 0, M49.next, M49.next⟩, ⟨2, 0, M49.next, M49.next⟩, ⟨1, 1, M49.next, M49.next⟩, ⟨0, 0, M49.next, M49.next⟩] ++ M49.hide) M49.log = M49 := by rw [show hides 28 [⟨4, 0, M49.next, M49.next⟩, ⟨3, 0, M49.next, M49.next⟩, ⟨2, 0, M49.next, M49.next⟩, ⟨1, 1, M49.next, M49.next⟩, ⟨0, 0, M49.next, M49.next⟩] = [] from by simp [hides, Nat.beq_refl, show Nat.beq 1 0 = false from rfl]]; rfl
  have rw4 : Mem.mk M49.blks M49.next (hides 60 [⟨5, 0, M49.next, M49.next⟩, ⟨4, 0, M49.next, M49.next⟩, ⟨3, 0, M49.next, M49.next⟩, ⟨2, 0, M49.next, M49.next⟩, ⟨1, 1, M49.next, M49.next⟩, ⟨0, 0, M49.next, M49.next⟩] ++ M49.hide) M49.log = M49 := by rw [show hides 60 [⟨5, 0, M49.next, M49.next⟩, ⟨4, 0, M49.next, M49.next⟩, ⟨3, 0, M49.next, M49.next⟩, ⟨2, 0, M49.next, M49.next⟩, ⟨1, 1, M49.next, M49.next⟩, ⟨0, 0, M49.next, M49.next⟩] = [] from by simp [hides, Nat.beq_refl, show Nat.beq 1 0 = false from rfl]]; rfl
  have rw5 : Mem.mk M63.blks M63.next M49.hide M63.log = M63 := by rw [(show M49.hide = M63.hide from ((X53).hide.trans (X77).hide.symm))]
  have rw6 : Mem.mk M63.blks M63.next (hides 124 [⟨6, 1, M49.next, M63.next⟩, ⟨5, 0, M49.next, M49.next⟩, ⟨4, 0, M49.next, M49.next⟩, ⟨3, 0, M49.next, M49.next⟩, ⟨2, 0, M49.next, M49.next⟩, ⟨1, 1, M49.next, M49.next⟩, ⟨0, 0, M49.next, M49.next⟩] ++ M49.hide) M63.log = M63 := by rw [show hides 124 [⟨6, 1, M49.next, M63.next⟩, ⟨5, 0, M49.next, M49.next⟩, ⟨4, 0, M49.next, M49.next⟩, ⟨3, 0, M49.next, M49.next⟩, ⟨2, 0, M49.next, M49.next⟩, ⟨1, 1, M49.next, M49.next⟩, ⟨0, 0, M49.next, M49.next⟩] = [] from by simp [hides, Nat.beq_refl, nxM63, show Nat.beq 1 0 = false from rfl, show Nat.testBit 124 6 = true from rfl], (show M49.hide = M63.hide from ((X53).hide.trans (X77).hide.symm))]; rfl
  have rw7 : Mem.mk M63.blks M63.next (hides 252 [⟨7, 0, M63.next, M63.next⟩, ⟨6, 1, M49.next, M63.next⟩, ⟨5, 0, M49.next, M49.next⟩, ⟨4, 0, M49.next, M49.next⟩, ⟨3, 0, M49.next, M49.next⟩, ⟨2, 0, M49.next, M49.next⟩, ⟨1, 1, M49.next, M49.next⟩, ⟨0, 0, M49.next, M49.next⟩] ++ M49.hide) M63.log = M63 := by rw [show hides 252 [⟨7, 0, M63.next, M63.next⟩, ⟨6, 1, M49.next, M63.next⟩, ⟨5, 0, M49.next, M49.next⟩, ⟨4, 0, M49.next, M49.next⟩, ⟨3, 0, M49.next, M49.next⟩, ⟨2, 0, M49.next, M49.next⟩, ⟨1, 1, M49.next, M49.next⟩, ⟨0, 0, M49.next, M49.next⟩] = [] from by simp [hides, Nat.beq_refl, nxM63, show Nat.beq 1 0 = false from rfl, show Nat.testBit 252 6 = true from rfl], (show M49.hide = M63.hide from ((X53).hide.trans (X77).hide.symm))]; rfl
  have rw8 : Mem.mk M79.blks M79.next M49.hide M79.log = M79 := by rw [(show M49.hide = M79.hide from ((X53).hide.trans (X91).hide.symm))]
  have rw9 : Mem.mk M95.blks M95.next M49.hide M95.log = M95 := by rw [(show M49.hide = M95.hide from ((X53).hide.trans (X93).hide.symm))]
  have rw10 : Mem.mk M106.blks M106.next M49.hide M106.log = M106 := by rw [(show M49.hide = M106.hide from ((X53).hide.trans (X110).hide.symm))]
  try rw [rw0] at hraw
  try rw [rw1] at hraw
  try rw [rw2] at hraw
  try rw [rw3] at hraw
  try rw [rw4] at hraw
  try rw [rw5] at hraw
  try rw [rw6] at hraw
  try rw [rw7] at hraw
  try rw [rw8] at hraw
  try rw [rw9] at hraw
  try rw [rw10] at hraw
  obtain ⟨T1, h1, h2⟩ := Rd.told noNumP mixedP (fun B => specsB_ok (hS14_17 B) (k := [(2, bone (.loop (q14.loopAt 2)) Tryd.f14.ntmps [1, 2, 6, 7, 8, 9, 10, 11] [some (.slice a ns.length c), some (i64 acc), some (pt r6 0), some (pt p 0), some (i64 N), some (i64 (((i : Nat) : Int))), some (pt b1 0), some (i64 0)] M2 .normal (fr [(1, (.slice a ns.length c)), (2, (i64 acc)), (6, (pt r6 0)), (7, (pt p 0)), (8, (i64 N)), (9, (i64 (((i : Nat) : Int)))), (10, (pt b1 0))]) M13)]) (fun p hp => by simp only [List.mem_cons, List.not_mem_nil, or_false] at hp; rcases hp with rfl <;> first | exact BlkOk.loop noNumP mixedP hL14)) (fun _ h => blksF_one h) hraw (hk (bT cc0) (hk (q_eq (by rw [← eb3, ← em4]; kernel_rfl) Nat.one_ne_zero) (hk (q_blk rfl) (hk (lC dC22 g19 rfl) (hk (lA ⟨dA31, dS31⟩ g17 rfl) (hk (q_eq (by rw [← eb25, ← em26]; kernel_rfl) Nat.one_ne_zero) (hk (q_app (by rw [← eb40, ← em41]; exact append_more (w := 5) (by kernel_rfl) (by kernel_rfl) (by kernel_rfl) (y := 40) (by kernel_rfl) (by decide) (by decide) (by omega) g27 rfl rfl rfl g32 hcs rfl rfl rfl rfl) (Nat.succ_ne_zero _)) (hk (q_st q50) (hk (lC dC23 g51 rfl) (hk (q_inb (by rw [u64_small (by omega)]; omega) (by rw [u64_small (by omega)]; omega)) (hk (q_call rfl p64 l65 e66) (hk (q_eq (by rw [← eb80, ← em81]; kernel_rfl) Nat.one_ne_zero) (hk (q_app (by rw [← eb96, ← em97]; exact append_more (w := 1) (by kernel_rfl) (by kernel_rfl) (by kernel_rfl) (y := 1) (by kernel_rfl) (by decide) (by decide) (by omega) g82 rfl rfl rfl g87 hcf rfl rfl rfl rfl) (Nat.succ_ne_zero _)) (hk (q_st q107) hn))))))))))))))
  exact ⟨T1, M106, b38, b94, h1, h2, X110, hM111, g108, g113, ⟨nb38, dpb38, dr6b38, g116⟩, ⟨nb94, dpb94, dr6b94, g118⟩, db38b94⟩
end Go.Proofs.YtepgijgmnijdpaaDoor

open Go Go.Am Go.Proofs
namespace Go.Proofs.YtepgijgmnijdpaaDoor
set_option maxRecDepth 100000
def RowG (M0 M : Mem) (p r6 el w : Nat) (S : Value) (n : Nat) (cs : List Value) (b : Nat) : Prop :=
  (n = 0 ∧ S = sln) ∨ (S = sli b 0 n n ∧ 0 < n ∧ M0.next ≤ b ∧ p ≠ b ∧ r6 ≠ b ∧ M.get b = some ⟨cs, el, w, 0, true⟩)
theorem irows_app (l : List (List Int)) (r : List Int) : (irows (l ++ [r])).flatten = (irows l).flatten ++ r.map i64 := by simp [irows]
theorem irows_flen {w : Nat} {l : List (List Int)} (h : ∀ r ∈ l, r.length = w) : (irows l).flatten.length = l.length * w := by
  induction l with
  | nil => simp [irows]
  | cons r l ih =>
    have h1 := h r (List.mem_cons_self ..)
    have h2 := ih fun r hr => h r (List.mem_cons_of_mem _ hr)
    simp only [irows, List.map_cons, List.flatten_cons, List.length_append, List.length_map, List.length_cons] at h2 ⊢
    rw [h2, h1, Nat.succ_mul, Nat.add_comm]
def rowsI (N : Int) (ns : List Int) (acc : Int) (i : Nat) : List (List Int) := (List.range i).map (rowI N ns acc)
def accsI (acc : Int) (i : Nat) : List Bool := (List.range i).map (accI acc)
theorem rowsI_len (N : Int) (ns : List Int) (acc : Int) (i : Nat) : (rowsI N ns acc i).length = i := by simp [rowsI]
theorem accsI_len (acc : Int) (i : Nat) : (accsI acc i).length = i := by simp [accsI]
theorem rowsI_succ (N : Int) (ns : List Int) (acc : Int) (i : Nat) : rowsI N ns acc (i + 1) = rowsI N ns acc i ++ [rowI N ns acc i] := by simp [rowsI, List.range_succ]
theorem accsI_succ (acc : Int) (i : Nat) : accsI acc (i + 1) = accsI acc i ++ [accI acc i] := by simp [accsI, List.range_succ]
theorem rowsI_wide (N : Int) (ns : List Int) (acc : Int) (i : Nat) : ∀ r ∈ rowsI N ns acc i, r.length = 5 := fun r hr => by
  obtain ⟨k, _, rfl⟩ := List.mem_map.1 hr
  rfl
def brows (l : List Bool) : List (List Value) := l.map bRow
theorem brows_app (l : List Bool) (b : Bool) : (brows (l ++ [b])).flatten = (brows l).flatten ++ [.bool b] := by simp [brows]
theorem brows_flen (l : List Bool) : (brows l).flatten.length = l.length * 1 := by
  induction l with
  | nil => rfl
  | cons b l ih => simp only [brows, List.map_cons, List.flatten_cons, List.length_append, List.length_cons] at ih ⊢; rw [ih]; simp; omega
structure MkD (M0 M : Mem) (p r6 : Nat) (k6 : ABlk) (N : Int) (ns : List Int) (acc : Int) (i : Nat) : Prop where
  ext : Ext M0 M
  ok : MemOk M
  np : M0.next ≤ p
  d6 : p ≠ r6
  g6 : M.get r6 = some k6
  at_ : ∃ S F bs bf, M.get p = some ⟨[S, F], 25, 2, 0, true⟩ ∧ RowG M0 M p r6 31 5 S i (irows (rowsI N ns acc i)).flatten bs ∧ RowG M0 M p r6 4 1 F i (brows (accsI acc i)).flatten bf ∧ (0 < i → bs ≠ bf)
theorem mk_step {M0 M : Mem} {p r6 : Nat} {k6 : ABlk} {N acc : Int} {ns : List Int} {i : Nat} {a : Option Addr} {c : Nat} (hs : FlatAt 1 M0 (.slice a ns.length c) (ns.map ([·]))) (h : MkD M0 M p r6 k6 N ns acc i) (hN : 1 ≤ N ∧ N ≤ 9) (hi : ((i : Nat) : Int) < N) :
    ∃ T1 M', Rd Tryd.prog [] (q14.loopAt 0) Tryd.f14.ntmps (fr [(1, (.slice a ns.length c)), (2, (i64 acc)), (6, (pt r6 0)), (7, (pt p 0)), (8, (i64 N)), (9, (i64 (((i : Nat) : Int))))]) M .normal T1 M' ∧ [1, 2, 6, 7, 8, 9].map T1.get = [some (.slice a ns.length c), some (i64 acc), some (pt r6 0), some (pt p 0), some (i64 N), some (i64 (IntKind.wrap .i64 ((((i : Nat) : Int)) + (1 : Int))))] ∧
      MkD M0 M' p r6 k6 N ns acc (i + 1) := by
  obtain ⟨S, F, bs, bf, gp, hS, hF, hd⟩ := h.at_
  have ha : ((modI (acc.fdiv (2 ^ (IntKind.wrap .u64 (((i : Nat) : Int))).toNat)) 2) == (1 : Int)) = accI acc i := by
    rw [u64_small (by omega)]; rfl
  rcases hS with ⟨hS0, rfl⟩ | ⟨rfl, s2, s3, s4, s5, s7⟩ <;> rcases hF with ⟨hF0, rfl⟩ | ⟨rfl, f2, f3, f4, f5, f7⟩
  · obtain ⟨T1, M', b1, b2, e1, e2, e3, e4, e5, e6, ⟨e7, e8, e9, e10⟩, ⟨u7, u8, u9, u10⟩, e11⟩ := r14n p r6 i a c ns N acc k6 h.ok hs h.ext h.np hN (by omega) gp h.g6 h.d6 (decide_eq_true hi)
    subst hS0
    refine ⟨T1, M', e1, e2, e3, e4, h.np, h.d6, e6, _, _, b1, b2, e5, .inr ⟨rfl, Nat.one_pos, e7, e8, e9, ?_⟩, .inr ⟨rfl, Nat.one_pos, u7, u8, u9, ?_⟩, fun _ => e11⟩
    · rw [e10]; rfl
    · rw [u10, ha]; rfl
  · omega
  · omega
  · obtain ⟨T1, M', b1, b2, e1, e2, e3, e4, e5, e6, ⟨e7, e8, e9, e10⟩, ⟨u7, u8, u9, u10⟩, e11⟩ := r14s p r6 i a c ns N acc k6 bs bf _ _ h.ok hs h.ext h.np hN (by omega) gp h.g6 h.d6 s3 s7 s4 s5 (by rw [irows_flen (rowsI_wide N ns acc i), rowsI_len]) f3 f7 f4 f5 (by rw [brows_flen, accsI_len]) (hd s2) (decide_eq_true hi)
    refine ⟨T1, M', e1, e2, e3, e4, h.np, h.d6, e6, _, _, b1, b2, e5, .inr ⟨rfl, Nat.succ_pos _, e7, e8, e9, ?_⟩, .inr ⟨rfl, Nat.succ_pos _, u7, u8, u9, ?_⟩, fun _ => e11⟩
    · rw [e10, rowsI_succ, irows_app]; rfl
    · rw [u10, ha, accsI_succ, brows_app]
theorem loop14 {M0 : Mem} {a : Option Addr} {c : Nat} {ns : List Int} {N acc : Int} {p r6 : Nat} {k6 : ABlk} (hN : 1 ≤ N ∧ N ≤ 9) (hs : FlatAt 1 M0 (.slice a ns.length c) (ns.map ([·]))) : ∀ (k i : Nat), i + k = N.toNat → ∀ {M : Mem}, MkD M0 M p r6 k6 N ns acc i →
    ∃ M', LoopR Tryd.prog [] (q14.loopAt 0) Tryd.f14.ntmps (fr [(1, (.slice a ns.length c)), (2, (i64 acc)), (6, (pt r6 0)), (7, (pt p 0)), (8, (i64 N)), (9, (i64 (((i : Nat) : Int))))]) M (.exit 0) (fr [(6, pt r6 0), (7, pt p 0)]) M' ∧ MkD M0 M' p r6 k6 N ns acc N.toNat := by
  intro k
  induction k with
  | zero =>
    intro i hi M h
    obtain ⟨T1, h1, h2⟩ := r14x p r6 i a ns.length c N acc (M := M) (decide_eq_false (by omega))
    have : i = N.toNat := by omega
    subst this
    exact ⟨M, LoopR.stop h1 (by simp) (TSub.fr (l := [(6, pt r6 0), (7, pt p 0)]) h2), h⟩
  | succ k ih =>
    intro i hi M h
    obtain ⟨T1, M1, e1, e2, e3⟩ := mk_step hs h hN (by omega)
    rw [wrap_succ (by omega)] at e2
    obtain ⟨M2, f1, f2⟩ := ih (i + 1) (by omega) e3
    exact ⟨M2, LoopR.step e1 (TSub.fr (l := [(1, (.slice a ns.length c)), (2, (i64 acc)), (6, (pt r6 0)), (7, (pt p 0)), (8, (i64 N)), (9, i64 ((i + 1 : Nat) : Int))]) e2) f1, f2⟩
end Go.Proofs.YtepgijgmnijdpaaDoor

open Go Go.Am Go.Proofs
namespace Go.Proofs.YtepgijgmnijdpaaDoor
set_option maxRecDepth 100000
theorem dA25 : (Tryd.prog.underlying 25).map isAggD = some true := by kernel_rfl
theorem dS25 : (Tryd.prog.info? 25).map (·.size) = some 2 := by kernel_rfl
theorem wr_small {j : Int} (h0 : 0 ≤ j) (h1 : j < 1000) : IntKind.wrap .i64 j = j := Go.Am.wrap_small h0 (by omega)
abbrev nOf (x : Int) : Int := IntKind.wrap .i64 ((1 : Int) + (modI x 9))
theorem nOf_range (x : Int) : 1 ≤ nOf x ∧ nOf x ≤ 9 := by
  have h := modI_range (x := x) (n := 9) (by decide)
  have h2 : nOf x = 1 + modI x 9 := by
    show IntKind.wrap .i64 (1 + modI x 9) = _
    exact wr_small (by omega) (by omega)
  omega
def nN (x : Int) : Nat := (nOf x).toNat
def NewB (M M' : Mem) (b el w : Nat) (cs : List Value) : Prop := M.next ≤ b ∧ M'.get b = some ⟨cs, el, w, 0, true⟩
def MkR (x : Int) (ns : List Int) (y : Int) (M : Mem) (v : Value) (M' : Mem) : Prop := ∃ bs bf, v = .agg ⟨[sli bs 0 (nN x) (nN x), sli bf 0 (nN x) (nN x)]⟩ ∧ NewB M M' bs 31 5 (irows (rowsI (nOf x) ns y (nN x))).flatten ∧ NewB M M' bf 4 1 (brows (accsI y (nN x))).flatten ∧ bs ≠ bf
def Qmk : List Value → Mem → Value → Mem → Prop := fun args M v M' => ∃ (x : Int) (L : Value) (ns : List Int) (y : Int), args = [i64 x, L, i64 y] ∧ FlatAt 1 M L (ns.map ([·])) ∧ MkR x ns y M v M'
theorem rK14 : Tryd.f14.results = #[.cell 6 25] := by kernel_rfl
theorem w14_raw (x : Int) (a : Option Addr) (c : Nat) (ns : List Int) (y : Int) (M : Mem) (b1 : Nat) (M2 : Mem) (b9 : Nat) (M10 : Mem) (M20 : Mem) (M31 : Mem) (q34s : Nat) (q34f : Nat) (M35 : Mem) : oT Tryd.prog [0] 60 Tryd.f14 q14 [i64 x, (.slice a ns.length c), i64 y] M [ttV 1 (pt b1 0) M2, ttV 3 (pt b9 0) M10, ttV 7 (i64 (modI x 9)) M20, .blk 14 [1, 2, 6, 7, 8, 9] .normal (fr [(6, (pt b1 0)), (7, (pt b9 0))]) M31, ttL 16 (.agg ⟨[(sli q34s 0 (nN x) (nN x)), (sli q34f 0 (nN x) (nN x))]⟩), ttS 18 M35] 6 = some (.ret, some (pt b1 0), M35, [.eq (aalloc Tryd.prog 25 M) (1, .val (pt b1 0), M2), .eq (aalloc Tryd.prog 25 M2) (1, .val (pt b9 0), M10), qC 17 [(i64 x), (i64 9)] M10 (i64 (modI x 9)) M20, .blk 0 (.loop (q14.loopAt 0)) Tryd.f14.ntmps [1, 2, 6, 7, 8, 9] [some (.slice a ns.length c), some (i64 y), some (pt b1 0), some (pt b9 0), some (i64 (IntKind.wrap .i64 ((1 : Int) + (modI x 9)))), some (i64 0)] M20 .normal (fr [(6, (pt b1 0)), (7, (pt b9 0))]) M31, qL 25 b9 0 M31 (.agg ⟨[(sli q34s 0 (nN x) (nN x)), (sli q34f 0 (nN x) (nN x))]⟩), qS 25 b1 0 (.agg ⟨[(sli q34s 0 (nN x) (nN x)), (sli q34f 0 (nN x) (nN x))]⟩) M31 M35]) := by kernel_rfl
theorem con14 (x : Int) (a : Option Addr) (c : Nat) (ns : List Int) (y : Int) {M : Mem} (hM : MemOk M) (hs : FlatAt 1 M (.slice a ns.length c) (ns.map ([·]))) : ∃ v M', Con Tryd.prog [] 14 Qmk [i64 x, (.slice a ns.length c), i64 y] M v M' := by
  have hN : 1 ≤ IntKind.wrap .i64 ((1 : Int) + (modI x 9)) ∧ IntKind.wrap .i64 ((1 : Int) + (modI x 9)) ≤ 9 := nOf_range x
  obtain ⟨b1, M2, eb3, em4, g5, E6, hM7⟩ := new_t hM ⟨[sln, sln], 25, 2, 0, true⟩
  have nb1 : M.next ≤ b1 := by rw [← eb3]; exact (Ext.refl M).next
  have X8 := (Ext.refl M).trans E6
  obtain ⟨b9, M10, eb11, em12, g13, E14, hM15⟩ := new_t hM7 ⟨[sln, sln], 25, 2, 0, true⟩
  have nb9 : M.next ≤ b9 := by rw [← eb11]; exact X8.next
  have db1b9 : b1 ≠ b9 := by have := Mem.lt_of_get g5; omega
  have g16 := E14.old g5
  have X17 := X8.trans E14
  obtain ⟨w18, N19, M20, p21, l22, e23, E24, hM25, Q26, G27⟩ := call_t (P := Tryd.prog) (GL := []) (f := 17) hM15 (con17 x 9 (by decide))
  have g28 := E24.old g16
  have g29 := E24.old g13
  have ew18 : w18 = (i64 (modI x 9)) := (Option.some.inj Q26.1).symm
  subst ew18
  have nxM20 : M20.next = M10.next := by rw [← e23]; exact Q26.2
  have X30 := X17.trans E24
  have hstq34 : MkD M M20 b9 b1 ⟨[sln, sln], 25, 2, 0, true⟩ (nOf x) ns y 0 := ⟨X30, hM25, nb9, Ne.symm db1b9, g28, _, _, 0, 0, g29, .inl ⟨rfl, rfl⟩, .inl ⟨rfl, rfl⟩, fun z => absurd z (Nat.lt_irrefl 0)⟩
  obtain ⟨M31, hL32, hS33⟩ := loop14 (nOf_range x) hs (nN x) 0 (by unfold nN; omega) hstq34
  obtain ⟨q34S, q34F, q34s, q34f, q34gp, q34rS, q34rF, q34d⟩ := hS33.at_
  have q34n : 0 < nN x := by have := nOf_range x; unfold nN; omega
  rcases q34rS with ⟨q340, _⟩ | ⟨rfl, _, q34s3, q34s4, q34s5, q34s6⟩
  · exact absurd q340 (by show nN x ≠ 0; omega)
  rcases q34rF with ⟨q340, _⟩ | ⟨rfl, _, q34f3, q34f4, q34f5, q34f6⟩
  · exact absurd q340 (by show nN x ≠ 0; omega)
  have h6q34 := hS33.g6
  obtain ⟨M35, q36, g37, kp38, X39, hM40, nx41⟩ := store_t (o := 0) (v := (.agg ⟨[(sli q34s 0 (nN x) (nN x)), (sli q34f 0 (nN x) (nN x))]⟩)) (new := [(sli q34s 0 (nN x) (nN x)), (sli q34f 0 (nN x) (nN x))]) hS33.ext nb1 hS33.ok dS25 h6q34 rfl rfl (Nat.zero_le _) (Nat.le_of_ble_eq_true rfl) rfl
  replace g37 : M35.get b1 = some ⟨[(sli q34s 0 (nN x) (nN x)), (sli q34f 0 (nN x) (nN x))], 25, 2, 0, true⟩ := g37
  have g42 := (kp38 _ (Ne.symm db1b9)).trans q34gp
  have hraw := w14_raw x a c ns y M b1 M2 b9 M10 M20 M31 q34s q34f M35
  have hres := aload_agg (a := ⟨b1, 0, none⟩) dA25 dS25 g37 rfl
  exact ⟨_, _, Ev.told_cell noNumP mixedP Tryd.func14 q14_ok (by kernel_rfl) rK14 (fun B => specsB_ok (hS14_17 B) (k := [(0, bone (.loop (q14.loopAt 0)) Tryd.f14.ntmps [1, 2, 6, 7, 8, 9] [some (.slice a ns.length c), some (i64 y), some (pt b1 0), some (pt b9 0), some (i64 (IntKind.wrap .i64 ((1 : Int) + (modI x 9)))), some (i64 0)] M20 .normal (fr [(6, (pt b1 0)), (7, (pt b9 0))]) M31)]) (fun p hp => by simp only [List.mem_cons, List.not_mem_nil, or_false] at hp; rcases hp with rfl <;> first | exact BlkOk.loop noNumP mixedP hL32)) (fun _ h => blksF_one h) hraw hres (hk (q_eq (by rw [← eb3, ← em4]; kernel_rfl) Nat.one_ne_zero) (hk (q_eq (by rw [← eb11, ← em12]; kernel_rfl) Nat.one_ne_zero) (hk (q_call rfl p21 l22 e23) (hk (q_blk rfl) (hk (lA ⟨dA25, dS25⟩ q34gp rfl) (hk (q_st q36) hn)))))), X39, x, _, ns, y, rfl, hs, q34s, q34f, rfl, ⟨q34s3, (kp38 _ (Ne.symm q34s5)).trans q34s6⟩, ⟨q34f3, (kp38 _ (Ne.symm q34f5)).trans q34f6⟩, q34d q34n⟩
theorem one_inj : ∀ {l1 l2 : List Int}, l1.map ([·]) = l2.map ([·]) → l1 = l2
  | [], [], _ => rfl
  | [], _ :: _, h => by simp at h
  | _ :: _, [], h => by simp at h
  | a :: l1, b :: l2, h => by
    simp only [List.map_cons, List.cons.injEq, and_true] at h
    rw [h.1, one_inj h.2]
theorem Qmk.val {x y : Int} {L v : Value} {ns : List Int} {M M' : Mem} (hs : FlatAt 1 M L (ns.map ([·]))) (hq : Qmk [i64 x, L, i64 y] M v M') : MkR x ns y M v M' := by
  obtain ⟨x', L', ns', y', h1, h2, h3⟩ := hq
  simp only [List.cons.injEq, and_true] at h1
  obtain ⟨e1, rfl, e2⟩ := h1
  have e1 : x = x' := by simpa [i64] using e1
  have e2 : y = y' := by simpa [i64] using e2
  have e4 := one_inj (hs.unique h2)
  subst e1 e2 e4
  exact h3
theorem nN_le (x : Int) : 1 ≤ nN x ∧ nN x ≤ 9 := by have := nOf_range x; unfold nN; omega
theorem mkAt {x y : Int} {ns : List Int} {M' : Mem} {bs bf : Nat} {cs cf : List Value} {w1 w2 : Nat} {q1 q2 : Bool} (h1 : M'.get bs = some ⟨cs, 31, 5, w1, q1⟩) (e1 : cs = (irows (rowsI (nOf x) ns y (nN x))).flatten) (h2 : M'.get bf = some ⟨cf, 4, 1, w2, q2⟩) (e2 : cf = (brows (accsI y (nN x))).flatten) :
    DfaAt M' (.agg ⟨[sli bs 0 (nN x) (nN x), sli bf 0 (nN x) (nN x)]⟩) (rowsI (nOf x) ns y (nN x)) (accsI y (nN x)) := by
  have hn := nN_le x
  refine ⟨_, _, rfl, ⟨?_, rowsI_wide _ _ _ _, by rw [rowsI_len]; omega⟩, ⟨?_, fun _ _ => rfl, by rw [accsI_len]; omega⟩⟩
  · rw [rowsI_len]
    exact .inr ⟨bs, 0, nN x, _, [], [], rfl, h1, by simp [e1], rfl, fun r hr => irows_wide (rowsI_wide _ _ _ _) r hr⟩
  · rw [accsI_len]
    exact .inr ⟨bf, 0, nN x, _, [], [], rfl, h2, by simp [e2, brows], rfl, fun r hr => by obtain ⟨b, _, rfl⟩ := List.mem_map.1 hr; rfl⟩
theorem cellI_range {N acc : Int} (ns : List Int) (hN : 1 ≤ N) (i j : Nat) : 0 ≤ cellI N ns acc i j ∧ cellI N ns acc i j < N := by
  unfold cellI
  split
  · exact modI_range (by omega)
  · exact modI_range (by omega)
theorem rowI_good (N : Int) (ns : List Int) (acc : Int) (i : Nat) (hN : 1 ≤ N) : badR N (rowI N ns acc i) = false := by
  have h0 := cellI_range (acc := acc) ns hN i 0
  have h1 := cellI_range (acc := acc) ns hN i 1
  have h2 := cellI_range (acc := acc) ns hN i 2
  have h3 := cellI_range (acc := acc) ns hN i 3
  have h4 := cellI_range (acc := acc) ns hN i 4
  simp [badR, rowI, noneB]
  omega
theorem mk_right (x y : Int) (ns : List Int) : chkB (rowsI (nOf x) ns y (nN x)) (accsI y (nN x)) = true := by
  have hn := nN_le x
  have hr := nOf_range x
  have e : ((nN x : Nat) : Int) = nOf x := by unfold nN; omega
  have a1 : (rowsI (nOf x) ns y (nN x)).any (badR ((nN x : Nat) : Int)) = false := by
    rw [List.any_eq_false]
    intro r hr'
    obtain ⟨k, _, rfl⟩ := List.mem_map.1 hr'
    rw [e, rowI_good _ _ _ _ hr.1]
    simp
  simp only [chkB, rowsI_len, accsI_len, a1]
  simp
  omega
end Go.Proofs.YtepgijgmnijdpaaDoor

open Go Go.Am Go.Proofs
namespace Go.Proofs.YtepgijgmnijdpaaDoor
set_option maxRecDepth 100000
end Go.Proofs.YtepgijgmnijdpaaDoor

open Go Go.Am Go.Proofs
namespace Go.Proofs.YtepgijgmnijdpaaDoor
set_option maxRecDepth 100000
theorem BlkOk.gl {P : Program} {GL : List Nat} {B : Bd} {id : Nat} {g : Code → St → Option (AExit × St)} (h : BlkOk P [] B id g) : BlkOk P GL B id g :=
  ⟨h.abs, fun b s e s' hg φ a w Q hR hG hT hk => h.run b s e s' hg φ a w Q hR.noGl hG hT fun L φ' a' w' h1 h2 h3 h4 => hk L φ' a' w' h1 (h2.gl hR) h3 h4⟩
theorem Con.gl {P : Program} {GL : List Nat} {f : FuncId} {Q : List Value → Mem → Value → Mem → Prop} {args : List Value} {M : Mem} (h : ∃ v M', Con P [] f Q args M v M') : ∃ v M', Con P GL f Q args M v M' := by
  obtain ⟨v, M', h1, h2⟩ := h
  exact ⟨v, M', h1.gl, h2⟩
noncomputable abbrev oTg (P : Program) (GL : List Nat) (tb : List Nat) (n : Nat) (fn : Func) (q : QC) (args : List Value) (M : Mem) (F : List OF) (k : Nat) := (oexec P GL tb n fn.ntmps q (initT args 0 .nil) M F 0).map (fun r => (r.1.1, r.1.2.1.get k, r.1.2.2, r.2.2.2))
theorem dfaAt_of {M' : Mem} {bs bf n m w1 w2 : Nat} {q1 q2 : Bool} {cs cf : List Value} {rows : List (List Int)} {accs : List Bool} (h1 : M'.get bs = some ⟨cs, 31, 5, w1, q1⟩) (e1 : cs = (irows rows).flatten) (hw : ∀ r ∈ rows, r.length = 5) (hl : rows.length = n)
    (h2 : M'.get bf = some ⟨cf, 4, 1, w2, q2⟩) (e2 : cf = (brows accs).flatten) (hm : accs.length = m) (hn9 : n ≤ 100) (hm9 : m ≤ 100) : DfaAt M' (.agg ⟨[sli bs 0 n n, sli bf 0 m m]⟩) rows accs := by
  subst hl hm
  refine ⟨_, _, rfl, ⟨?_, hw, by omega⟩, ⟨?_, fun _ _ => rfl, by omega⟩⟩
  · exact .inr ⟨bs, 0, rows.length, _, [], [], rfl, h1, by simp [e1], rfl, fun r hr => irows_wide hw r hr⟩
  · exact .inr ⟨bf, 0, accs.length, _, [], [], rfl, h2, by simp [e2, brows], rfl, fun r hr => by obtain ⟨b, _, rfl⟩ := List.mem_map.1 hr; rfl⟩
end Go.Proofs.YtepgijgmnijdpaaDoor

open Go Go.Am Go.Proofs
namespace Go.Proofs.YtepgijgmnijdpaaDoor
set_option maxRecDepth 100000
def g12 : List Value → Option Value
  | [] => some (.bool true)
  | _ => none
theorem con12c {e : TypeId} {M : Mem} (hT : M.get 0 = some (tabB e)) : ∃ v M', Con Tryd.prog [0] 12 (Fl g12) [] M v M' := ⟨.bool true, M, con12 hT, Ext.refl M, rfl⟩
end Go.Proofs.YtepgijgmnijdpaaDoor
