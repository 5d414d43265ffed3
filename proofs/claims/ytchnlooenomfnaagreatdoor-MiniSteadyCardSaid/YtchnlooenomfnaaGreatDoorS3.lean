/-
  What is proved: MiniSteady: a machine of Make's is steady just if a letter twice is a letter once: for every x, y, every word. For every argument; one laid table (math/bits) is tied by the card.
-/
import Derived.Test.YtchnlooenomfnaaGreatDoorS2
set_option linter.unusedVariables false
set_option linter.unusedSimpArgs false
open Go Go.Am Go.Proofs
namespace Go.Proofs.YtchnlooenomfnaaGreatDoor
set_option maxRecDepth 100000
theorem u64_small {i : Nat} (hi : i < 1000) : IntKind.wrap .u64 ((i : Nat) : Int) = ((i : Nat) : Int) := by
  show ((i : Nat) : Int) % (2 ^ 64) = _
  exact Int.emod_eq_of_lt (by omega) (by omega)
def accI (acc : Int) (i : Nat) : Bool := (modI (acc.fdiv (2 ^ i)) 2) == (1 : Int)
def rowI (N : Int) (ns : List Int) (acc : Int) (i : Nat) : List Int := [cellI N ns acc i 0, cellI N ns acc i 1, cellI N ns acc i 2, cellI N ns acc i 3, cellI N ns acc i 4]
theorem r14n_raw (p r6 i : Nat) (a : Option Addr) (c : Nat) (ns : List Int) (N acc : Int) (k6 : ABlk) (M : Mem) (b1 : Nat) (M2 : Mem) (M11 : Mem) (b19 : Nat) (M20 : Mem) (b30 : Nat) (M31 : Mem) (M42 : Mem) (M55 : Mem) (b69 : Nat) (M70 : Mem) (b82 : Nat) (M83 : Mem) (M96 : Mem) : oR Tryz.prog [2] 60 Tryz.f16 (q16.loopAt 0) [(1, (.slice a ns.length c)), (2, (i64 acc)), (6, (pt r6 0)), (7, (pt p 0)), (8, (i64 N)), (9, (i64 (((i : Nat) : Int))))] M [ttT 6, ttV 8 (pt b1 0) M2, .blk 11 [1, 2, 6, 7, 8, 9, 10, 11] .normal (fr [(1, (.slice a ns.length c)), (2, (i64 acc)), (6, (pt r6 0)), (7, (pt p 0)), (8, (i64 N)), (9, (i64 (((i : Nat) : Int)))), (10, (pt b1 0))]) M11, ttL 15 sln, ttL 17 (.agg ⟨[(i64 (cellI N ns acc i 0)), (i64 (cellI N ns acc i 1)), (i64 (cellI N ns acc i 2)), (i64 (cellI N ns acc i 3)), (i64 (cellI N ns acc i 4))]⟩), ttV 19 (sli b19 0 1 2) M20, .at 21 (1, .val (sli b30 0 1 1), M31), ttS 25 M42, ttL 29 sln, ttT 37, ttV 39 (i64 (modI (acc.fdiv (2 ^ (IntKind.wrap .u64 (((i : Nat) : Int))).toNat)) 2)) M55, ttV 43 (sli b69 0 1 2) M70, .at 45 (1, .val (sli b82 0 1 1), M83), ttS 49 M96] [1, 2, 6, 7, 8, 9] = some (.normal, [some (.slice a ns.length c), some (i64 acc), some (pt r6 0), some (pt p 0), some (i64 N), some (i64 (IntKind.wrap .i64 ((((i : Nat) : Int)) + (1 : Int))))], (Mem.mk M96.blks M96.next M42.hide M96.log), [qT (decide ((((i : Nat) : Int)) < N)), .eq (aalloc Tryz.prog 62 M) (1, .val (pt b1 0), M2), .blk 2 (.loop (q16.loopAt 2)) Tryz.f16.ntmps [1, 2, 6, 7, 8, 9, 10, 11] [some (.slice a ns.length c), some (i64 acc), some (pt r6 0), some (pt p 0), some (i64 N), some (i64 (((i : Nat) : Int))), some (pt b1 0), some (i64 0)] M2 .normal (fr [(1, (.slice a ns.length c)), (2, (i64 acc)), (6, (pt r6 0)), (7, (pt p 0)), (8, (i64 N)), (9, (i64 (((i : Nat) : Int)))), (10, (pt b1 0))]) M11, qL 24 p 0 M11 sln, qL 62 b1 0 M11 (.agg ⟨[(i64 (cellI N ns acc i 0)), (i64 (cellI N ns acc i 1)), (i64 (cellI N ns acc i 2)), (i64 (cellI N ns acc i 3)), (i64 (cellI N ns acc i 4))]⟩), .eq (abuildSlice Tryz.prog 24 1 [(0, (.agg ⟨[(i64 (cellI N ns acc i 0)), (i64 (cellI N ns acc i 1)), (i64 (cellI N ns acc i 2)), (i64 (cellI N ns acc i 3)), (i64 (cellI N ns acc i 4))]⟩))] M11) (1, .val (sli b19 0 1 2), M20), .q (.append [24, 24] sln (sli b19 0 1 2) M20) (1, .val (sli b30 0 1 1), M31), qS 24 p 0 (sli b30 0 1 1) M31 M42, qL 25 p 1 M42 sln, .q (.inb (IntKind.wrap .u64 (((i : Nat) : Int))) 64) (ansB true), qC 40 [(i64 (acc.fdiv (2 ^ (IntKind.wrap .u64 (((i : Nat) : Int))).toNat))), (i64 2)] (Mem.mk M42.blks M42.next (hides 60 [⟨5, 0, M42.next, M42.next⟩, ⟨4, 0, M42.next, M42.next⟩, ⟨3, 0, M42.next, M42.next⟩, ⟨2, 0, M42.next, M42.next⟩, ⟨1, 1, M42.next, M42.next⟩, ⟨0, 0, M42.next, M42.next⟩] ++ M42.hide) M42.log) (i64 (modI (acc.fdiv (2 ^ (IntKind.wrap .u64 (((i : Nat) : Int))).toNat)) 2)) M55, .eq (abuildSlice Tryz.prog 25 1 [(0, (.bool ((modI (acc.fdiv (2 ^ (IntKind.wrap .u64 (((i : Nat) : Int))).toNat)) 2) == (1 : Int))))] (Mem.mk M55.blks M55.next (hides 252 [⟨7, 0, M55.next, M55.next⟩, ⟨6, 1, M42.next, M55.next⟩, ⟨5, 0, M42.next, M42.next⟩, ⟨4, 0, M42.next, M42.next⟩, ⟨3, 0, M42.next, M42.next⟩, ⟨2, 0, M42.next, M42.next⟩, ⟨1, 1, M42.next, M42.next⟩, ⟨0, 0, M42.next, M42.next⟩] ++ M42.hide) M55.log)) (1, .val (sli b69 0 1 2), M70), .q (.append [25, 25] sln (sli b69 0 1 2) (Mem.mk M70.blks M70.next M42.hide M70.log)) (1, .val (sli b82 0 1 1), M83), qS 25 p 1 (sli b82 0 1 1) (Mem.mk M83.blks M83.next M42.hide M83.log) M96]) := by kernel_rfl
theorem r14n (p r6 i : Nat) (a : Option Addr) (c : Nat) (ns : List Int) (N acc : Int) (k6 : ABlk) {M : Mem} (hM : MemOk M) {M0 : Mem} (hs : FlatAt 1 M0 (.slice a ns.length c) (ns.map ([·]))) (X0 : Ext M0 M) (np : M0.next ≤ p) (hN : 1 ≤ N ∧ N ≤ 9) (hi : i < 9) (gp : M.get p = some ⟨[sln, sln], 27, 2, 0, true⟩) (g6 : M.get r6 = some k6) (dpr6 : p ≠ r6) (cc0 : (decide ((((i : Nat) : Int)) < N)) = true) : ∃ T1 M' b1 b2, Rd Tryz.prog [] (q16.loopAt 0) Tryz.f16.ntmps (fr [(1, (.slice a ns.length c)), (2, (i64 acc)), (6, (pt r6 0)), (7, (pt p 0)), (8, (i64 N)), (9, (i64 (((i : Nat) : Int))))]) M .normal T1 M' ∧ [1, 2, 6, 7, 8, 9].map T1.get = [some (.slice a ns.length c), some (i64 acc), some (pt r6 0), some (pt p 0), some (i64 N), some (i64 (IntKind.wrap .i64 ((((i : Nat) : Int)) + (1 : Int))))] ∧ Ext M0 M' ∧ MemOk M' ∧ M'.get p = some ⟨[(sli b1 0 1 1), (sli b2 0 1 1)], 27, 2, 0, true⟩ ∧ M'.get r6 = some k6 ∧ (M0.next ≤ b1 ∧ p ≠ b1 ∧ r6 ≠ b1 ∧ M'.get b1 = some ⟨[(i64 (cellI N ns acc i 0)), (i64 (cellI N ns acc i 1)), (i64 (cellI N ns acc i 2)), (i64 (cellI N ns acc i 3)), (i64 (cellI N ns acc i 4))], 62, 5, 0, true⟩) ∧ (M0.next ≤ b2 ∧ p ≠ b2 ∧ r6 ≠ b2 ∧ M'.get b2 = some ⟨[(.bool ((modI (acc.fdiv (2 ^ (IntKind.wrap .u64 (((i : Nat) : Int))).toNat)) 2) == (1 : Int)))], 4, 1, 0, true⟩) ∧ b1 ≠ b2 := by
  obtain ⟨b1, M2, eb3, em4, g5, E6, hM7⟩ := new_t hM ⟨[(i64 0), (i64 0), (i64 0), (i64 0), (i64 0)], 62, 1, 0, true⟩
  have nb1 : M0.next ≤ b1 := by rw [← eb3]; exact X0.next
  have dpb1 : p ≠ b1 := by have := Mem.lt_of_get gp; omega
  have dr6b1 : r6 ≠ b1 := by have := Mem.lt_of_get g6; omega
  have g8 := E6.old gp
  have g9 := E6.old g6
  have X10 := X0.trans E6
  obtain ⟨M11, hL12, E13, hM14, g15, kp16⟩ := inner14 r6 p b1 i a c ns N acc 0 0 0 0 0 hM7 hs X10 nb1 hN (by omega) g5
  have g17 := kp16 _ _ g8 (by first | exact dpb1 | exact Ne.symm db1p)
  have g18 := kp16 _ _ g9 (by first | exact dr6b1 | exact Ne.symm db1r6)
  obtain ⟨b19, M20, eb21, em22, g23, E24, hM25⟩ := new_t hM14 ⟨[(i64 (cellI N ns acc i 0)), (i64 (cellI N ns acc i 1)), (i64 (cellI N ns acc i 2)), (i64 (cellI N ns acc i 3)), (i64 (cellI N ns acc i 4))], 62, 5, 0, true⟩
  have nb19 : M0.next ≤ b19 := by rw [← eb21]; exact E13.next
  have dpb19 : p ≠ b19 := by have := Mem.lt_of_get g17; omega
  have dr6b19 : r6 ≠ b19 := by have := Mem.lt_of_get g18; omega
  have db1b19 : b1 ≠ b19 := by have := Mem.lt_of_get g15; omega
  have g26 := E24.old g17
  have g27 := E24.old g18
  have g28 := E24.old g15
  have X29 := E13.trans E24
  obtain ⟨b30, M31, eb32, em33, g34, E36, hM35⟩ := new_t hM25 ⟨[(i64 (cellI N ns acc i 0)), (i64 (cellI N ns acc i 1)), (i64 (cellI N ns acc i 2)), (i64 (cellI N ns acc i 3)), (i64 (cellI N ns acc i 4))], 62, 5, 0, true⟩
  have nb30 : M0.next ≤ b30 := by rw [← eb32]; exact X29.next
  have dpb30 : p ≠ b30 := by have := Mem.lt_of_get g26; omega
  have dr6b30 : r6 ≠ b30 := by have := Mem.lt_of_get g27; omega
  have db1b30 : b1 ≠ b30 := by have := Mem.lt_of_get g28; omega
  have db19b30 : b19 ≠ b30 := by have := Mem.lt_of_get g23; omega
  have g37 := E36.old g26
  have g38 := E36.old g27
  have g39 := E36.old g28
  have g40 := E36.old g23
  have X41 := X29.trans E36
  obtain ⟨M42, q43, g44, kp45, X46, hM47, nx48⟩ := store_t (o := 0) (v := (sli b30 0 1 1)) (new := [(sli b30 0 1 1), sln]) X41 np hM35 dS24 g37 rfl rfl (Nat.zero_le _) (Nat.le_of_ble_eq_true rfl) rfl
  replace g44 : M42.get p = some ⟨[(sli b30 0 1 1), sln], 27, 2, 0, true⟩ := g44
  have g49 := (kp45 _ (Ne.symm dpr6)).trans g38
  have g50 := (kp45 _ (Ne.symm dpb1)).trans g39
  have g51 := (kp45 _ (Ne.symm dpb19)).trans g40
  have g52 := (kp45 _ (Ne.symm dpb30)).trans g34
  obtain ⟨w53, N54, M55, p56, l57, e58, E59, hM60, Q61, G62⟩ := call_t (P := Tryz.prog) (GL := []) (f := 40) hM47 (con40 (acc.fdiv (2 ^ (IntKind.wrap .u64 (((i : Nat) : Int))).toNat)) 2 (by decide))
  have g63 := E59.old g44
  have g64 := E59.old g49
  have g65 := E59.old g50
  have g66 := E59.old g51
  have g67 := E59.old g52
  have ew53 : w53 = (i64 (modI (acc.fdiv (2 ^ (IntKind.wrap .u64 (((i : Nat) : Int))).toNat)) 2)) := (Option.some.inj Q61.1).symm
  subst ew53
  have nxM55 : M55.next = M42.next := by rw [← e58]; exact Q61.2
  have X68 := X46.trans E59
  obtain ⟨b69, M70, eb71, em72, g73, E74, hM75⟩ := new_t hM60 ⟨[(.bool ((modI (acc.fdiv (2 ^ (IntKind.wrap .u64 (((i : Nat) : Int))).toNat)) 2) == (1 : Int)))], 4, 1, 0, true⟩
  have nb69 : M0.next ≤ b69 := by rw [← eb71]; exact X68.next
  have dpb69 : p ≠ b69 := by have := Mem.lt_of_get g63; omega
  have dr6b69 : r6 ≠ b69 := by have := Mem.lt_of_get g64; omega
  have db1b69 : b1 ≠ b69 := by have := Mem.lt_of_get g65; omega
  have db19b69 : b19 ≠ b69 := by have := Mem.lt_of_get g66; omega
  have db30b69 : b30 ≠ b69 := by have := Mem.lt_of_get g67; omega
  have g76 := E74.old g63
  have g77 := E74.old g64
  have g78 := E74.old g65
  have g79 := E74.old g66
  have g80 := E74.old g67
  have X81 := X68.trans E74
  obtain ⟨b82, M83, eb84, em85, g86, E88, hM87⟩ := new_t hM75 ⟨[(.bool ((modI (acc.fdiv (2 ^ (IntKind.wrap .u64 (((i : Nat) : Int))).toNat)) 2) == (1 : Int)))], 4, 1, 0, true⟩
  have nb82 : M0.next ≤ b82 := by rw [← eb84]; exact X81.next
  have dpb82 : p ≠ b82 := by have := Mem.lt_of_get g76; omega
  have dr6b82 : r6 ≠ b82 := by have := Mem.lt_of_get g77; omega
  have db1b82 : b1 ≠ b82 := by have := Mem.lt_of_get g78; omega
  have db19b82 : b19 ≠ b82 := by have := Mem.lt_of_get g79; omega
  have db30b82 : b30 ≠ b82 := by have := Mem.lt_of_get g80; omega
  have db69b82 : b69 ≠ b82 := by have := Mem.lt_of_get g73; omega
  have g89 := E88.old g76
  have g90 := E88.old g77
  have g91 := E88.old g78
  have g92 := E88.old g79
  have g93 := E88.old g80
  have g94 := E88.old g73
  have X95 := X81.trans E88
  obtain ⟨M96, q97, g98, kp99, X100, hM101, nx102⟩ := store_t (o := 1) (v := (sli b82 0 1 1)) (new := [(sli b30 0 1 1), (sli b82 0 1 1)]) X95 np hM87 dS25 g89 rfl rfl (Nat.zero_le _) (Nat.le_of_ble_eq_true rfl) rfl
  replace g98 : M96.get p = some ⟨[(sli b30 0 1 1), (sli b82 0 1 1)], 27, 2, 0, true⟩ := g98
  have g103 := (kp99 _ (Ne.symm dpr6)).trans g90
  have g104 := (kp99 _ (Ne.symm dpb1)).trans g91
  have g105 := (kp99 _ (Ne.symm dpb19)).trans g92
  have g106 := (kp99 _ (Ne.symm dpb30)).trans g93
  have g107 := (kp99 _ (Ne.symm dpb69)).trans g94
  have g108 := (kp99 _ (Ne.symm dpb82)).trans g86
  have hraw := r14n_raw p r6 i a c ns N acc k6 M b1 M2 M11 b19 M20 b30 M31 M42 M55 b69 M70 b82 M83 M96
  have rw0 : Mem.mk M42.blks M42.next (hides 0 [⟨1, 1, M42.next, M42.next⟩, ⟨0, 0, M42.next, M42.next⟩] ++ M42.hide) M42.log = M42 := by rw [show hides 0 [⟨1, 1, M42.next, M42.next⟩, ⟨0, 0, M42.next, M42.next⟩] = [] from by simp [hides, Nat.beq_refl, nxM55, show Nat.beq 1 0 = false from rfl, show Nat.beq 2 0 = false from rfl]]; rfl
  have rw1 : Mem.mk M42.blks M42.next (hides 0 [⟨2, 0, M42.next, M42.next⟩, ⟨1, 1, M42.next, M42.next⟩, ⟨0, 0, M42.next, M42.next⟩] ++ M42.hide) M42.log = M42 := by rw [show hides 0 [⟨2, 0, M42.next, M42.next⟩, ⟨1, 1, M42.next, M42.next⟩, ⟨0, 0, M42.next, M42.next⟩] = [] from by simp [hides, Nat.beq_refl, nxM55, show Nat.beq 1 0 = false from rfl, show Nat.beq 2 0 = false from rfl]]; rfl
  have rw2 : Mem.mk M42.blks M42.next (hides 8 [⟨3, 0, M42.next, M42.next⟩, ⟨2, 0, M42.next, M42.next⟩, ⟨1, 1, M42.next, M42.next⟩, ⟨0, 0, M42.next, M42.next⟩] ++ M42.hide) M42.log = M42 := by rw [show hides 8 [⟨3, 0, M42.next, M42.next⟩, ⟨2, 0, M42.next, M42.next⟩, ⟨1, 1, M42.next, M42.next⟩, ⟨0, 0, M42.next, M42.next⟩] = [] from by simp [hides, Nat.beq_refl, nxM55, show Nat.beq 1 0 = false from rfl, show Nat.beq 2 0 = false from rfl]]; rfl
  have rw3 : Mem.mk M42.blks M42.next (hides 28 [⟨4, 0, M42.next, M42.next⟩, ⟨3, 0, M42.next, M42.next⟩, ⟨2, 0, M42.next, M42.next⟩, ⟨1, 1, M42.next, M42.next⟩, ⟨0, 0, M42.next, M42.next⟩] ++ M42.hide) M42.log = M42 := by rw [show hides 28 [⟨4, 0, M42.next, M42.next⟩, ⟨3, 0, M42.next, M42.next⟩, ⟨2, 0, M42.next, M42.next⟩, ⟨1, 1, M42.next, M42.next⟩, ⟨0, 0, M42.next, M42.next⟩] = [] from by simp [hides, Nat.beq_refl, nxM55, show Nat.beq 1 0 = false from rfl, show Nat.beq 2 0 = false from rfl]]; rfl
  have rw4 : Mem.mk M42.blks M42.next (hides 60 [⟨5, 0, M42.next, M42.next⟩, ⟨4, 0, M42.next, M42.next⟩, ⟨3, 0, M42.next, M42.next⟩, ⟨2, 0, M42.next, M42.next⟩, ⟨1, 1, M42.next, M42.next⟩, ⟨0, 0, M42.next, M42.next⟩] ++ M42.hide) M42.log = M42 := by rw [show hides 60 [⟨5, 0, M42.next, M42.next⟩, ⟨4, 0, M42.next, M42.next⟩, ⟨3, 0, M42.next, M42.next⟩, ⟨2, 0, M42.next, M42.next⟩, ⟨1, 1, M42.next, M42.next⟩, ⟨0, 0, M42.next, M42.next⟩] = [] from by simp [hides, Nat.beq_refl, nxM55, show Nat.beq 1 0 = false from rfl, show Nat.beq 2 0 = false from rfl]]; rfl
  have rw5 : Mem.mk M55.blks M55.next M42.hide M55.log = M55 := by rw [(show M42.hide = M55.hide from ((X46).hide.trans (X68).hide.symm))]
  have rw6 : Mem.mk M55.blks M55.next (hides 124 [⟨6, 1, M42.next, M55.next⟩, ⟨5, 0, M42.next, M42.next⟩, ⟨4, 0, M42.next, M42.next⟩, ⟨3, 0, M42.next, M42.next⟩, ⟨2, 0, M42.next, M42.next⟩, ⟨1, 1, M42.next, M42.next⟩, ⟨0, 0, M42.next, M42.next⟩] ++ M42.hide) M55.log = M55 := by rw [show hides 124 [⟨6, 1, M42.next, M55.next⟩, ⟨5, 0, M42.next, M42.next⟩, ⟨4, 0, M42.next, M42.next⟩, ⟨3, 0, M42.next, M42.next⟩, ⟨2, 0, M42.next, M42.next⟩, ⟨1, 1, M42.next, M42.next⟩, ⟨0, 0, M42.next, M42.next⟩] = [] from by simp [hides, Nat.beq_refl, nxM55, show Nat.beq 1 0 = false from rfl, show Nat.beq 2 0 = false from rfl, show Nat.testBit 124 6 = true from rfl], (show M42.hide = M55.hide from ((X46).hide.trans (X68).hide.symm))]; rfl
  have rw7 : Mem.mk M55.blks M55.next (hides 252 [⟨7, 0, M55.next, M55.next⟩, ⟨6, 1, M42.next, M55.next⟩, ⟨5, 0, M42.next, M42.next⟩, ⟨4, 0, M42.next, M42.next⟩, ⟨3, 0, M42.next, M42.next⟩, ⟨2, 0, M42.next, M42.next⟩, ⟨1, 1, M42.next, M42.next⟩, ⟨0, 0, M42.next, M42.next⟩] ++ M42.hide) M55.log = M55 := by rw [show hides 252 [⟨7, 0, M55.next, M55.next⟩, ⟨6, 1, M42.next, M55.next⟩, ⟨5, 0, M42.next, M42.next⟩, ⟨4, 0, M42.next, M42.next⟩, ⟨3, 0, M42.next, M42.next⟩, ⟨2, 0, M42.next, M42.next⟩, ⟨1, 1, M42.next, M42.next⟩, ⟨0, 0, M42.next, M42.next⟩] = [] from by simp [hides, Nat.beq_refl, nxM55, show Nat.beq 1 0 = false from rfl, show Nat.beq 2 0 = false from rfl, show Nat.testBit 252 6 = true from rfl], (show M42.hide = M55.hide from ((X46).hide.trans (X68).hide.symm))]; rfl
  have rw8 : Mem.mk M70.blks M70.next M42.hide M70.log = M70 := by rw [(show M42.hide = M70.hide from ((X46).hide.trans (X81).hide.symm))]
  have rw9 : Mem.mk M83.blks M83.next M42.hide M83.log = M83 := by rw [(show M42.hide = M83.hide from ((X46).hide.trans (X95).hide.symm))]
  have rw10 : Mem.mk M96.blks M96.next M42.hide M96.log = M96 := by rw [(show M42.hide = M96.hide from ((X46).hide.trans (X100).hide.symm))]
  try rw [rw0] at hraw
  try rw [rw1] at hraw
  try rw [rw2] at hraw
  try rw [rw3] at hraw
  try rw [rw4] at hraw
  try rw [rw5] at hraw
  try rw [rw6] at hraw
  try rw [rw7] at hraw
  try rw [rw8] at hraw
  try rw [rw9] at hraw
  try rw [rw10] at hraw
  obtain ⟨T1, h1, h2⟩ := Rd.told noNumP mixedP (fun B => specsB_ok (hS14_17 B) (k := [(2, bone (.loop (q16.loopAt 2)) Tryz.f16.ntmps [1, 2, 6, 7, 8, 9, 10, 11] [some (.slice a ns.length c), some (i64 acc), some (pt r6 0), some (pt p 0), some (i64 N), some (i64 (((i : Nat) : Int))), some (pt b1 0), some (i64 0)] M2 .normal (fr [(1, (.slice a ns.length c)), (2, (i64 acc)), (6, (pt r6 0)), (7, (pt p 0)), (8, (i64 N)), (9, (i64 (((i : Nat) : Int)))), (10, (pt b1 0))]) M11)]) (fun p hp => by simp only [List.mem_cons, List.not_mem_nil, or_false] at hp; rcases hp with rfl <;> first | exact BlkOk.loop noNumP mixedP hL12)) (fun _ h => blksF_one h) hraw (hk (bT cc0) (hk (q_eq (by rw [← eb3, ← em4]; kernel_rfl) Nat.one_ne_zero) (hk (q_blk rfl) (hk (lC dC24 g17 rfl) (hk (lA ⟨dA62, dS62⟩ g15 rfl) (hk (q_eq (by rw [← eb21, ← em22]; kernel_rfl) Nat.one_ne_zero) (hk (q_app (by rw [← eb32, ← em33]; exact append_nil (w := 5) (by kernel_rfl) (by kernel_rfl) (y := 40) (by kernel_rfl) (by decide) (by decide) g23 rfl rfl rfl) Nat.one_ne_zero) (hk (q_st q43) (hk (lC dC25 g44 rfl) (hk (q_inb (by rw [u64_small (by omega)]; omega) (by rw [u64_small (by omega)]; omega)) (hk (q_call rfl p56 l57 e58) (hk (q_eq (by rw [← eb71, ← em72]; kernel_rfl) Nat.one_ne_zero) (hk (q_app (by rw [← eb84, ← em85]; exact append_nil (w := 1) (by kernel_rfl) (by kernel_rfl) (y := 1) (by kernel_rfl) (by decide) (by decide) g73 rfl rfl rfl) Nat.one_ne_zero) (hk (q_st q97) hn))))))))))))))
  exact ⟨T1, M96, b30, b82, h1, h2, X100, hM101, g98, g103, ⟨nb30, dpb30, dr6b30, g106⟩, ⟨nb82, dpb82, dr6b82, g108⟩, db30b82⟩
theorem r14x_raw (p r6 i : Nat) (a : Option Addr) (q c : Nat) (N acc : Int) (M : Mem) : oR Tryz.prog [] 40 Tryz.f16 (q16.loopAt 0) [(1, (.slice a q c)), (2, (i64 acc)), (6, (pt r6 0)), (7, (pt p 0)), (8, (i64 N)), (9, (i64 (((i : Nat) : Int))))] M [ttF 6] [6, 7] = some ((.exit 0), [some (pt r6 0), some (pt p 0)], M, [qF (decide ((((i : Nat) : Int)) < N))]) := by kernel_rfl
theorem r14x (p r6 i : Nat) (a : Option Addr) (q c : Nat) (N acc : Int) {M : Mem} (cc0 : (decide ((((i : Nat) : Int)) < N)) = false) : ∃ T1, Rd Tryz.prog [] (q16.loopAt 0) Tryz.f16.ntmps (fr [(1, (.slice a q c)), (2, (i64 acc)), (6, (pt r6 0)), (7, (pt p 0)), (8, (i64 N)), (9, (i64 (((i : Nat) : Int))))]) M (.exit 0) T1 M ∧ [6, 7].map T1.get = [some (pt r6 0), some (pt p 0)] := by
  obtain ⟨T1, h1, h2⟩ := Rd.told noNumP mixedP (specs_none Tryz.prog) (fun _ _ => rfl) (r14x_raw p r6 i a q c N acc M) (hk (bF cc0) hn)
  exact ⟨T1, h1, h2⟩
theorem r14s_raw (p r6 i : Nat) (a : Option Addr) (c : Nat) (ns : List Int) (N acc : Int) (k6 : ABlk) (bs bf : Nat) (cs cf : List Value) (M : Mem) (b1 : Nat) (M2 : Mem) (M13 : Mem) (b23 : Nat) (M24 : Mem) (b38 : Nat) (M39 : Mem) (M49 : Mem) (M63 : Mem) (b78 : Nat) (M79 : Mem) (b94 : Nat) (M95 : Mem) (M106 : Mem) : oR Tryz.prog [2] 60 Tryz.f16 (q16.loopAt 0) [(1, (.slice a ns.length c)), (2, (i64 acc)), (6, (pt r6 0)), (7, (pt p 0)), (8, (i64 N)), (9, (i64 (((i : Nat) : Int))))] M [ttT 6, ttV 8 (pt b1 0) M2, .blk 11 [1, 2, 6, 7, 8, 9, 10, 11] .normal (fr [(1, (.slice a ns.length c)), (2, (i64 acc)), (6, (pt r6 0)), (7, (pt p 0)), (8, (i64 N)), (9, (i64 (((i : Nat) : Int)))), (10, (pt b1 0))]) M13, ttL 15 (sli bs 0 i i), ttL 17 (.agg ⟨[(i64 (cellI N ns acc i 0)), (i64 (cellI N ns acc i 1)), (i64 (cellI N ns acc i 2)), (i64 (cellI N ns acc i 3)), (i64 (cellI N ns acc i 4))]⟩), ttV 19 (sli b23 0 1 2) M24, .at 21 (2, .val (sli b38 0 (i + 1) (i + 1)), M39), ttS 25 M49, ttL 29 (sli bf 0 i i), ttT 37, ttV 39 (i64 (modI (acc.fdiv (2 ^ (IntKind.wrap .u64 (((i : Nat) : Int))).toNat)) 2)) M63, ttV 43 (sli b78 0 1 2) M79, .at 45 (2, .val (sli b94 0 (i + 1) (i + 1)), M95), ttS 49 M106] [1, 2, 6, 7, 8, 9] = some (.normal, [some (.slice a ns.length c), some (i64 acc), some (pt r6 0), some (pt p 0), some (i64 N), some (i64 (IntKind.wrap .i64 ((((i : Nat) : Int)) + (1 : Int))))], (Mem.mk M106.blks M106.next M49.hide M106.log), [qT (decide ((((i : Nat) : Int)) < N)), .eq (aalloc Tryz.prog 62 M) (1, .val (pt b1 0), M2), .blk 2 (.loop (q16.loopAt 2)) Tryz.f16.ntmps [1, 2, 6, 7, 8, 9, 10, 11] [some (.slice a ns.length c), some (i64 acc), some (pt r6 0), some (pt p 0), some (i64 N), some (i64 (((i : Nat) : Int))), some (pt b1 0), some (i64 0)] M2 .normal (fr [(1, (.slice a ns.length c)), (2, (i64 acc)), (6, (pt r6 0)), (7, (pt p 0)), (8, (i64 N)), (9, (i64 (((i : Nat) : Int)))), (10, (pt b1 0))]) M13, qL 24 p 0 M13 (sli bs 0 i i), qL 62 b1 0 M13 (.agg ⟨[(i64 (cellI N ns acc i 0)), (i64 (cellI N ns acc i 1)), (i64 (cellI N ns acc i 2)), (i64 (cellI N ns acc i 3)), (i64 (cellI N ns acc i 4))]⟩), .eq (abuildSlice Tryz.prog 24 1 [(0, (.agg ⟨[(i64 (cellI N ns acc i 0)), (i64 (cellI N ns acc i 1)), (i64 (cellI N ns acc i 2)), (i64 (cellI N ns acc i 3)), (i64 (cellI N ns acc i 4))]⟩))] M13) (1, .val (sli b23 0 1 2), M24), .q (.append [24, 24] (sli bs 0 i i) (sli b23 0 1 2) M24) (2, .val (sli b38 0 (i + 1) (i + 1)), M39), qS 24 p 0 (sli b38 0 (i + 1) (i + 1)) M39 M49, qL 25 p 1 M49 (sli bf 0 i i), .q (.inb (IntKind.wrap .u64 (((i : Nat) : Int))) 64) (ansB true), qC 40 [(i64 (acc.fdiv (2 ^ (IntKind.wrap .u64 (((i : Nat) : Int))).toNat))), (i64 2)] (Mem.mk M49.blks M49.next (hides 60 [⟨5, 0, M49.next, M49.next⟩, ⟨4, 0, M49.next, M49.next⟩, ⟨3, 0, M49.next, M49.next⟩, ⟨2, 0, M49.next, M49.next⟩, ⟨1, 1, M49.next, M49.next⟩, ⟨0, 0, M49.next, M49.next⟩] ++ M49.hide) M49.log) (i64 (modI (acc.fdiv (2 ^ (IntKind.wrap .u64 (((i : Nat) : Int))).toNat)) 2)) M63, .eq (abuildSlice Tryz.prog 25 1 [(0, (.bool ((modI (acc.fdiv (2 ^ (IntKind.wrap .u64 (((i : Nat) : Int))).toNat)) 2) == (1 : Int))))] (Mem.mk M63.blks M63.next (hides 252 [⟨7, 0, M63.next, M63.next⟩, ⟨6, 1, M49.next, M63.next⟩, ⟨5, 0, M49.next, M49.next⟩, ⟨4, 0, M49.next, M49.next⟩, ⟨3, 0, M49.next, M49.next⟩, ⟨2, 0, M49.next, M49.next⟩, ⟨1, 1, M49.next, M49.next⟩, ⟨0, 0, M49.next, M49.next⟩] ++ M49.hide) M63.log)) (1, .val (sli b78 0 1 2), M79), .q (.append [25, 25] (sli bf 0 i i) (sli b78 0 1 2) (Mem.mk M79.blks M79.next M49.hide M79.log)) (2, .val (sli b94 0 (i + 1) (i + 1)), M95), qS 25 p 1 (sli b94 0 (i + 1) (i + 1)) (Mem.mk M95.blks M95.next M49.hide M95.log) M106]) := by kernel_rfl
theorem r14s (p r6 i : Nat) (a : Option Addr) (c : Nat) (ns : List Int) (N acc : Int) (k6 : ABlk) (bs bf : Nat) (cs cf : List Value) {M : Mem} (hM : MemOk M) {M0 : Mem} (hs : FlatAt 1 M0 (.slice a ns.length c) (ns.map ([·]))) (X0 : Ext M0 M) (np : M0.next ≤ p) (hN : 1 ≤ N ∧ N ≤ 9) (hi : i < 9) (gp : M.get p = some ⟨[(sli bs 0 i i), (sli bf 0 i i)], 27, 2, 0, true⟩) (g6 : M.get r6 = some k6) (dpr6 : p ≠ r6) (nbs : M0.next ≤ bs) (gs : M.get bs = some ⟨cs, 62, 5, 0, true⟩) (dpbs : p ≠ bs) (dr6bs : r6 ≠ bs) (hcs : cs.length = i * 5) (nbf : M0.next ≤ bf) (gf : M.get bf = some ⟨cf, 4, 1, 0, true⟩) (dpbf : p ≠ bf) (dr6bf : r6 ≠ bf) (hcf : cf.length = i * 1) (dbsbf : bs ≠ bf) (cc0 : (decide ((((i : Nat) : Int)) < N)) = true) : ∃ T1 M' b1 b2, Rd Tryz.prog [] (q16.loopAt 0) Tryz.f16.ntmps (fr [(1, (.slice a ns.length c)), (2, (i64 acc)), (6, (pt r6 0)), (7, (pt p 0)), (8, (i64 N)), (9, (i64 (((i : Nat) : Int))))]) M .normal T1 M' ∧ [1, 2, 6, 7, 8, 9].map T1.get = [some (.slice a ns.length c), some (i64 acc), some (pt r6 0), some (pt p 0), some (i64 N), some (i64 (IntKind.wrap .i64 ((((i : Nat) : Int)) + (1 : Int))))] ∧ Ext M0 M' ∧ MemOk M' ∧ M'.get p = some ⟨[(sli b1 0 (i + 1) (i + 1)), (sli b2 0 (i + 1) (i + 1))], 27, 2, 0, true⟩ ∧ M'.get r6 = some k6 ∧ (M0.next ≤ b1 ∧ p ≠ b1 ∧ r6 ≠ b1 ∧ M'.get b1 = some ⟨cs ++ [(i64 (cellI N ns acc i 0)), (i64 (cellI N ns acc i 1)), (i64 (cellI N ns acc i 2)), (i64 (cellI N ns acc i 3)), (i64 (cellI N ns acc i 4))], 62, 5, 0, true⟩) ∧ (M0.next ≤ b2 ∧ p ≠ b2 ∧ r6 ≠ b2 ∧ M'.get b2 = some ⟨cf ++ [(.bool ((modI (acc.fdiv (2 ^ (IntKind.wrap .u64 (((i : Nat) : Int))).toNat)) 2) == (1 : Int)))], 4, 1, 0, true⟩) ∧ b1 ≠ b2 := by
  obtain ⟨b1, M2, eb3, em4, g5, E6, hM7⟩ := new_t hM ⟨[(i64 0), (i64 0), (i64 0), (i64 0), (i64 0)], 62, 1, 0, true⟩
  have nb1 : M0.next ≤ b1 := by rw [← eb3]; exact X0.next
  have dpb1 : p ≠ b1 := by have := Mem.lt_of_get gp; omega
  have dr6b1 : r6 ≠ b1 := by have := Mem.lt_of_get g6; omega
  have dbsb1 : bs ≠ b1 := by have := Mem.lt_of_get gs; omega
  have dbfb1 : bf ≠ b1 := by have := Mem.lt_of_get gf; omega
  have g8 := E6.old gp
  have g9 := E6.old g6
  have g10 := E6.old gs
  have g11 := E6.old gf
  have X12 := X0.trans E6
  obtain ⟨M13, hL14, E15, hM16, g17, kp18⟩ := inner14 r6 p b1 i a c ns N acc 0 0 0 0 0 hM7 hs X12 nb1 hN (by omega) g5
  have g19 := kp18 _ _ g8 (by first | exact dpb1 | exact Ne.symm db1p)
  have g20 := kp18 _ _ g9 (by first | exact dr6b1 | exact Ne.symm db1r6)
  have g21 := kp18 _ _ g10 (by first | exact dbsb1 | exact Ne.symm db1bs)
  have g22 := kp18 _ _ g11 (by first | exact dbfb1 | exact Ne.symm db1bf)
  obtain ⟨b23, M24, eb25, em26, g27, E28, hM29⟩ := new_t hM16 ⟨[(i64 (cellI N ns acc i 0)), (i64 (cellI N ns acc i 1)), (i64 (cellI N ns acc i 2)), (i64 (cellI N ns acc i 3)), (i64 (cellI N ns acc i 4))], 62, 5, 0, true⟩
  have nb23 : M0.next ≤ b23 := by rw [← eb25]; exact E15.next
  have dpb23 : p ≠ b23 := by have := Mem.lt_of_get g19; omega
  have dr6b23 : r6 ≠ b23 := by have := Mem.lt_of_get g20; omega
  have dbsb23 : bs ≠ b23 := by have := Mem.lt_of_get g21; omega
  have dbfb23 : bf ≠ b23 := by have := Mem.lt_of_get g22; omega
  have db1b23 : b1 ≠ b23 := by have := Mem.lt_of_get g17; omega
  have g30 := E28.old g19
  have g31 := E28.old g20
  have g32 := E28.old g21
  have g33 := E28.old g22
  have g34 := E28.old g17
  have X35 := E15.trans E28
  obtain ⟨b38, M39, eb40, em41, g42, X37, hM43, kp36⟩ := grow_t X35 nbs hM29 ⟨cs ++ [(i64 (cellI N ns acc i 0)), (i64 (cellI N ns acc i 1)), (i64 (cellI N ns acc i 2)), (i64 (cellI N ns acc i 3)), (i64 (cellI N ns acc i 4))], 62, 5, 0, true⟩
  have nb38 : M0.next ≤ b38 := by rw [← eb40]; exact X35.next
  have dpb38 : p ≠ b38 := by have := Mem.lt_of_get g30; omega
  have dr6b38 : r6 ≠ b38 := by have := Mem.lt_of_get g31; omega
  have dbsb38 : bs ≠ b38 := by have := Mem.lt_of_get g32; omega
  have dbfb38 : bf ≠ b38 := by have := Mem.lt_of_get g33; omega
  have db1b38 : b1 ≠ b38 := by have := Mem.lt_of_get g34; omega
  have db23b38 : b23 ≠ b38 := by have := Mem.lt_of_get g27; omega
  have g44 := (kp36 _ dpbs (Mem.lt_of_get g30)).trans g30
  have g45 := (kp36 _ dr6bs (Mem.lt_of_get g31)).trans g31
  have g46 := (kp36 _ (Ne.symm dbsbf) (Mem.lt_of_get g33)).trans g33
  have g47 := (kp36 _ (Ne.symm dbsb1) (Mem.lt_of_get g34)).trans g34
  have g48 := (kp36 _ (Ne.symm dbsb23) (Mem.lt_of_get g27)).trans g27
  obtain ⟨M49, q50, g51, kp52, X53, hM54, nx55⟩ := store_t (o := 0) (v := (sli b38 0 (i + 1) (i + 1))) (new := [(sli b38 0 (i + 1) (i + 1)), (sli bf 0 i i)]) X37 np hM43 dS24 g44 rfl rfl (Nat.zero_le _) (Nat.le_of_ble_eq_true rfl) rfl
  replace g51 : M49.get p = some ⟨[(sli b38 0 (i + 1) (i + 1)), (sli bf 0 i i)], 27, 2, 0, true⟩ := g51
  have g56 := (kp52 _ (Ne.symm dpr6)).trans g45
  have g57 := (kp52 _ (Ne.symm dpbf)).trans g46
  have g58 := (kp52 _ (Ne.symm dpb1)).trans g47
  have g59 := (kp52 _ (Ne.symm dpb23)).trans g48
  have g60 := (kp52 _ (Ne.symm dpb38)).trans g42
  obtain ⟨w61, N62, M63, p64, l65, e66, E67, hM68, Q69, G70⟩ := call_t (P := Tryz.prog) (GL := []) (f := 40) hM54 (con40 (acc.fdiv (2 ^ (IntKind.wrap .u64 (((i : Nat) : Int))).toNat)) 2 (by decide))
  have g71 := E67.old g51
  have g72 := E67.old g56
  have g73 := E67.old g57
  have g74 := E67.old g58
  have g75 := E67.old g59
  have g76 := E67.old g60
  have ew61 : w61 = (i64 (modI (acc.fdiv (2 ^ (IntKind.wrap .u64 (((i : Nat) : Int))).toNat)) 2)) := (Option.some.inj Q69.1).symm
  subst ew61
  have nxM63 : M63.next = M49.next := by rw [← e66]; exact Q69.2
  have X77 := X53.trans E67
  obtain ⟨b78, M79, eb80, em81, g82, E83, hM84⟩ := new_t hM68 ⟨[(.bool ((modI (acc.fdiv (2 ^ (IntKind.wrap .u64 (((i : Nat) : Int))).toNat)) 2) == (1 : Int)))], 4, 1, 0, true⟩
  have nb78 : M0.next ≤ b78 := by rw [← eb80]; exact X77.next
  have dpb78 : p ≠ b78 := by have := Mem.lt_of_get g71; omega
  have dr6b78 : r6 ≠ b78 := by have := Mem.lt_of_get g72; omega
  have dbfb78 : bf ≠ b78 := by have := Mem.lt_of_get g73; omega
  have db1b78 : b1 ≠ b78 := by have := Mem.lt_of_get g74; omega
  have db23b78 : b23 ≠ b78 := by have := Mem.lt_of_get g75; omega
  have db38b78 : b38 ≠ b78 := by have := Mem.lt_of_get g76; omega
  have g85 := E83.old g71
  have g86 := E83.old g72
  have g87 := E83.old g73
  have g88 := E83.old g74
  have g89 := E83.old g75
  have g90 := E83.old g76
  have X91 := X77.trans E83
  obtain ⟨b94, M95, eb96, em97, g98, X93, hM99, kp92⟩ := grow_t X91 nbf hM84 ⟨cf ++ [(.bool ((modI (acc.fdiv (2 ^ (IntKind.wrap .u64 (((i : Nat) : Int))).toNat)) 2) == (1 : Int)))], 4, 1, 0, true⟩
  have nb94 : M0.next ≤ b94 := by rw [← eb96]; exact X91.next
  have dpb94 : p ≠ b94 := by have := Mem.lt_of_get g85; omega
  have dr6b94 : r6 ≠ b94 := by have := Mem.lt_of_get g86; omega
  have dbfb94 : bf ≠ b94 := by have := Mem.lt_of_get g87; omega
  have db1b94 : b1 ≠ b94 := by have := Mem.lt_of_get g88; omega
  have db23b94 : b23 ≠ b94 := by have := Mem.lt_of_get g89; omega
  have db38b94 : b38 ≠ b94 := by have := Mem.lt_of_get g90; omega
  have db78b94 : b78 ≠ b94 := by have := Mem.lt_of_get g82; omega
  have g100 := (kp92 _ dpbf (Mem.lt_of_get g85)).trans g85
  have g101 := (kp92 _ dr6bf (Mem.lt_of_get g86)).trans g86
  have g102 := (kp92 _ (Ne.symm dbfb1) (Mem.lt_of_get g88)).trans g88
  have g103 := (kp92 _ (Ne.symm dbfb23) (Mem.lt_of_get g89)).trans g89
  have g104 := (kp92 _ (Ne.symm dbfb38) (Mem.lt_of_get g90)).trans g90
  have g105 := (kp92 _ (Ne.symm dbfb78) (Mem.lt_of_get g82)).trans g82
  obtain ⟨M106, q107, g108, kp109, X110, hM111, nx112⟩ := store_t (o := 1) (v := (sli b94 0 (i + 1) (i + 1))) (new := [(sli b38 0 (i + 1) (i + 1)), (sli b94 0 (i + 1) (i + 1))]) X93 np hM99 dS25 g100 rfl rfl (Nat.zero_le _) (Nat.le_of_ble_eq_true rfl) rfl
  replace g108 : M106.get p = some ⟨[(sli b38 0 (i + 1) (i + 1)), (sli b94 0 (i + 1) (i + 1))], 27, 2, 0, true⟩ := g108
  have g113 := (kp109 _ (Ne.symm dpr6)).trans g101
  have g114 := (kp109 _ (Ne.symm dpb1)).trans g102
  have g115 := (kp109 _ (Ne.symm dpb23)).trans g103
  have g116 := (kp109 _ (Ne.symm dpb38)).trans g104
  have g117 := (kp109 _ (Ne.symm dpb78)).trans g105
  have g118 := (kp109 _ (Ne.symm dpb94)).trans g98
  have hraw := r14s_raw p r6 i a c ns N acc k6 bs bf cs cf M b1 M2 M13 b23 M24 b38 M39 M49 M63 b78 M79 b94 M95 M106
  have rw0 : Mem.mk M49.blks M49.next (hides 0 [⟨1, 1, M49.next, M49.next⟩, ⟨0, 0, M49.next, M49.next⟩] ++ M49.hide) M49.log = M49 := by rw [show hides 0 [⟨1, 1, M49.next, M49.next⟩, ⟨0, 0, M49.next, M49.next⟩] = [] from by simp [hides, Nat.beq_refl, nxM63, show Nat.beq 1 0 = false from rfl, show Nat.beq 2 0 = false from rfl]]; rfl
  have rw1 : Mem.mk M49.blks M49.next (hides 0 [⟨2, 0, M49.next, M49.next⟩, ⟨1, 1, M49.next, M49.next⟩, ⟨0, 0, M49.next, M49.next⟩] ++ M49.hide) M49.log = M49 := by rw [show hides 0 [⟨2, 0, M49.next, M49.next⟩, ⟨1, 1, M49.next, M49.next⟩, ⟨0, 0, M49.next, M49.next⟩] = [] from by simp [hides, Nat.beq_refl, nxM63, show Nat.beq 1 0 = false from rfl, show Nat.beq 2 0 = false from rfl]]; rfl
  have rw2 : Mem.mk M49.blks M49.next (hides 8 [⟨3, 0, M49.next, M49.next⟩, ⟨2, 0, M49.next, M49.next⟩, ⟨1, 1, M49.next, M49.next⟩, ⟨0, 0, M49.next, M49.next⟩] ++ M49.hide) M49.log = M49 := by rw [show hides 8 [⟨3, 0, M49.next, M49.next⟩, ⟨2, 0, M49.next, M49.next⟩, ⟨1, 1, M49.next, M49.next⟩, ⟨0, 0, M49.next, M49.next⟩] = [] from by simp [hides, Nat.beq_refl, nxM63, show Nat.beq 1 0 = false from rfl, show Nat.beq 2 0 = false from rfl]]; rfl
  have rw3 : Mem.mk M49.blks M49.next (hides 28 [⟨4, 0, M49.next, M49.next⟩, ⟨3, 0, M49.next, M49.next⟩, ⟨2, 0, M49.next, M49.next⟩, ⟨1, 1, M49.next, M49.next⟩, ⟨0, 0, M49.next, M49.next⟩] ++ M49.hide) M49.log = M49 := by rw [show hides 28 [⟨4, 0, M49.next, M49.next⟩, ⟨3, 0, M49.next, M49.next⟩, ⟨2, 0, M49.next, M49.next⟩, ⟨1, 1, M49.next, M49.next⟩, ⟨0, 0, M49.next, M49.next⟩] = [] from by simp [hides, Nat.beq_refl, nxM63, show Nat.beq 1 0 = false from rfl, show Nat.beq 2 0 = false from rfl]]; rfl
  have rw4 : Mem.mk M49.blks M49.next (hides 60 [⟨5, 0, M49.next, M49.next⟩, ⟨4, 0, M49.next, M49.next⟩, ⟨3, 0, M49.next, M49.next⟩, ⟨2, 0, M49.next, M49.next⟩, ⟨1, 1, M49.next, M49.next⟩, ⟨0, 0, M49.next, M49.next⟩] ++ M49.hide) M49.log = M49 := by rw [show hides 60 [⟨5, 0, M49.next, M49.next⟩, ⟨4, 0, M49.next, M49.next⟩, ⟨3, 0, M49.next, M49.next⟩, ⟨2, 0, M49.next, M49.next⟩, ⟨1, 1, M49.next, M49.next⟩, ⟨0, 0, M49.next, M49.next⟩] = [] from by simp [hides, Nat.beq_refl, nxM63, show Nat.beq 1 0 = false from rfl, show Nat.beq 2 0 = false from rfl]]; rfl
  have rw5 : Mem.mk M63.blks M63.next M49.hide M63.log = M63 := by rw [(show M49.hide = M63.hide from ((X53).hide.trans (X77).hide.symm))]
  have rw6 : Mem.mk M63.blks M63.next (hides 124 [⟨6, 1, M49.next, M63.next⟩, ⟨5, 0, M49.next, M49.next⟩, ⟨4, 0, M49.next, M49.next⟩, ⟨3, 0, M49.next, M49.next⟩, ⟨2, 0, M49.next, M49.next⟩, ⟨1, 1, M49.next, M49.next⟩, ⟨0, 0, M49.next, M49.next⟩] ++ M49.hide) M63.log = M63 := by rw [show hides 124 [⟨6, 1, M49.next, M63.next⟩, ⟨5, 0, M49.next, M49.next⟩, ⟨4, 0, M49.next, M49.next⟩, ⟨3, 0, M49.next, M49.next⟩, ⟨2, 0, M49.next, M49.next⟩, ⟨1, 1, M49.next, M49.next⟩, ⟨0, 0, M49.next, M49.next⟩] = [] from by simp [hides, Nat.beq_refl, nxM63, show Nat.beq 1 0 = false from rfl, show Nat.beq 2 0 = false from rfl, show Nat.testBit 124 6 = true from rfl], (show M49.hide = M63.hide from ((X53).hide.trans (X77).hide.symm))]; rfl
  have rw7 : Mem.mk M63.blks M63.next (hides 252 [⟨7, 0, M63.next, M63.next⟩, ⟨6, 1, M49.next, M63.next⟩, ⟨5, 0, M49.next, M49.next⟩, ⟨4, 0, M49.next, M49.next⟩, ⟨3, 0, M49.next, M49.next⟩, ⟨2, 0, M49.next, M49.next⟩, ⟨1, 1, M49.next, M49.next⟩, ⟨0, 0, M49.next, M49.next⟩] ++ M49.hide) M63.log = M63 := by rw [show hides 252 [⟨7, 0, M63.next, M63.next⟩, ⟨6, 1, M49.next, M63.next⟩, ⟨5, 0, M49.next, M49.next⟩, ⟨4, 0, M49.next, M49.next⟩, ⟨3, 0, M49.next, M49.next⟩, ⟨2, 0, M49.next, M49.next⟩, ⟨1, 1, M49.next, M49.next⟩, ⟨0, 0, M49.next, M49.next⟩] = [] from by simp [hides, Nat.beq_refl, nxM63, show Nat.beq 1 0 = false from rfl, show Nat.beq 2 0 = false from rfl, show Nat.testBit 252 6 = true from rfl], (show M49.hide = M63.hide from ((X53).hide.trans (X77).hide.symm))]; rfl
  have rw8 : Mem.mk M79.blks M79.next M49.hide M79.log = M79 := by rw [(show M49.hide = M79.hide from ((X53).hide.trans (X91).hide.symm))]
  have rw9 : Mem.mk M95.blks M95.next M49.hide M95.log = M95 := by rw [(show M49.hide = M95.hide from ((X53).hide.trans (X93).hide.symm))]
  have rw10 : Mem.mk M106.blks M106.next M49.hide M106.log = M106 := by rw [(show M49.hide = M106.hide from ((X53).hide.trans (X110).hide.symm))]
  try rw [rw0] at hraw
  try rw [rw1] at hraw
  try rw [rw2] at hraw
  try rw [rw3] at hraw
  try rw [rw4] at hraw
  try rw [rw5] at hraw
  try rw [rw6] at hraw
  try rw [rw7] at hraw
  try rw [rw8] at hraw
  try rw [rw9] at hraw
  try rw [rw10] at hraw
  obtain ⟨T1, h1, h2⟩ := Rd.told noNumP mixedP (fun B => specsB_ok (hS14_17 B) (k := [(2, bone (.loop (q16.loopAt 2)) Tryz.f16.ntmps [1, 2, 6, 7, 8, 9, 10, 11] [some (.slice a ns.length c), some (i64 acc), some (pt r6 0), some (pt p 0), some (i64 N), some (i64 (((i : Nat) : Int))), some (pt b1 0), some (i64 0)] M2 .normal (fr [(1, (.slice a ns.length c)), (2, (i64 acc)), (6, (pt r6 0)), (7, (pt p 0)), (8, (i64 N)), (9, (i64 (((i : Nat) : Int)))), (10, (pt b1 0))]) M13)]) (fun p hp => by simp only [List.mem_cons, List.not_mem_nil, or_false] at hp; rcases hp with rfl <;> first | exact BlkOk.loop noNumP mixedP hL14)) (fun _ h => blksF_one h) hraw (hk (bT cc0) (hk (q_eq (by rw [← eb3, ← em4]; kernel_rfl) Nat.one_ne_zero) (hk (q_blk rfl) (hk (lC dC24 g19 rfl) (hk (lA ⟨dA62, dS62⟩ g17 rfl) (hk (q_eq (by rw [← eb25, ← em26]; kernel_rfl) Nat.one_ne_zero) (hk (q_app (by rw [← eb40, ← em41]; exact append_more (w := 5) (by kernel_rfl) (by kernel_rfl) (by kernel_rfl) (y := 40) (by kernel_rfl) (by decide) (by decide) (by omega) g27 rfl rfl rfl g32 hcs rfl rfl rfl rfl) (Nat.succ_ne_zero _)) (hk (q_st q50) (hk (lC dC25 g51 rfl) (hk (q_inb (by rw [u64_small (by omega)]; omega) (by rw [u64_small (by omega)]; omega)) (hk (q_call rfl p64 l65 e66) (hk (q_eq (by rw [← eb80, ← em81]; kernel_rfl) Nat.one_ne_zero) (hk (q_app (by rw [← eb96, ← em97]; exact append_more (w := 1) (by kernel_rfl) (by kernel_rfl) (by kernel_rfl) (y := 1) (by kernel_rfl) (by decide) (by decide) (by omega) g82 rfl rfl rfl g87 hcf rfl rfl rfl rfl) (Nat.succ_ne_zero _)) (hk (q_st q107) hn))))))))))))))
  exact ⟨T1, M106, b38, b94, h1, h2, X110, hM111, g108, g113, ⟨nb38, dpb38, dr6b38, g116⟩, ⟨nb94, dpb94, dr6b94, g118⟩, db38b94⟩
end Go.Proofs.YtchnlooenomfnaaGreatDoor
