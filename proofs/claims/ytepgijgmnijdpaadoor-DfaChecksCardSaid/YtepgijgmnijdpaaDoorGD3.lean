/-
  DfaChecks: whether any machine is allowed is the document's
-/
import Derived.Test.YtepgijgmnijdpaaDoorGDM
open Go Go.Am Go.Proofs
namespace Go.Proofs.YtepgijgmnijdpaaDoor
set_option maxRecDepth 100000
theorem u64_small {i : Nat} (hi : i < 1000) : IntKind.wrap .u64 ((i : Nat) : Int) = ((i : Nat) : Int) := by
  show ((i : Nat) : Int) % (2 ^ 64) = _
  exact Int.emod_eq_of_lt (by omega) (by omega)
def accI (acc : Int) (i : Nat) : Bool := (modI (acc.fdiv (2 ^ i)) 2) == (1 : Int)
def rowI (N : Int) (ns : List Int) (acc : Int) (i : Nat) : List Int := [cellI N ns acc i 0, cellI N ns acc i 1, cellI N ns acc i 2, cellI N ns acc i 3, cellI N ns acc i 4]
theorem r14n_raw (p r6 i : Nat) (a : Option Addr) (c : Nat) (ns : List Int) (N acc : Int) (_ : ABlk) (M : Mem) (b1 : Nat) (M2 : Mem) (M11 : Mem) (b19 : Nat) (M20 : Mem) (b30 : Nat) (M31 : Mem) (M42 : Mem) (M55 : Mem) (b69 : Nat) (M70 : Mem) (b82 : Nat) (M83 : Mem) (M96 : Mem) : oR Tryd.prog [2] 60 Tryd.f14 (q14.loopAt 0) [(1, (.slice a ns.length c)), (2, (i64 acc)), (6, (pt r6 0)), (7, (pt p 0)), (8, (i64 N)), (9, (i64 (((i : Nat) : Int))))] M [ttT 6, ttV 8 (pt b1 0) M2, .blk 11 [1, 2, 6, 7, 8, 9, 10, 11] .normal (fr [(1, (.slice a ns.length c)), (2, (i64 acc)), (6, (pt r6 0)), (7, (pt p 0)), (8, (i64 N)), (9, (i64 (((i : Nat) : Int)))), (10, (pt b1 0))]) M11, ttL 15 sln, ttL 17 (.agg ⟨[(i64 (cellI N ns acc i 0)), (i64 (cellI N ns acc i 1)), (i64 (cellI N ns acc i 2)), (i64 (cellI N ns acc i 3)), (i64 (cellI N ns acc i 4))]⟩), ttV 19 (sli b19 0 1 2) M20, .at 21 (1, .val (sli b30 0 1 1), M31), ttS 25 M42, ttL 29 sln, ttT 37, ttV 39 (i64 (modI (acc.fdiv (2 ^ (IntKind.wrap .u64 (((i : Nat) : Int))).toNat)) 2)) M55, ttV 43 (sli b69 0 1 2) M70, .at 45 (1, .val (sli b82 0 1 1), M83), ttS 49 M96] [1, 2, 6, 7, 8, 9] = some (.normal, [some (.slice a ns.length c), some (i64 acc), some (pt r6 0), some (pt p 0), some (i64 N), some (i64 (IntKind.wrap .i64 ((((i : Nat) : Int)) + (1 : Int))))], (Mem.mk M96.blks M96.next M42.hide M96.log), [qT (decide ((((i : Nat) : Int)) < N)), .eq (aalloc Tryd.prog 31 M) (1, .val (pt b1 0), M2), .blk 2 (.loop (q14.loopAt 2)) Tryd.f14.ntmps [1, 2, 6, 7, 8, 9, 10, 11] [some (.slice a ns.length c), some (i64 acc), some (pt r6 0), some (pt p 0), some (i64 N), some (i64 (((i : Nat) : Int))), some (pt b1 0), some (i64 0)] M2 .normal (fr [(1, (.slice a ns.length c)), (2, (i64 acc)), (6, (pt r6 0)), (7, (pt p 0)), (8, (i64 N)), (9, (i64 (((i : Nat) : Int)))), (10, (pt b1 0))]) M11, qL 22 p 0 M11 sln, qL 31 b1 0 M11 (.agg ⟨[(i64 (cellI N ns acc i 0)), (i64 (cellI N ns acc i 1)), (i64 (cellI N ns acc i 2)), (i64 (cellI N ns acc i 3)), (i64 (cellI N ns acc i 4))]⟩), .eq (abuildSlice Tryd.prog 22 1 [(0, (.agg ⟨[(i64 (cellI N ns acc i 0)), (i64 (cellI N ns acc i 1)), (i64 (cellI N ns acc i 2)), (i64 (cellI N ns acc i 3)), (i64 (cellI N ns acc i 4))]⟩))] M11) (1, .val (sli b19 0 1 2), M20), .q (.append [22, 22] sln (sli b19 0 1 2) M20) (1, .val (sli b30 0 1 1), M31), qS 22 p 0 (sli b30 0 1 1) M31 M42, qL 23 p 1 M42 sln, .q (.inb (IntKind.wrap .u64 (((i : Nat) : Int))) 64) (ansB true), qC 17 [(i64 (acc.fdiv (2 ^ (IntKind.wrap .u64 (((i : Nat) : Int))).toNat))), (i64 2)] (Mem.mk M42.blks M42.next (hides 60 [⟨5, 0, M42.next, M42.next⟩, ⟨4, 0, M42.next, M42.next⟩, ⟨3, 0, M42.next, M42.next⟩, ⟨2, 0, M42.next, M42.next⟩, ⟨1, 1, M42.next, M42.next⟩, ⟨0, 0, M42.next, M42.next⟩] ++ M42.hide) M42.log) (i64 (modI (acc.fdiv (2 ^ (IntKind.wrap .u64 (((i : Nat) : Int))).toNat)) 2)) M55, .eq (abuildSlice Tryd.prog 23 1 [(0, (.bool ((modI (acc.fdiv (2 ^ (IntKind.wrap .u64 (((i : Nat) : Int))).toNat)) 2) == (1 : Int))))] (Mem.mk M55.blks M55.next (hides 252 [⟨7, 0, M55.next, M55.next⟩, ⟨6, 1, M42.next, M55.next⟩, ⟨5, 0, M42.next, M42.next⟩, ⟨4, 0, M42.next, M42.next⟩, ⟨3, 0, M42.next, M42.next⟩, ⟨2, 0, M42.next, M42.next⟩, ⟨1, 1, M42.next, M42.next⟩, ⟨0, 0, M42.next, M42.next⟩] ++ M42.hide) M55.log)) (1, .val (sli b69 0 1 2), M70), .q (.append [23, 23] sln (sli b69 0 1 2) (Mem.mk M70.blks M70.next M42.hide M70.log)) (1, .val (sli b82 0 1 1), M83), qS 23 p 1 (sli b82 0 1 1) (Mem.mk M83.blks M83.next M42.hide M83.log) M96]) := by kernel_rfl
theorem r14n (p r6 i : Nat) (a : Option Addr) (c : Nat) (ns : List Int) (N acc : Int) (k6 : ABlk) {M : Mem} (hM : MemOk M) {M0 : Mem} (hs : FlatAt 1 M0 (.slice a ns.length c) (ns.map ([·]))) (X0 : Ext M0 M) (np : M0.next ≤ p) (hN : 1 ≤ N ∧ N ≤ 9) (hi : i < 9) (gp : M.get p = some ⟨[sln, sln], 25, 2, 0, true⟩) (g6 : M.get r6 = some k6) (dpr6 : p ≠ r6) (cc0 : (decide ((((i : Nat) : Int)) < N)) = true) : ∃ T1 M' b1 b2, Rd Tryd.prog [] (q14.loopAt 0) Tryd.f14.ntmps (fr [(1, (.slice a ns.length c)), (2, (i64 acc)), (6, (pt r6 0)), (7, (pt p 0)), (8, (i64 N)), (9, (i64 (((i : Nat) : Int))))]) M .normal T1 M' ∧ [1, 2, 6, 7, 8, 9].map T1.get = [some (.slice a ns.length c), some (i64 acc), some (pt r6 0), some (pt p 0), some (i64 N), some (i64 (IntKind.wrap .i64 ((((i : Nat) : Int)) + (1 : Int))))] ∧ Ext M0 M' ∧ MemOk M' ∧ M'.get p = some ⟨[(sli b1 0 1 1), (sli b2 0 1 1)], 25, 2, 0, true⟩ ∧ M'.get r6 = some k6 ∧ (M0.next ≤ b1 ∧ p ≠ b1 ∧ r6 ≠ b1 ∧ M'.get b1 = some ⟨[(i64 (cellI N ns acc i 0)), (i64 (cellI N ns acc i 1)), (i64 (cellI N ns acc i 2)), (i64 (cellI N ns acc i 3)), (i64 (cellI N ns acc i 4))], 31, 5, 0, true⟩) ∧ (M0.next ≤ b2 ∧ p ≠ b2 ∧ r6 ≠ b2 ∧ M'.get b2 = some ⟨[(.bool ((modI (acc.fdiv (2 ^ (IntKind.wrap .u64 (((i : Nat) : Int))).toNat)) 2) == (1 : Int)))], 4, 1, 0, true⟩) ∧ b1 ≠ b2 := by
  obtain ⟨b1, M2, eb3, em4, g5, E6, hM7⟩ := new_t hM ⟨[(i64 0), (i64 0), (i64 0), (i64 0), (i64 0)], 31, 1, 0, true⟩
  have nb1 : M0.next ≤ b1 := by rw [← eb3]; exact X0.next
  have dpb1 : p ≠ b1 := by have := Mem.lt_of_get gp; omega
  have dr6b1 : r6 ≠ b1 := by have := Mem.lt_of_get g6; omega
  have g8 := E6.old gp
  have g9 := E6.old g6
  have X10 := X0.trans E6
  obtain ⟨M11, hL12, E13, hM14, g15, kp16⟩ := inner14 r6 p b1 i a c ns N acc 0 0 0 0 0 hM7 hs X10 nb1 hN (by omega) g5
  have g17 := kp16 _ _ g8 (by first | exact dpb1 | exact Ne.symm db1p)
  have g18 := kp16 _ _ g9 (by first | exact dr6b1 | exact Ne.symm db1r6)
  obtain ⟨b19, M20, eb21, em22, g23, E24, hM25⟩ := new_t hM14 ⟨[(i64 (cellI N ns acc i 0)), (i64 (cellI N ns acc i 1)), (i64 (cellI N ns acc i 2)), (i64 (cellI N ns acc i 3)), (i64 (cellI N ns acc i 4))], 31, 5, 0, true⟩
  have nb19 : M0.next ≤ b19 := by rw [← eb21]; exact E13.next
  have dpb19 : p ≠ b19 := by have := Mem.lt_of_get g17; omega
  have dr6b19 : r6 ≠ b19 := by have := Mem.lt_of_get g18; omega
  have db1b19 : b1 ≠ b19 := by have := Mem.lt_of_get g15; omega
  have g26 := E24.old g17
  have g27 := E24.old g18
  have g28 := E24.old g15
  have X29 := E13.trans E24
  obtain ⟨b30, M31, eb32, em33, g34, E36, hM35⟩ := new_t hM25 ⟨[(i64 (cellI N ns acc i 0)), (i64 (cellI N ns acc i 1)), (i64 (cellI N ns acc i 2)), (i64 (cellI N ns acc i 3)), (i64 (cellI N ns acc i 4))], 31, 5, 0, true⟩
  have nb30 : M0.next ≤ b30 := by rw [← eb32]; exact X29.next
  have dpb30 : p ≠ b30 := by have := Mem.lt_of_get g26; omega
  have dr6b30 : r6 ≠ b30 := by have := Mem.lt_of_get g27; omega
  have db1b30 : b1 ≠ b30 := by have := Mem.lt_of_get g28; omega
  have db19b30 : b19 ≠ b30 := by have := Mem.lt_of_get g23; omega
  have g37 := E36.old g26
  have g38 := E36.old g27
  have g39 := E36.old g28
  have g40 := E36.old g23
  have X41 := X29.trans E36
  obtain ⟨M42, q43, g44, kp45, X46, hM47, nx48⟩ := store_t (o := 0) (v := (sli b30 0 1 1)) (new := [(sli b30 0 1 1), sln]) X41 np hM35 dS22 g37 rfl rfl (Nat.zero_le _) (Nat.le_of_ble_eq_true rfl) rfl
  replace g44 : M42.get p = some ⟨[(sli b30 0 1 1), sln], 25, 2, 0, true⟩ := g44
  have g49 := (kp45 _ (Ne.symm dpr6)).trans g38
  have g50 := (kp45 _ (Ne.symm dpb1)).trans g39
  have g51 := (kp45 _ (Ne.symm dpb19)).trans g40
  have g52 := (kp45 _ (Ne.symm dpb30)).trans g34
  obtain ⟨w53, N54, M55, p56, l57, e58, E59, hM60, Q61, G62⟩ := call_t (P := Tryd.prog) (GL := []) (f := 17) hM47 (con17 (acc.fdiv (2 ^ (IntKind.wrap .u64 (((i : Nat) : Int))).toNat)) 2 (by decide))
  have g63 := E59.old g44
  have g64 := E59.old g49
  have g65 := E59.old g50
  have g66 := E59.old g51
  have g67 := E59.old g52
  have ew53 : w53 = (i64 (modI (acc.fdiv (2 ^ (IntKind.wrap .u64 (((i : Nat) : Int))).toNat)) 2)) := (Option.some.inj Q61.1).symm
  subst ew53
  have nxM55 : M55.next = M42.next := by rw [← e58]; exact Q61.2
  have X68 := X46.trans E59
  obtain ⟨b69, M70, eb71, em72, g73, E74, hM75⟩ := new_t hM60 ⟨[(.bool ((modI (acc.fdiv (2 ^ (IntKind.wrap .u64 (((i : Nat) : Int))).toNat)) 2) == (1 : Int)))], 4, 1, 0, true⟩
  have nb69 : M0.next ≤ b69 := by rw [← eb71]; exact X68.next
  have dpb69 : p ≠ b69 := by have := Mem.lt_of_get g63; omega
  have dr6b69 : r6 ≠ b69 := by have := Mem.lt_of_get g64; omega
  have db1b69 : b1 ≠ b69 := by have := Mem.lt_of_get g65; omega
  have db19b69 : b19 ≠ b69 := by have := Mem.lt_of_get g66; omega
  have db30b69 : b30 ≠ b69 := by have := Mem.lt_of_get g67; omega
  have g76 := E74.old g63
  have g77 := E74.old g64
  have g78 := E74.old g65
  have g79 := E74.old g66
  have g80 := E74.old g67
  have X81 := X68.trans E74
  obtain ⟨b82, M83, eb84, em85, g86, E88, hM87⟩ := new_t hM75 ⟨[(.bool ((modI (acc.fdiv (2 ^ (IntKind.wrap .u64 (((i : Nat) : Int))).toNat)) 2) == (1 : Int)))], 4, 1, 0, true⟩
  have nb82 : M0.next ≤ b82 := by rw [← eb84]; exact X81.next
  have dpb82 : p ≠ b82 := by have := Mem.lt_of_get g76; omega
  have dr6b82 : r6 ≠ b82 := by have := Mem.lt_of_get g77; omega
  have db1b82 : b1 ≠ b82 := by have := Mem.lt_of_get g78; omega
  have db19b82 : b19 ≠ b82 := by have := Mem.lt_of_get g79; omega
  have db30b82 : b30 ≠ b82 := by have := Mem.lt_of_get g80; omega
  have db69b82 : b69 ≠ b82 := by have := Mem.lt_of_get g73; omega
  have g89 := E88.old g76
  have g90 := E88.old g77
  have g91 := E88.old g78
  have g92 := E88.old g79
  have g93 := E88.old g80
  have g94 := E88.old g73
  have X95 := X81.trans E88
  obtain ⟨M96, q97, g98, kp99, X100, hM101, nx102⟩ := store_t (o := 1) (v := (sli b82 0 1 1)) (new := [(sli b30 0 1 1), (sli b82 0 1 1)]) X95 np hM87 dS23 g89 rfl rfl (Nat.zero_le _) (Nat.le_of_ble_eq_true rfl) rfl
  replace g98 : M96.get p = some ⟨[(sli b30 0 1 1), (sli b82 0 1 1)], 25, 2, 0, true⟩ := g98
  have g103 := (kp99 _ (Ne.symm dpr6)).trans g90
  have g104 := (kp99 _ (Ne.symm dpb1)).trans g91
  have g105 := (kp99 _ (Ne.symm dpb19)).trans g92
  have g106 := (kp99 _ (Ne.symm dpb30)).trans g93
  have g107 := (kp99 _ (Ne.symm dpb69)).trans g94
  have g108 := (kp99 _ (Ne.symm dpb82)).trans g86
  have hraw := r14n_raw p r6 i a c ns N acc k6 M b1 M2 M11 b19 M20 b30 M31 M42 M55 b69 M70 b82 M83 M96
  have rw0 : Mem.mk M42.blks M42.next (hides 0 [⟨1, 1, M42.next, M42.next⟩, ⟨0, 0, M42.next, M42.next⟩] ++ M42.hide) M42.log = M42 := by rw [show hides 0 [⟨1, 1, M42.next, M42.next⟩, ⟨0, 0, M42.next, M42.next⟩] = [] from by simp [hides, Nat.beq_refl, show Nat.beq 1 0 = false from rfl]]; rfl
  have rw1 : Mem.mk M42.blks M42.next (hides 0 [⟨2, 0, M42.next, M42.next⟩, ⟨1, 1, M42.next, M42.next⟩, ⟨0, 0, M42.next, M42.next⟩] ++ M42.hide) M42.log = M42 := by rw [show hides 0 [⟨2, 0, M42.next, M42.next⟩, ⟨1, 1, M42.next, M42.next⟩, ⟨0, 0, M42.next, M42.next⟩] = [] from by simp [hides, Nat.beq_refl, show Nat.beq 1 0 = false from rfl]]; rfl
  have rw2 : Mem.mk M42.blks M42.next (hides 8 [⟨3, 0, M42.next, M42.next⟩, ⟨2, 0, M42.next, M42.next⟩, ⟨1, 1, M42.next, M42.next⟩, ⟨0, 0, M42.next, M42.next⟩] ++ M42.hide) M42.log = M42 := by rw [show hides 8 [⟨3, 0, M42.next, M42.next⟩, ⟨2, 0, M42.next, M42.next⟩, ⟨1, 1, M42.next, M42.next⟩, ⟨0, 0, M42.next, M42.next⟩] = [] from by simp [hides, Nat.beq_refl, show Nat.beq 1 0 = false from rfl]]; rfl
  have rw3 : Mem.mk M42.blks M42.next (hides 28 [⟨4, 0, M42.next, M42.next⟩, ⟨3, 0, M42.next, M42.next⟩, ⟨2, 0, M42.next, M42.next⟩, ⟨1, 1, M42.next, M42.next⟩, ⟨0, 0, M42.next, M42.next⟩] ++ M42.hide) M42.log = M42 := by rw [show hides 28 [⟨4, 0, M42.next, M42.next⟩, ⟨3, 0, M42.next, M42.next⟩, ⟨2, 0, M42.next, M42.next⟩, ⟨1, 1, M42.next, M42.next⟩, ⟨0, 0, M42.next, M42.next⟩] = [] from by simp [hides, Nat.beq_refl, show Nat.beq 1 0 = false from rfl]]; rfl
  have rw4 : Mem.mk M42.blks M42.next (hides 60 [⟨5, 0, M42.next, M42.next⟩, ⟨4, 0, M42.next, M42.next⟩, ⟨3, 0, M42.next, M42.next⟩, ⟨2, 0, M42.next, M42.next⟩, ⟨1, 1, M42.next, M42.next⟩, ⟨0, 0, M42.next, M42.next⟩] ++ M42.hide) M42.log = M42 := by rw [show hides 60 [⟨5, 0, M42.next, M42.next⟩, ⟨4, 0, M42.next, M42.next⟩, ⟨3, 0, M42.next, M42.next⟩, ⟨2, 0, M42.next, M42.next⟩, ⟨1, 1, M42.next, M42.next⟩, ⟨0, 0, M42.next, M42.next⟩] = [] from by simp [hides, Nat.beq_refl, show Nat.beq 1 0 = false from rfl]]; rfl
  have rw5 : Mem.mk M55.blks M55.next M42.hide M55.log = M55 := by rw [(show M42.hide = M55.hide from ((X46).hide.trans (X68).hide.symm))]
  have rw6 : Mem.mk M55.blks M55.next (hides 124 [⟨6, 1, M42.next, M55.next⟩, ⟨5, 0, M42.next, M42.next⟩, ⟨4, 0, M42.next, M42.next⟩, ⟨3, 0, M42.next, M42.next⟩, ⟨2, 0, M42.next, M42.next⟩, ⟨1, 1, M42.next, M42.next⟩, ⟨0, 0, M42.next, M42.next⟩] ++ M42.hide) M55.log = M55 := by rw [show hides 124 [⟨6, 1, M42.next, M55.next⟩, ⟨5, 0, M42.next, M42.next⟩, ⟨4, 0, M42.next, M42.next⟩, ⟨3, 0, M42.next, M42.next⟩, ⟨2, 0, M42.next, M42.next⟩, ⟨1, 1, M42.next, M42.next⟩, ⟨0, 0, M42.next, M42.next⟩] = [] from by simp [hides, Nat.beq_refl, nxM55, show Nat.beq 1 0 = false from rfl, show Nat.testBit 124 6 = true from rfl], (show M42.hide = M55.hide from ((X46).hide.trans (X68).hide.symm))]; rfl
  have rw7 : Mem.mk M55.blks M55.next (hides 252 [⟨7, 0, M55.next, M55.next⟩, ⟨6, 1, M42.next, M55.next⟩, ⟨5, 0, M42.next, M42.next⟩, ⟨4, 0, M42.next, M42.next⟩, ⟨3, 0, M42.next, M42.next⟩, ⟨2, 0, M42.next, M42.next⟩, ⟨1, 1, M42.next, M42.next⟩, ⟨0, 0, M42.next, M42.next⟩] ++ M42.hide) M55.log = M55 := by rw [show hides 252 [⟨7, 0, M55.next, M55.next⟩, ⟨6, 1, M42.next, M55.next⟩, ⟨5, 0, M42.next, M42.next⟩, ⟨4, 0, M42.next, M42.next⟩, ⟨3, 0, M42.next, M42.next⟩, ⟨2, 0, M42.next, M42.next⟩, ⟨1, 1, M42.next, M42.next⟩, ⟨0, 0, M42.next, M42.next⟩] = [] from by simp [hides, Nat.beq_refl, nxM55, show Nat.beq 1 0 = false from rfl, show Nat.testBit 252 6 = true from rfl], (show M42.hide = M55.hide from ((X46).hide.trans (X68).hide.symm))]; rfl
  have rw8 : Mem.mk M70.blks M70.next M42.hide M70.log = M70 := by rw [(show M42.hide = M70.hide from ((X46).hide.trans (X81).hide.symm))]
  have rw9 : Mem.mk M83.blks M83.next M42.hide M83.log = M83 := by rw [(show M42.hide = M83.hide from ((X46).hide.trans (X95).hide.symm))]
  have rw10 : Mem.mk M96.blks M96.next M42.hide M96.log = M96 := by rw [(show M42.hide = M96.hide from ((X46).hide.trans (X100).hide.symm))]
  try rw [rw0] at hraw
  try rw [rw1] at hraw
  try rw [rw2] at hraw
  try rw [rw3] at hraw
  try rw [rw4] at hraw
  try rw [rw5] at hraw
  try rw [rw6] at hraw
  try rw [rw7] at hraw
  try rw [rw8] at hraw
  try rw [rw9] at hraw
  try rw [rw10] at hraw
  obtain ⟨T1, h1, h2⟩ := Rd.told noNumP mixedP (fun B => specsB_ok (hS14_17 B) (k := [(2, bone (.loop (q14.loopAt 2)) Tryd.f14.ntmps [1, 2, 6, 7, 8, 9, 10, 11] [some (.slice a ns.length c), some (i64 acc), some (pt r6 0), some (pt p 0), some (i64 N), some (i64 (((i : Nat) : Int))), some (pt b1 0), some (i64 0)] M2 .normal (fr [(1, (.slice a ns.length c)), (2, (i64 acc)), (6, (pt r6 0)), (7, (pt p 0)), (8, (i64 N)), (9, (i64 (((i : Nat) : Int)))), (10, (pt b1 0))]) M11)]) (fun p hp => by simp only [List.mem_cons, List.not_mem_nil, or_false] at hp; rcases hp with rfl <;> first | exact BlkOk.loop noNumP mixedP hL12)) (fun _ h => blksF_one h) hraw (hk (bT cc0) (hk (q_eq (by rw [← eb3, ← em4]; kernel_rfl) Nat.one_ne_zero) (hk (q_blk rfl) (hk (lC dC22 g17 rfl) (hk (lA ⟨dA31, dS31⟩ g15 rfl) (hk (q_eq (by rw [← eb21, ← em22]; kernel_rfl) Nat.one_ne_zero) (hk (q_app (by rw [← eb32, ← em33]; exact append_nil (w := 5) (by kernel_rfl) (by kernel_rfl) (y := 40) (by kernel_rfl) (by decide) (by decide) g23 rfl rfl rfl) Nat.one_ne_zero) (hk (q_st q43) (hk (lC dC23 g44 rfl) (hk (q_inb (by rw [u64_small (by omega)]; omega) (by rw [u64_small (by omega)]; omega)) (hk (q_call rfl p56 l57 e58) (hk (q_eq (by rw [← eb71, ← em72]; kernel_rfl) Nat.one_ne_zero) (hk (q_app (by rw [← eb84, ← em85]; exact append_nil (w := 1) (by kernel_rfl) (by kernel_rfl) (y := 1) (by kernel_rfl) (by decide) (by decide) g73 rfl rfl rfl) Nat.one_ne_zero) (hk (q_st q97) hn))))))))))))))
  exact ⟨T1, M96, b30, b82, h1, h2, X100, hM101, g98, g103, ⟨nb30, dpb30, dr6b30, g106⟩, ⟨nb82, dpb82, dr6b82, g108⟩, db30b82⟩
theorem r14x_raw (p r6 i : Nat) (a : Option Addr) (q c : Nat) (N acc : Int) (M : Mem) : oR Tryd.prog [] 40 Tryd.f14 (q14.loopAt 0) [(1, (.slice a q c)), (2, (i64 acc)), (6, (pt r6 0)), (7, (pt p 0)), (8, (i64 N)), (9, (i64 (((i : Nat) : Int))))] M [ttF 6] [6, 7] = some ((.exit 0), [some (pt r6 0), some (pt p 0)], M, [qF (decide ((((i : Nat) : Int)) < N))]) := by kernel_rfl
theorem r14x (p r6 i : Nat) (a : Option Addr) (q c : Nat) (N acc : Int) {M : Mem} (cc0 : (decide ((((i : Nat) : Int)) < N)) = false) : ∃ T1, Rd Tryd.prog [] (q14.loopAt 0) Tryd.f14.ntmps (fr [(1, (.slice a q c)), (2, (i64 acc)), (6, (pt r6 0)), (7, (pt p 0)), (8, (i64 N)), (9, (i64 (((i : Nat) : Int))))]) M (.exit 0) T1 M ∧ [6, 7].map T1.get = [some (pt r6 0), some (pt p 0)] := by
  obtain ⟨T1, h1, h2⟩ := Rd.told noNumP mixedP (specs_none Tryd.prog) (fun _ _ => rfl) (r14x_raw p r6 i a q c N acc M) (hk (bF cc0) hn)
  exact ⟨T1, h1, h2⟩
theorem r14s_raw (p r6 i : Nat) (a : Option Addr) (c : Nat) (ns : List Int) (N acc : Int) (_ : ABlk) (bs bf : Nat) (_ _ : List Value) (M : Mem) (b1 : Nat) (M2 : Mem) (M13 : Mem) (b23 : Nat) (M24 : Mem) (b38 : Nat) (M39 : Mem) (M49 : Mem) (M63 : Mem) (b78 : Nat) (M79 : Mem) (b94 : Nat) (M95 : Mem) (M106 : Mem) : oR Tryd.prog [2] 60 Tryd.f14 (q14.loopAt 0) [(1, (.slice a ns.length c)), (2, (i64 acc)), (6, (pt r6 0)), (7, (pt p 0)), (8, (i64 N)), (9, (i64 (((i : Nat) : Int))))] M [ttT 6, ttV 8 (pt b1 0) M2, .blk 11 [1, 2, 6, 7, 8, 9, 10, 11] .normal (fr [(1, (.slice a ns.length c)), (2, (i64 acc)), (6, (pt r6 0)), (7, (pt p 0)), (8, (i64 N)), (9, (i64 (((i : Nat) : Int)))), (10, (pt b1 0))]) M13, ttL 15 (sli bs 0 i i), ttL 17 (.agg ⟨[(i64 (cellI N ns acc i 0)), (i64 (cellI N ns acc i 1)), (i64 (cellI N ns acc i 2)), (i64 (cellI N ns acc i 3)), (i64 (cellI N ns acc i 4))]⟩), ttV 19 (sli b23 0 1 2) M24, .at 21 (2, .val (sli b38 0 (i + 1) (i + 1)), M39), ttS 25 M49, ttL 29 (sli bf 0 i i), ttT 37, ttV 39 (i64 (modI (acc.fdiv (2 ^ (IntKind.wrap .u64 (((i : Nat) : Int))).toNat)) 2)) M63, ttV 43 (sli b78 0 1 2) M79, .at 45 (2, .val (sli b94 0 (i + 1) (i + 1)), M95), ttS 49 M106] [1, 2, 6, 7, 8, 9] = some (.normal, [some (.slice a ns.length c), some (i64 acc), some (pt r6 0), some (pt p 0), some (i64 N), some (i64 (IntKind.wrap .i64 ((((i : Nat) : Int)) + (1 : Int))))], (Mem.mk M106.blks M106.next M49.hide M106.log), [qT (decide ((((i : Nat) : Int)) < N)), .eq (aalloc Tryd.prog 31 M) (1, .val (pt b1 0), M2), .blk 2 (.loop (q14.loopAt 2)) Tryd.f14.ntmps [1, 2, 6, 7, 8, 9, 10, 11] [some (.slice a ns.length c), some (i64 acc), some (pt r6 0), some (pt p 0), some (i64 N), some (i64 (((i : Nat) : Int))), some (pt b1 0), some (i64 0)] M2 .normal (fr [(1, (.slice a ns.length c)), (2, (i64 acc)), (6, (pt r6 0)), (7, (pt p 0)), (8, (i64 N)), (9, (i64 (((i : Nat) : Int)))), (10, (pt b1 0))]) M13, qL 22 p 0 M13 (sli bs 0 i i), qL 31 b1 0 M13 (.agg ⟨[(i64 (cellI N ns acc i 0)), (i64 (cellI N ns acc i 1)), (i64 (cellI N ns acc i 2)), (i64 (cellI N ns acc i 3)), (i64 (cellI N ns acc i 4))]⟩), .eq (abuildSlice Tryd.prog 22 1 [(0, (.agg ⟨[(i64 (cellI N ns acc i 0)), (i64 (cellI N ns acc i 1)), (i64 (cellI N ns acc i 2)), (i64 (cellI N ns acc i 3)), (i64 (cellI N ns acc i 4))]⟩))] M13) (1, .val (sli b23 0 1 2), M24), .q (.append [22, 22] (sli bs 0 i i) (sli b23 0 1 2) M24) (2, .val (sli b38 0 (i + 1) (i + 1)), M39), qS 22 p 0 (sli b38 0 (i + 1) (i + 1)) M39 M49, qL 23 p 1 M49 (sli bf 0 i i), .q (.inb (IntKind.wrap .u64 (((i : Nat) : Int))) 64) (ansB true), qC 17 [(i64 (acc.fdiv (2 ^ (IntKind.wrap .u64 (((i : Nat) : Int))).toNat))), (i64 2)] (Mem.mk M49.blks M49.next (hides 60 [⟨5, 0, M49.next, M49.next⟩, ⟨4, 0, M49.next, M49.next⟩, ⟨3, 0, M49.next, M49.next⟩, ⟨2, 0, M49.next, M49.next⟩, ⟨1, 1, M49.next, M49.next⟩, ⟨0, 0, M49.next, M49.next⟩] ++ M49.hide) M49.log) (i64 (modI (acc.fdiv (2 ^ (IntKind.wrap .u64 (((i : Nat) : Int))).toNat)) 2)) M63, .eq (abuildSlice Tryd.prog 23 1 [(0, (.bool ((modI (acc.fdiv (2 ^ (IntKind.wrap .u64 (((i : Nat) : Int))).toNat)) 2) == (1 : Int))))] (Mem.mk M63.blks M63.next (hides 252 [⟨7, 0, M63.next, M63.next⟩, ⟨6, 1, M49.next, M63.next⟩, ⟨5, 0, M49.next, M49.next⟩, ⟨4, 0, M49.next, M49.next⟩, ⟨3, 0, M49.next, M49.next⟩, ⟨2, 0, M49.next, M49.next⟩, ⟨1, 1, M49.next, M49.next⟩, ⟨0, 0, M49.next, M49.next⟩] ++ M49.hide) M63.log)) (1, .val (sli b78 0 1 2), M79), .q (.append [23, 23] (sli bf 0 i i) (sli b78 0 1 2) (Mem.mk M79.blks M79.next M49.hide M79.log)) (2, .val (sli b94 0 (i + 1) (i + 1)), M95), qS 23 p 1 (sli b94 0 (i + 1) (i + 1)) (Mem.mk M95.blks M95.next M49.hide M95.log) M106]) := by kernel_rfl
theorem r14s (p r6 i : Nat) (a : Option Addr) (c : Nat) (ns : List Int) (N acc : Int) (k6 : ABlk) (bs bf : Nat) (cs cf : List Value) {M : Mem} (hM : MemOk M) {M0 : Mem} (hs : FlatAt 1 M0 (.slice a ns.length c) (ns.map ([·]))) (X0 : Ext M0 M) (np : M0.next ≤ p) (hN : 1 ≤ N ∧ N ≤ 9) (hi : i < 9) (gp : M.get p = some ⟨[(sli bs 0 i i), (sli bf 0 i i)], 25, 2, 0, true⟩) (g6 : M.get r6 = some k6) (dpr6 : p ≠ r6) (nbs : M0.next ≤ bs) (gs : M.get bs = some ⟨cs, 31, 5, 0, true⟩) (dpbs : p ≠ bs) (dr6bs : r6 ≠ bs) (hcs : cs.length = i * 5) (nbf : M0.next ≤ bf) (gf : M.get bf = some ⟨cf, 4, 1, 0, true⟩) (dpbf : p ≠ bf) (dr6bf : r6 ≠ bf) (hcf : cf.length = i * 1) (dbsbf : bs ≠ bf) (cc0 : (decide ((((i : Nat) : Int)) < N)) = true) : ∃ T1 M' b1 b2, Rd Tryd.prog [] (q14.loopAt 0) Tryd.f14.ntmps (fr [(1, (.slice a ns.length c)), (2, (i64 acc)), (6, (pt r6 0)), (7, (pt p 0)), (8, (i64 N)), (9, (i64 (((i : Nat) : Int))))]) M .normal T1 M' ∧ [1, 2, 6, 7, 8, 9].map T1.get = [some (.slice a ns.length c), some (i64 acc), some (pt r6 0), some (pt p 0), some (i64 N), some (i64 (IntKind.wrap .i64 ((((i : Nat) : Int)) + (1 : Int))))] ∧ Ext M0 M' ∧ MemOk M' ∧ M'.get p = some ⟨[(sli b1 0 (i + 1) (i + 1)), (sli b2 0 (i + 1) (i + 1))], 25, 2, 0, true⟩ ∧ M'.get r6 = some k6 ∧ (M0.next ≤ b1 ∧ p ≠ b1 ∧ r6 ≠ b1 ∧ M'.get b1 = some ⟨cs ++ [(i64 (cellI N ns acc i 0)), (i64 (cellI N ns acc i 1)), (i64 (cellI N ns acc i 2)), (i64 (cellI N ns acc i 3)), (i64 (cellI N ns acc i 4))], 31, 5, 0, true⟩) ∧ (M0.next ≤ b2 ∧ p ≠ b2 ∧ r6 ≠ b2 ∧ M'.get b2 = some ⟨cf ++ [(.bool ((modI (acc.fdiv (2 ^ (IntKind.wrap .u64 (((i : Nat) : Int))).toNat)) 2) == (1 : Int)))], 4, 1, 0, true⟩) ∧ b1 ≠ b2 := by
  obtain ⟨b1, M2, eb3, em4, g5, E6, hM7⟩ := new_t hM ⟨[(i64 0), (i64 0), (i64 0), (i64 0), (i64 0)], 31, 1, 0, true⟩
  have nb1 : M0.next ≤ b1 := by rw [← eb3]; exact X0.next
  have dpb1 : p ≠ b1 := by have := Mem.lt_of_get gp; omega
  have dr6b1 : r6 ≠ b1 := by have := Mem.lt_of_get g6; omega
  have dbsb1 : bs ≠ b1 := by have := Mem.lt_of_get gs; omega
  have dbfb1 : bf ≠ b1 := by have := Mem.lt_of_get gf; omega
  have g8 := E6.old gp
  have g9 := E6.old g6
  have g10 := E6.old gs
  have g11 := E6.old gf
  have X12 := X0.trans E6
  obtain ⟨M13, hL14, E15, hM16, g17, kp18⟩ := inner14 r6 p b1 i a c ns N acc 0 0 0 0 0 hM7 hs X12 nb1 hN (by omega) g5
  have g19 := kp18 _ _ g8 (by first | exact dpb1 | exact Ne.symm db1p)
  have g20 := kp18 _ _ g9 (by first | exact dr6b1 | exact Ne.symm db1r6)
  have g21 := kp18 _ _ g10 (by first | exact dbsb1 | exact Ne.symm db1bs)
  have g22 := kp18 _ _ g11 (by first | exact dbfb1 | exact Ne.symm db1bf)
  obtain ⟨b23, M24, eb25, em26, g27, E28, hM29⟩ := new_t hM16 ⟨[(i64 (cellI N ns acc i 0)), (i64 (cellI N ns acc i 1)), (i64 (cellI N ns acc i 2)), (i64 (cellI N ns acc i 3)), (i64 (cellI N ns acc i 4))], 31, 5, 0, true⟩
  have nb23 : M0.next ≤ b23 := by rw [← eb25]; exact E15.next
  have dpb23 : p ≠ b23 := by have := Mem.lt_of_get g19; omega
  have dr6b23 : r6 ≠ b23 := by have := Mem.lt_of_get g20; omega
  have dbsb23 : bs ≠ b23 := by have := Mem.lt_of_get g21; omega
  have dbfb23 : bf ≠ b23 := by have := Mem.lt_of_get g22; omega
  have db1b23 : b1 ≠ b23 := by have := Mem.lt_of_get g17; omega
  have g30 := E28.old g19
  have g31 := E28.old g20
  have g32 := E28.old g21
  have g33 := E28.old g22
  have g34 := E28.old g17
  have X35 := E15.trans E28
  obtain ⟨b38, M39, eb40, em41, g42, X37, hM43, kp36⟩ := grow_t X35 nbs hM29 ⟨cs ++ [(i64 (cellI N ns acc i 0)), (i64 (cellI N ns acc i 1)), (i64 (cellI N ns acc i 2)), (i64 (cellI N ns acc i 3)), (i64 (cellI N ns acc i 4))], 31, 5, 0, true⟩
  have nb38 : M0.next ≤ b38 := by rw [← eb40]; exact X35.next
  have dpb38 : p ≠ b38 := by have := Mem.lt_of_get g30; omega
  have dr6b38 : r6 ≠ b38 := by have := Mem.lt_of_get g31; omega
  have dbsb38 : bs ≠ b38 := by have := Mem.lt_of_get g32; omega
  have dbfb38 : bf ≠ b38 := by have := Mem.lt_of_get g33; omega
  have db1b38 : b1 ≠ b38 := by have := Mem.lt_of_get g34; omega
  have db23b38 : b23 ≠ b38 := by have := Mem.lt_of_get g27; omega
  have g44 := (kp36 _ dpbs (Mem.lt_of_get g30)).trans g30
  have g45 := (kp36 _ dr6bs (Mem.lt_of_get g31)).trans g31
  have g46 := (kp36 _ (Ne.symm dbsbf) (Mem.lt_of_get g33)).trans g33
  have g47 := (kp36 _ (Ne.symm dbsb1) (Mem.lt_of_get g34)).trans g34
  have g48 := (kp36 _ (Ne.symm dbsb23) (Mem.lt_of_get g27)).trans g27
  obtain ⟨M49, q50, g51, kp52, X53, hM54, nx55⟩ := store_t (o := 0) (v := (sli b38 0 (i + 1) (i + 1))) (new := [(sli b38 0 (i + 1) (i + 1)), (sli bf 0 i i)]) X37 np hM43 dS22 g44 rfl rfl (Nat.zero_le _) (Nat.le_of_ble_eq_true rfl) rfl
  replace g51 : M49.get p = some ⟨[(sli b38 0 (i + 1) (i + 1)), (sli bf 0 i i)], 25, 2, 0, true⟩ := g51
  have g56 := (kp52 _ (Ne.symm dpr6)).trans g45
  have g57 := (kp52 _ (Ne.symm dpbf)).trans g46
  have g58 := (kp52 _ (Ne.symm dpb1)).trans g47
  have g59 := (kp52 _ (Ne.symm dpb23)).trans g48
  have g60 := (kp52 _ (Ne.symm dpb38)).trans g42
  obtain ⟨w61, N62, M63, p64, l65, e66, E67, hM68, Q69, G70⟩ := call_t (P := Tryd.prog) (GL := []) (f := 17) hM54 (con17 (acc.fdiv (2 ^ (IntKind.wrap .u64 (((i : Nat) : Int))).toNat)) 2 (by decide))
  have g71 := E67.old g51
  have g72 := E67.old g56
  have g73 := E67.old g57
  have g74 := E67.old g58
  have g75 := E67.old g59
  have g76 := E67.old g60
  have ew61 : w61 = (i64 (modI (acc.fdiv (2 ^ (IntKind.wrap .u64 (((i : Nat) : Int))).toNat)) 2)) := (Option.some.inj Q69.1).symm
  subst ew61
  have nxM63 : M63.next = M49.next := by rw [← e66]; exact Q69.2
  have X77 := X53.trans E67
  obtain ⟨b78, M79, eb80, em81, g82, E83, hM84⟩ := new_t hM68 ⟨[(.bool ((modI (acc.fdiv (2 ^ (IntKind.wrap .u64 (((i : Nat) : Int))).toNat)) 2) == (1 : Int)))], 4, 1, 0, true⟩
  have nb78 : M0.next ≤ b78 := by rw [← eb80]; exact X77.next
  have dpb78 : p ≠ b78 := by have := Mem.lt_of_get g71; omega
  have dr6b78 : r6 ≠ b78 := by have := Mem.lt_of_get g72; omega
  have dbfb78 : bf ≠ b78 := by have := Mem.lt_of_get g73; omega
  have db1b78 : b1 ≠ b78 := by have := Mem.lt_of_get g74; omega
  have db23b78 : b23 ≠ b78 := by have := Mem.lt_of_get g75; omega
  have db38b78 : b38 ≠ b78 := by have := Mem.lt_of_get g76; omega
  have g85 := E83.old g71
  have g86 := E83.old g72
  have g87 := E83.old g73
  have g88 := E83.old g74
  have g89 := E83.old g75
  have g90 := E83.old g76
  have X91 := X77.trans E83
  obtain ⟨b94, M95, eb96, em97, g98, X93, hM99, kp92⟩ := grow_t X91 nbf hM84 ⟨cf ++ [(.bool ((modI (acc.fdiv (2 ^ (IntKind.wrap .u64 (((i : Nat) : Int))).toNat)) 2) == (1 : Int)))], 4, 1, 0, true⟩
  have nb94 : M0.next ≤ b94 := by rw [← eb96]; exact X91.next
  have dpb94 : p ≠ b94 := by have := Mem.lt_of_get g85; omega
  have dr6b94 : r6 ≠ b94 := by have := Mem.lt_of_get g86; omega
  have dbfb94 : bf ≠ b94 := by have := Mem.lt_of_get g87; omega
  have db1b94 : b1 ≠ b94 := by have := Mem.lt_of_get g88; omega
  have db23b94 : b23 ≠ b94 := by have := Mem.lt_of_get g89; omega
  have db38b94 : b38 ≠ b94 := by have := Mem.lt_of_get g90; omega
  have db78b94 : b78 ≠ b94 := by have := Mem.lt_of_get g82; omega
  have g100 := (kp92 _ dpbf (Mem.lt_of_get g85)).trans g85
  have g101 := (kp92 _ dr6bf (Mem.lt_of_get g86)).trans g86
  have g102 := (kp92 _ (Ne.symm dbfb1) (Mem.lt_of_get g88)).trans g88
  have g103 := (kp92 _ (Ne.symm dbfb23) (Mem.lt_of_get g89)).trans g89
  have g104 := (kp92 _ (Ne.symm dbfb38) (Mem.lt_of_get g90)).trans g90
  have g105 := (kp92 _ (Ne.symm dbfb78) (Mem.lt_of_get g82)).trans g82
  obtain ⟨M106, q107, g108, kp109, X110, hM111, nx112⟩ := store_t (o := 1) (v := (sli b94 0 (i + 1) (i + 1))) (new := [(sli b38 0 (i + 1) (i + 1)), (sli b94 0 (i + 1) (i + 1))]) X93 np hM99 dS23 g100 rfl rfl (Nat.zero_le _) (Nat.le_of_ble_eq_true rfl) rfl
  replace g108 : M106.get p = some ⟨[(sli b38 0 (i + 1) (i + 1)), (sli b94 0 (i + 1) (i + 1))], 25, 2, 0, true⟩ := g108
  have g113 := (kp109 _ (Ne.symm dpr6)).trans g101
  have g114 := (kp109 _ (Ne.symm dpb1)).trans g102
  have g115 := (kp109 _ (Ne.symm dpb23)).trans g103
  have g116 := (kp109 _ (Ne.symm dpb38)).trans g104
  have g117 := (kp109 _ (Ne.symm dpb78)).trans g105
  have g118 := (kp109 _ (Ne.symm dpb94)).trans g98
  have hraw := r14s_raw p r6 i a c ns N acc k6 bs bf cs cf M b1 M2 M13 b23 M24 b38 M39 M49 M63 b78 M79 b94 M95 M106
  have rw0 : Mem.mk M49.blks M49.next (hides 0 [⟨1, 1, M49.next, M49.next⟩, ⟨0, 0, M49.next, M49.next⟩] ++ M49.hide) M49.log = M49 := by rw [show hides 0 [⟨1, 1, M49.next, M49.next⟩, ⟨0, 0, M49.next, M49.next⟩] = [] from by simp [hides, Nat.beq_refl, show Nat.beq 1 0 = false from rfl]]; rfl
  have rw1 : Mem.mk M49.blks M49.next (hides 0 [⟨2, 0, M49.next, M49.next⟩, ⟨1, 1, M49.next, M49.next⟩, ⟨0, 0, M49.next, M49.next⟩] ++ M49.hide) M49.log = M49 := by rw [show hides 0 [⟨2, 0, M49.next, M49.next⟩, ⟨1, 1, M49.next, M49.next⟩, ⟨0, 0, M49.next, M49.next⟩] = [] from by simp [hides, Nat.beq_refl, show Nat.beq 1 0 = false from rfl]]; rfl
  have rw2 : Mem.mk M49.blks M49.next (hides 8 [⟨3, 0, M49.next, M49.next⟩, ⟨2, 0, M49.next, M49.next⟩, ⟨1, 1, M49.next, M49.next⟩, ⟨0, 0, M49.next, M49.next⟩] ++ M49.hide) M49.log = M49 := by rw [show hides 8 [⟨3, 0, M49.next, M49.next⟩, ⟨2, 0, M49.next, M49.next⟩, ⟨1, 1, M49.next, M49.next⟩, ⟨0, 0, M49.next, M49.next⟩] = [] from by simp [hides, Nat.beq_refl, show Nat.beq 1 0 = false from rfl]]; rfl
  have rw3 : Mem.mk M49.blks M49.next (hides 28 [⟨4, 0, M49.next, M49.next⟩, ⟨3, 0, M49.next, M49.next⟩, ⟨2, 0, M49.next, M49.next⟩, ⟨1, 1, M49.next, M49.next⟩, ⟨0, 0, M49.next, M49.next⟩] ++ M49.hide) M49.log = M49 := by rw [show hides 28 [⟨4, 0, M49.next, M49.next⟩, ⟨3, 0, M49.next, M49.next⟩, ⟨2, 0, M49.next, M49.next⟩, ⟨1, 1, M49.next, M49.next⟩, ⟨0, 0, M49.next, M49.next⟩] = [] from by simp [hides, Nat.beq_refl, show Nat.beq 1 0 = false from rfl]]; rfl
  have rw4 : Mem.mk M49.blks M49.next (hides 60 [⟨5, 0, M49.next, M49.next⟩, ⟨4, 0, M49.next, M49.next⟩, ⟨3, 0, M49.next, M49.next⟩, ⟨2, 0, M49.next, M49.next⟩, ⟨1, 1, M49.next, M49.next⟩, ⟨0, 0, M49.next, M49.next⟩] ++ M49.hide) M49.log = M49 := by rw [show hides 60 [⟨5, 0, M49.next, M49.next⟩, ⟨4, 0, M49.next, M49.next⟩, ⟨3, 0, M49.next, M49.next⟩, ⟨2, 0, M49.next, M49.next⟩, ⟨1, 1, M49.next, M49.next⟩, ⟨0, 0, M49.next, M49.next⟩] = [] from by simp [hides, Nat.beq_refl, show Nat.beq 1 0 = false from rfl]]; rfl
  have rw5 : Mem.mk M63.blks M63.next M49.hide M63.log = M63 := by rw [(show M49.hide = M63.hide from ((X53).hide.trans (X77).hide.symm))]
  have rw6 : Mem.mk M63.blks M63.next (hides 124 [⟨6, 1, M49.next, M63.next⟩, ⟨5, 0, M49.next, M49.next⟩, ⟨4, 0, M49.next, M49.next⟩, ⟨3, 0, M49.next, M49.next⟩, ⟨2, 0, M49.next, M49.next⟩, ⟨1, 1, M49.next, M49.next⟩, ⟨0, 0, M49.next, M49.next⟩] ++ M49.hide) M63.log = M63 := by rw [show hides 124 [⟨6, 1, M49.next, M63.next⟩, ⟨5, 0, M49.next, M49.next⟩, ⟨4, 0, M49.next, M49.next⟩, ⟨3, 0, M49.next, M49.next⟩, ⟨2, 0, M49.next, M49.next⟩, ⟨1, 1, M49.next, M49.next⟩, ⟨0, 0, M49.next, M49.next⟩] = [] from by simp [hides, Nat.beq_refl, nxM63, show Nat.beq 1 0 = false from rfl, show Nat.testBit 124 6 = true from rfl], (show M49.hide = M63.hide from ((X53).hide.trans (X77).hide.symm))]; rfl
  have rw7 : Mem.mk M63.blks M63.next (hides 252 [⟨7, 0, M63.next, M63.next⟩, ⟨6, 1, M49.next, M63.next⟩, ⟨5, 0, M49.next, M49.next⟩, ⟨4, 0, M49.next, M49.next⟩, ⟨3, 0, M49.next, M49.next⟩, ⟨2, 0, M49.next, M49.next⟩, ⟨1, 1, M49.next, M49.next⟩, ⟨0, 0, M49.next, M49.next⟩] ++ M49.hide) M63.log = M63 := by rw [show hides 252 [⟨7, 0, M63.next, M63.next⟩, ⟨6, 1, M49.next, M63.next⟩, ⟨5, 0, M49.next, M49.next⟩, ⟨4, 0, M49.next, M49.next⟩, ⟨3, 0, M49.next, M49.next⟩, ⟨2, 0, M49.next, M49.next⟩, ⟨1, 1, M49.next, M49.next⟩, ⟨0, 0, M49.next, M49.next⟩] = [] from by simp [hides, Nat.beq_refl, nxM63, show Nat.beq 1 0 = false from rfl, show Nat.testBit 252 6 = true from rfl], (show M49.hide = M63.hide from ((X53).hide.trans (X77).hide.symm))]; rfl
  have rw8 : Mem.mk M79.blks M79.next M49.hide M79.log = M79 := by rw [(show M49.hide = M79.hide from ((X53).hide.trans (X91).hide.symm))]
  have rw9 : Mem.mk M95.blks M95.next M49.hide M95.log = M95 := by rw [(show M49.hide = M95.hide from ((X53).hide.trans (X93).hide.symm))]
  have rw10 : Mem.mk M106.blks M106.next M49.hide M106.log = M106 := by rw [(show M49.hide = M106.hide from ((X53).hide.trans (X110).hide.symm))]
  try rw [rw0] at hraw
  try rw [rw1] at hraw
  try rw [rw2] at hraw
  try rw [rw3] at hraw
  try rw [rw4] at hraw
  try rw [rw5] at hraw
  try rw [rw6] at hraw
  try rw [rw7] at hraw
  try rw [rw8] at hraw
  try rw [rw9] at hraw
  try rw [rw10] at hraw
  obtain ⟨T1, h1, h2⟩ := Rd.told noNumP mixedP (fun B => specsB_ok (hS14_17 B) (k := [(2, bone (.loop (q14.loopAt 2)) Tryd.f14.ntmps [1, 2, 6, 7, 8, 9, 10, 11] [some (.slice a ns.length c), some (i64 acc), some (pt r6 0), some (pt p 0), some (i64 N), some (i64 (((i : Nat) : Int))), some (pt b1 0), some (i64 0)] M2 .normal (fr [(1, (.slice a ns.length c)), (2, (i64 acc)), (6, (pt r6 0)), (7, (pt p 0)), (8, (i64 N)), (9, (i64 (((i : Nat) : Int)))), (10, (pt b1 0))]) M13)]) (fun p hp => by simp only [List.mem_cons, List.not_mem_nil, or_false] at hp; rcases hp with rfl <;> first | exact BlkOk.loop noNumP mixedP hL14)) (fun _ h => blksF_one h) hraw (hk (bT cc0) (hk (q_eq (by rw [← eb3, ← em4]; kernel_rfl) Nat.one_ne_zero) (hk (q_blk rfl) (hk (lC dC22 g19 rfl) (hk (lA ⟨dA31, dS31⟩ g17 rfl) (hk (q_eq (by rw [← eb25, ← em26]; kernel_rfl) Nat.one_ne_zero) (hk (q_app (by rw [← eb40, ← em41]; exact append_more (w := 5) (by kernel_rfl) (by kernel_rfl) (by kernel_rfl) (y := 40) (by kernel_rfl) (by decide) (by decide) (by omega) g27 rfl rfl rfl g32 hcs rfl rfl rfl rfl) (Nat.succ_ne_zero _)) (hk (q_st q50) (hk (lC dC23 g51 rfl) (hk (q_inb (by rw [u64_small (by omega)]; omega) (by rw [u64_small (by omega)]; omega)) (hk (q_call rfl p64 l65 e66) (hk (q_eq (by rw [← eb80, ← em81]; kernel_rfl) Nat.one_ne_zero) (hk (q_app (by rw [← eb96, ← em97]; exact append_more (w := 1) (by kernel_rfl) (by kernel_rfl) (by kernel_rfl) (y := 1) (by kernel_rfl) (by decide) (by decide) (by omega) g82 rfl rfl rfl g87 hcf rfl rfl rfl rfl) (Nat.succ_ne_zero _)) (hk (q_st q107) hn))))))))))))))
  exact ⟨T1, M106, b38, b94, h1, h2, X110, hM111, g108, g113, ⟨nb38, dpb38, dr6b38, g116⟩, ⟨nb94, dpb94, dr6b94, g118⟩, db38b94⟩
end Go.Proofs.YtepgijgmnijdpaaDoor

open Go Go.Am Go.Proofs
namespace Go.Proofs.YtepgijgmnijdpaaDoor
set_option maxRecDepth 100000
def RowG (M0 M : Mem) (p r6 el w : Nat) (S : Value) (n : Nat) (cs : List Value) (b : Nat) : Prop :=
  (n = 0 ∧ S = sln) ∨ (S = sli b 0 n n ∧ 0 < n ∧ M0.next ≤ b ∧ p ≠ b ∧ r6 ≠ b ∧ M.get b = some ⟨cs, el, w, 0, true⟩)
theorem irows_app (l : List (List Int)) (r : List Int) : (irows (l ++ [r])).flatten = (irows l).flatten ++ r.map i64 := by simp [irows]
theorem irows_flen {w : Nat} {l : List (List Int)} (h : ∀ r ∈ l, r.length = w) : (irows l).flatten.length = l.length * w := by
  induction l with
  | nil => simp [irows]
  | cons r l ih =>
    have h1 := h r (List.mem_cons_self ..)
    have h2 := ih fun r hr => h r (List.mem_cons_of_mem _ hr)
    simp only [irows, List.map_cons, List.flatten_cons, List.length_append, List.length_map, List.length_cons] at h2 ⊢
    rw [h2, h1, Nat.succ_mul, Nat.add_comm]
def rowsI (N : Int) (ns : List Int) (acc : Int) (i : Nat) : List (List Int) := (List.range i).map (rowI N ns acc)
def accsI (acc : Int) (i : Nat) : List Bool := (List.range i).map (accI acc)
theorem rowsI_len (N : Int) (ns : List Int) (acc : Int) (i : Nat) : (rowsI N ns acc i).length = i := by simp [rowsI]
theorem accsI_len (acc : Int) (i : Nat) : (accsI acc i).length = i := by simp [accsI]
theorem rowsI_succ (N : Int) (ns : List Int) (acc : Int) (i : Nat) : rowsI N ns acc (i + 1) = rowsI N ns acc i ++ [rowI N ns acc i] := by simp [rowsI, List.range_succ]
theorem accsI_succ (acc : Int) (i : Nat) : accsI acc (i + 1) = accsI acc i ++ [accI acc i] := by simp [accsI, List.range_succ]
theorem rowsI_wide (N : Int) (ns : List Int) (acc : Int) (i : Nat) : ∀ r ∈ rowsI N ns acc i, r.length = 5 := fun r hr => by
  obtain ⟨k, _, rfl⟩ := List.mem_map.1 hr
  rfl
def brows (l : List Bool) : List (List Value) := l.map bRow
theorem brows_app (l : List Bool) (b : Bool) : (brows (l ++ [b])).flatten = (brows l).flatten ++ [.bool b] := by simp [brows]
theorem brows_flen (l : List Bool) : (brows l).flatten.length = l.length * 1 := by
  induction l with
  | nil => rfl
  | cons b l ih => simp only [brows, List.map_cons, List.flatten_cons, List.length_append, List.length_cons] at ih ⊢; rw [ih]; simp; omega
structure MkD (M0 M : Mem) (p r6 : Nat) (k6 : ABlk) (N : Int) (ns : List Int) (acc : Int) (i : Nat) : Prop where
  ext : Ext M0 M
  ok : MemOk M
  np : M0.next ≤ p
  d6 : p ≠ r6
  g6 : M.get r6 = some k6
  at_ : ∃ S F bs bf, M.get p = some ⟨[S, F], 25, 2, 0, true⟩ ∧ RowG M0 M p r6 31 5 S i (irows (rowsI N ns acc i)).flatten bs ∧ RowG M0 M p r6 4 1 F i (brows (accsI acc i)).flatten bf ∧ (0 < i → bs ≠ bf)
theorem mk_step {M0 M : Mem} {p r6 : Nat} {k6 : ABlk} {N acc : Int} {ns : List Int} {i : Nat} {a : Option Addr} {c : Nat} (hs : FlatAt 1 M0 (.slice a ns.length c) (ns.map ([·]))) (h : MkD M0 M p r6 k6 N ns acc i) (hN : 1 ≤ N ∧ N ≤ 9) (hi : ((i : Nat) : Int) < N) :
    ∃ T1 M', Rd Tryd.prog [] (q14.loopAt 0) Tryd.f14.ntmps (fr [(1, (.slice a ns.length c)), (2, (i64 acc)), (6, (pt r6 0)), (7, (pt p 0)), (8, (i64 N)), (9, (i64 (((i : Nat) : Int))))]) M .normal T1 M' ∧ [1, 2, 6, 7, 8, 9].map T1.get = [some (.slice a ns.length c), some (i64 acc), some (pt r6 0), some (pt p 0), some (i64 N), some (i64 (IntKind.wrap .i64 ((((i : Nat) : Int)) + (1 : Int))))] ∧
      MkD M0 M' p r6 k6 N ns acc (i + 1) := by
  obtain ⟨S, F, bs, bf, gp, hS, hF, hd⟩ := h.at_
  have ha : ((modI (acc.fdiv (2 ^ (IntKind.wrap .u64 (((i : Nat) : Int))).toNat)) 2) == (1 : Int)) = accI acc i := by
    rw [u64_small (by omega)]; rfl
  rcases hS with ⟨hS0, rfl⟩ | ⟨rfl, s2, s3, s4, s5, s7⟩ <;> rcases hF with ⟨hF0, rfl⟩ | ⟨rfl, f2, f3, f4, f5, f7⟩
  · obtain ⟨T1, M', b1, b2, e1, e2, e3, e4, e5, e6, ⟨e7, e8, e9, e10⟩, ⟨u7, u8, u9, u10⟩, e11⟩ := r14n p r6 i a c ns N acc k6 h.ok hs h.ext h.np hN (by omega) gp h.g6 h.d6 (decide_eq_true hi)
    subst hS0
    refine ⟨T1, M', e1, e2, e3, e4, h.np, h.d6, e6, _, _, b1, b2, e5, .inr ⟨rfl, Nat.one_pos, e7, e8, e9, ?_⟩, .inr ⟨rfl, Nat.one_pos, u7, u8, u9, ?_⟩, fun _ => e11⟩
    · rw [e10]; rfl
    · rw [u10, ha]; rfl
  · omega
  · omega
  · obtain ⟨T1, M', b1, b2, e1, e2, e3, e4, e5, e6, ⟨e7, e8, e9, e10⟩, ⟨u7, u8, u9, u10⟩, e11⟩ := r14s p r6 i a c ns N acc k6 bs bf _ _ h.ok hs h.ext h.np hN (by omega) gp h.g6 h.d6 s3 s7 s4 s5 (by rw [irows_flen (rowsI_wide N ns acc i), rowsI_len]) f3 f7 f4 f5 (by rw [brows_flen, accsI_len]) (hd s2) (decide_eq_true hi)
    refine ⟨T1, M', e1, e2, e3, e4, h.np, h.d6, e6, _, _, b1, b2, e5, .inr ⟨rfl, Nat.succ_pos _, e7, e8, e9, ?_⟩, .inr ⟨rfl, Nat.succ_pos _, u7, u8, u9, ?_⟩, fun _ => e11⟩
    · rw [e10, rowsI_succ, irows_app]; rfl
    · rw [u10, ha, accsI_succ, brows_app]
theorem loop14 {M0 : Mem} {a : Option Addr} {c : Nat} {ns : List Int} {N acc : Int} {p r6 : Nat} {k6 : ABlk} (hN : 1 ≤ N ∧ N ≤ 9) (hs : FlatAt 1 M0 (.slice a ns.length c) (ns.map ([·]))) : ∀ (k i : Nat), i + k = N.toNat → ∀ {M : Mem}, MkD M0 M p r6 k6 N ns acc i →
    ∃ M', LoopR Tryd.prog [] (q14.loopAt 0) Tryd.f14.ntmps (fr [(1, (.slice a ns.length c)), (2, (i64 acc)), (6, (pt r6 0)), (7, (pt p 0)), (8, (i64 N)), (9, (i64 (((i : Nat) : Int))))]) M (.exit 0) (fr [(6, pt r6 0), (7, pt p 0)]) M' ∧ MkD M0 M' p r6 k6 N ns acc N.toNat := by
  intro k
  induction k with
  | zero =>
    intro i hi M h
    obtain ⟨T1, h1, h2⟩ := r14x p r6 i a ns.length c N acc (M := M) (decide_eq_false (by omega))
    have : i = N.toNat := by omega
    subst this
    exact ⟨M, LoopR.stop h1 (by simp) (TSub.fr (l := [(6, pt r6 0), (7, pt p 0)]) h2), h⟩
  | succ k ih =>
    intro i hi M h
    obtain ⟨T1, M1, e1, e2, e3⟩ := mk_step hs h hN (by omega)
    rw [wrap_succ (by omega)] at e2
    obtain ⟨M2, f1, f2⟩ := ih (i + 1) (by omega) e3
    exact ⟨M2, LoopR.step e1 (TSub.fr (l := [(1, (.slice a ns.length c)), (2, (i64 acc)), (6, (pt r6 0)), (7, (pt p 0)), (8, (i64 N)), (9, i64 ((i + 1 : Nat) : Int))]) e2) f1, f2⟩
end Go.Proofs.YtepgijgmnijdpaaDoor

open Go Go.Am Go.Proofs
namespace Go.Proofs.YtepgijgmnijdpaaDoor
set_option maxRecDepth 100000
theorem dA25 : (Tryd.prog.underlying 25).map isAggD = some true := by kernel_rfl
theorem dS25 : (Tryd.prog.info? 25).map (·.size) = some 2 := by kernel_rfl
theorem wr_small {j : Int} (h0 : 0 ≤ j) (h1 : j < 1000) : IntKind.wrap .i64 j = j := Go.Am.wrap_small h0 (by omega)
abbrev nOf (x : Int) : Int := IntKind.wrap .i64 ((1 : Int) + (modI x 9))
theorem nOf_range (x : Int) : 1 ≤ nOf x ∧ nOf x ≤ 9 := by
  have h := modI_range (x := x) (n := 9) (by decide)
  have h2 : nOf x = 1 + modI x 9 := by
    show IntKind.wrap .i64 (1 + modI x 9) = _
    exact wr_small (by omega) (by omega)
  omega
def nN (x : Int) : Nat := (nOf x).toNat
def NewB (M M' : Mem) (b el w : Nat) (cs : List Value) : Prop := M.next ≤ b ∧ M'.get b = some ⟨cs, el, w, 0, true⟩
def MkR (x : Int) (ns : List Int) (y : Int) (M : Mem) (v : Value) (M' : Mem) : Prop := ∃ bs bf, v = .agg ⟨[sli bs 0 (nN x) (nN x), sli bf 0 (nN x) (nN x)]⟩ ∧ NewB M M' bs 31 5 (irows (rowsI (nOf x) ns y (nN x))).flatten ∧ NewB M M' bf 4 1 (brows (accsI y (nN x))).flatten ∧ bs ≠ bf
def Qmk : List Value → Mem → Value → Mem → Prop := fun args M v M' => ∃ (x : Int) (L : Value) (ns : List Int) (y : Int), args = [i64 x, L, i64 y] ∧ FlatAt 1 M L (ns.map ([·])) ∧ MkR x ns y M v M'
theorem rK14 : Tryd.f14.results = #[.cell 6 25] := by kernel_rfl
theorem w14_raw (x : Int) (a : Option Addr) (c : Nat) (ns : List Int) (y : Int) (M : Mem) (b1 : Nat) (M2 : Mem) (b9 : Nat) (M10 : Mem) (M20 : Mem) (M31 : Mem) (q34s : Nat) (q34f : Nat) (M35 : Mem) : oT Tryd.prog [0] 60 Tryd.f14 q14 [i64 x, (.slice a ns.length c), i64 y] M [ttV 1 (pt b1 0) M2, ttV 3 (pt b9 0) M10, ttV 7 (i64 (modI x 9)) M20, .blk 14 [1, 2, 6, 7, 8, 9] .normal (fr [(6, (pt b1 0)), (7, (pt b9 0))]) M31, ttL 16 (.agg ⟨[(sli q34s 0 (nN x) (nN x)), (sli q34f 0 (nN x) (nN x))]⟩), ttS 18 M35] 6 = some (.ret, some (pt b1 0), M35, [.eq (aalloc Tryd.prog 25 M) (1, .val (pt b1 0), M2), .eq (aalloc Tryd.prog 25 M2) (1, .val (pt b9 0), M10), qC 17 [(i64 x), (i64 9)] M10 (i64 (modI x 9)) M20, .blk 0 (.loop (q14.loopAt 0)) Tryd.f14.ntmps [1, 2, 6, 7, 8, 9] [some (.slice a ns.length c), some (i64 y), some (pt b1 0), some (pt b9 0), some (i64 (IntKind.wrap .i64 ((1 : Int) + (modI x 9)))), some (i64 0)] M20 .normal (fr [(6, (pt b1 0)), (7, (pt b9 0))]) M31, qL 25 b9 0 M31 (.agg ⟨[(sli q34s 0 (nN x) (nN x)), (sli q34f 0 (nN x) (nN x))]⟩), qS 25 b1 0 (.agg ⟨[(sli q34s 0 (nN x) (nN x)), (sli q34f 0 (nN x) (nN x))]⟩) M31 M35]) := by kernel_rfl
theorem con14 (x : Int) (a : Option Addr) (c : Nat) (ns : List Int) (y : Int) {M : Mem} (hM : MemOk M) (hs : FlatAt 1 M (.slice a ns.length c) (ns.map ([·]))) : ∃ v M', Con Tryd.prog [] 14 Qmk [i64 x, (.slice a ns.length c), i64 y] M v M' := by
  have hN : 1 ≤ IntKind.wrap .i64 ((1 : Int) + (modI x 9)) ∧ IntKind.wrap .i64 ((1 : Int) + (modI x 9)) ≤ 9 := nOf_range x
  obtain ⟨b1, M2, eb3, em4, g5, E6, hM7⟩ := new_t hM ⟨[sln, sln], 25, 2, 0, true⟩
  have nb1 : M.next ≤ b1 := by rw [← eb3]; exact (Ext.refl M).next
  have X8 := (Ext.refl M).trans E6
  obtain ⟨b9, M10, eb11, em12, g13, E14, hM15⟩ := new_t hM7 ⟨[sln, sln], 25, 2, 0, true⟩
  have nb9 : M.next ≤ b9 := by rw [← eb11]; exact X8.next
  have db1b9 : b1 ≠ b9 := by have := Mem.lt_of_get g5; omega
  have g16 := E14.old g5
  have X17 := X8.trans E14
  obtain ⟨w18, N19, M20, p21, l22, e23, E24, hM25, Q26, G27⟩ := call_t (P := Tryd.prog) (GL := []) (f := 17) hM15 (con17 x 9 (by decide))
  have g28 := E24.old g16
  have g29 := E24.old g13
  have ew18 : w18 = (i64 (modI x 9)) := (Option.some.inj Q26.1).symm
  subst ew18
  have nxM20 : M20.next = M10.next := by rw [← e23]; exact Q26.2
  have X30 := X17.trans E24
  have hstq34 : MkD M M20 b9 b1 ⟨[sln, sln], 25, 2, 0, true⟩ (nOf x) ns y 0 := ⟨X30, hM25, nb9, Ne.symm db1b9, g28, _, _, 0, 0, g29, .inl ⟨rfl, rfl⟩, .inl ⟨rfl, rfl⟩, fun z => absurd z (Nat.lt_irrefl 0)⟩
  obtain ⟨M31, hL32, hS33⟩ := loop14 (nOf_range x) hs (nN x) 0 (by unfold nN; omega) hstq34
  obtain ⟨q34S, q34F, q34s, q34f, q34gp, q34rS, q34rF, q34d⟩ := hS33.at_
  have q34n : 0 < nN x := by have := nOf_range x; unfold nN; omega
  rcases q34rS with ⟨q340, _⟩ | ⟨rfl, _, q34s3, q34s4, q34s5, q34s6⟩
  · exact absurd q340 (by show nN x ≠ 0; omega)
  rcases q34rF with ⟨q340, _⟩ | ⟨rfl, _, q34f3, q34f4, q34f5, q34f6⟩
  · exact absurd q340 (by show nN x ≠ 0; omega)
  have h6q34 := hS33.g6
  obtain ⟨M35, q36, g37, kp38, X39, hM40, nx41⟩ := store_t (o := 0) (v := (.agg ⟨[(sli q34s 0 (nN x) (nN x)), (sli q34f 0 (nN x) (nN x))]⟩)) (new := [(sli q34s 0 (nN x) (nN x)), (sli q34f 0 (nN x) (nN x))]) hS33.ext nb1 hS33.ok dS25 h6q34 rfl rfl (Nat.zero_le _) (Nat.le_of_ble_eq_true rfl) rfl
  replace g37 : M35.get b1 = some ⟨[(sli q34s 0 (nN x) (nN x)), (sli q34f 0 (nN x) (nN x))], 25, 2, 0, true⟩ := g37
  have g42 := (kp38 _ (Ne.symm db1b9)).trans q34gp
  have hraw := w14_raw x a c ns y M b1 M2 b9 M10 M20 M31 q34s q34f M35
  have hres := aload_agg (a := ⟨b1, 0, none⟩) dA25 dS25 g37 rfl
  exact ⟨_, _, Ev.told_cell noNumP mixedP Tryd.func14 q14_ok (by kernel_rfl) rK14 (fun B => specsB_ok (hS14_17 B) (k := [(0, bone (.loop (q14.loopAt 0)) Tryd.f14.ntmps [1, 2, 6, 7, 8, 9] [some (.slice a ns.length c), some (i64 y), some (pt b1 0), some (pt b9 0), some (i64 (IntKind.wrap .i64 ((1 : Int) + (modI x 9)))), some (i64 0)] M20 .normal (fr [(6, (pt b1 0)), (7, (pt b9 0))]) M31)]) (fun p hp => by simp only [List.mem_cons, List.not_mem_nil, or_false] at hp; rcases hp with rfl <;> first | exact BlkOk.loop noNumP mixedP hL32)) (fun _ h => blksF_one h) hraw hres (hk (q_eq (by rw [← eb3, ← em4]; kernel_rfl) Nat.one_ne_zero) (hk (q_eq (by rw [← eb11, ← em12]; kernel_rfl) Nat.one_ne_zero) (hk (q_call rfl p21 l22 e23) (hk (q_blk rfl) (hk (lA ⟨dA25, dS25⟩ q34gp rfl) (hk (q_st q36) hn)))))), X39, x, _, ns, y, rfl, hs, q34s, q34f, rfl, ⟨q34s3, (kp38 _ (Ne.symm q34s5)).trans q34s6⟩, ⟨q34f3, (kp38 _ (Ne.symm q34f5)).trans q34f6⟩, q34d q34n⟩
theorem one_inj : ∀ {l1 l2 : List Int}, l1.map ([·]) = l2.map ([·]) → l1 = l2
  | [], [], _ => rfl
  | [], _ :: _, h => by simp at h
  | _ :: _, [], h => by simp at h
  | a :: l1, b :: l2, h => by
    simp only [List.map_cons, List.cons.injEq, and_true] at h
    rw [h.1, one_inj h.2]
theorem Qmk.val {x y : Int} {L v : Value} {ns : List Int} {M M' : Mem} (hs : FlatAt 1 M L (ns.map ([·]))) (hq : Qmk [i64 x, L, i64 y] M v M') : MkR x ns y M v M' := by
  obtain ⟨x', L', ns', y', h1, h2, h3⟩ := hq
  simp only [List.cons.injEq, and_true] at h1
  obtain ⟨e1, rfl, e2⟩ := h1
  have e1 : x = x' := by simpa [i64] using e1
  have e2 : y = y' := by simpa [i64] using e2
  have e4 := one_inj (hs.unique h2)
  subst e1 e2 e4
  exact h3
theorem nN_le (x : Int) : 1 ≤ nN x ∧ nN x ≤ 9 := by have := nOf_range x; unfold nN; omega
theorem mkAt {x y : Int} {ns : List Int} {M' : Mem} {bs bf : Nat} {cs cf : List Value} {w1 w2 : Nat} {q1 q2 : Bool} (h1 : M'.get bs = some ⟨cs, 31, 5, w1, q1⟩) (e1 : cs = (irows (rowsI (nOf x) ns y (nN x))).flatten) (h2 : M'.get bf = some ⟨cf, 4, 1, w2, q2⟩) (e2 : cf = (brows (accsI y (nN x))).flatten) :
    DfaAt M' (.agg ⟨[sli bs 0 (nN x) (nN x), sli bf 0 (nN x) (nN x)]⟩) (rowsI (nOf x) ns y (nN x)) (accsI y (nN x)) := by
  have hn := nN_le x
  refine ⟨_, _, rfl, ⟨?_, rowsI_wide _ _ _ _, by rw [rowsI_len]; omega⟩, ⟨?_, fun _ _ => rfl, by rw [accsI_len]; omega⟩⟩
  · rw [rowsI_len]
    exact .inr ⟨bs, 0, nN x, _, [], [], rfl, h1, by simp [e1], rfl, fun r hr => irows_wide (rowsI_wide _ _ _ _) r hr⟩
  · rw [accsI_len]
    exact .inr ⟨bf, 0, nN x, _, [], [], rfl, h2, by simp [e2, brows], rfl, fun r hr => by obtain ⟨b, _, rfl⟩ := List.mem_map.1 hr; rfl⟩
theorem cellI_range {N acc : Int} (ns : List Int) (hN : 1 ≤ N) (i j : Nat) : 0 ≤ cellI N ns acc i j ∧ cellI N ns acc i j < N := by
  unfold cellI
  split
  · exact modI_range (by omega)
  · exact modI_range (by omega)
theorem rowI_good (N : Int) (ns : List Int) (acc : Int) (i : Nat) (hN : 1 ≤ N) : badR N (rowI N ns acc i) = false := by
  have h0 := cellI_range (acc := acc) ns hN i 0
  have h1 := cellI_range (acc := acc) ns hN i 1
  have h2 := cellI_range (acc := acc) ns hN i 2
  have h3 := cellI_range (acc := acc) ns hN i 3
  have h4 := cellI_range (acc := acc) ns hN i 4
  simp [badR, rowI, noneB]
  omega
theorem mk_right (x y : Int) (ns : List Int) : chkB (rowsI (nOf x) ns y (nN x)) (accsI y (nN x)) = true := by
  have hn := nN_le x
  have hr := nOf_range x
  have e : ((nN x : Nat) : Int) = nOf x := by unfold nN; omega
  have a1 : (rowsI (nOf x) ns y (nN x)).any (badR ((nN x : Nat) : Int)) = false := by
    rw [List.any_eq_false]
    intro r hr'
    obtain ⟨k, _, rfl⟩ := List.mem_map.1 hr'
    rw [e, rowI_good _ _ _ _ hr.1]
    simp
  simp only [chkB, rowsI_len, accsI_len, a1]
  simp
  omega
end Go.Proofs.YtepgijgmnijdpaaDoor

open Go Go.Am Go.Proofs
namespace Go.Proofs.YtepgijgmnijdpaaDoor
set_option maxRecDepth 100000
theorem hS3_17 (B : Bd) : ∀ p ∈ ([(17, pick (Con Tryd.prog [] 17 Q17))] : List (FuncId × (List Value → Mem → Option (Value × Mem)))), SpecOk Tryd.prog [] B p.1 p.2 := (fun p hp => by simp only [List.mem_cons, List.not_mem_nil, or_false] at hp; rcases hp with rfl <;> first | exact Con.ok _)
theorem s3_0_raw (p bs _ n : Nat) (w v : Int) (_ _ : List Value) (M : Mem) (M11 : Mem) (M26 : Mem) (M41 : Mem) (M54 : Mem) : oR Tryd.prog [] 60 Tryd.f3 (.block 0 (q3.blkAt 0)) [(4, (i64 w)), (5, (i64 v)), (13, (pt p 0)), (34, (i64 0))] M [ttL 8 (sli bs 0 n n), ttL 16 (sli bs 0 n n), ttV 20 (i64 (modI (IntKind.wrap .i64 (w.tdiv (4 : Int))) (((n : Nat) : Int)))) M11, ttV 24 (i64 (modI v 5)) M26, ttL 28 (sli bs 0 n n), ttV 36 (i64 (modI v 3)) M41, ttT 40, ttT 42, ttS 44 M54] [13] = some (.normal, [some (pt p 0)], (Mem.mk M54.blks M54.next M.hide (M54.log ++ M.log)), [qL 22 p 0 (Mem.mk M.blks M.next M.hide []) (sli bs 0 n n), qT (Nat.blt p M.next), qL 22 p 0 (Mem.mk M.blks M.next M.hide []) (sli bs 0 n n), qC 17 [(i64 (IntKind.wrap .i64 (w.tdiv (4 : Int)))), (i64 (((n : Nat) : Int)))] (Mem.mk M.blks M.next M.hide []) (i64 (modI (IntKind.wrap .i64 (w.tdiv (4 : Int))) (((n : Nat) : Int)))) M11, qC 17 [(i64 v), (i64 5)] (Mem.mk M11.blks M11.next M.hide M11.log) (i64 (modI v 5)) M26, qL 22 p 0 (Mem.mk M26.blks M26.next (hides 1024 [⟨10, 0, M26.next, M26.next⟩, ⟨9, 1, M11.next, M26.next⟩, ⟨8, 0, M11.next, M11.next⟩, ⟨7, 1, M.next, M11.next⟩, ⟨6, 0, M.next, M.next⟩, ⟨5, 1, M.next, M.next⟩, ⟨4, 0, M.next, M.next⟩, ⟨3, 0, M.next, M.next⟩, ⟨2, 0, M.next, M.next⟩, ⟨0, 0, M.next, M.next⟩] ++ M.hide) M26.log) (sli bs 0 n n), qT (Nat.blt p M.next), qC 17 [(i64 v), (i64 3)] (Mem.mk M26.blks M26.next M.hide M26.log) (i64 (modI v 3)) M41, .q (.inb (modI (IntKind.wrap .i64 (w.tdiv (4 : Int))) (((n : Nat) : Int))) n) (ansB true), .q (.inb (modI v 5) 5) (ansB true), qS 3 bs (0 + (modI (IntKind.wrap .i64 (w.tdiv (4 : Int))) (((n : Nat) : Int)) : Int).toNat * 5 + (modI v 5 : Int).toNat * 1) (i64 (IntKind.wrap .i64 ((IntKind.wrap .i64 ((((n : Nat) : Int)) - (1 : Int))) + (modI v 3)))) (Mem.mk M41.blks M41.next M.hide M41.log) M54, qT (apartN [p, p] M54.log)]) := by kernel_rfl
theorem s3_0 (p bs bf n : Nat) (w v : Int) (cs cf : List Value) {M : Mem} (hM : MemOk M) {M0 : Mem} (X0 : Ext M0 M) (_ : M0.next ≤ p) (hn9 : 1 ≤ n ∧ n ≤ 9) (gp : M.get p = some ⟨[sli bs 0 n n, sli bf 0 n n], 25, 2, 0, true⟩) (nbs : M0.next ≤ bs) (gs : M.get bs = some ⟨cs, 31, 5, 0, true⟩) (dpbs : p ≠ bs) (hcs : cs.length = n * 5) (_ : M0.next ≤ bf) (gf : M.get bf = some ⟨cf, 4, 1, 0, true⟩) (_ : p ≠ bf) (hcf : cf.length = n * 1) (dbsbf : bs ≠ bf) : ∃ T1 M' b0 b1, Rd Tryd.prog [] (.block 0 (q3.blkAt 0)) Tryd.f3.ntmps (fr [(4, (i64 w)), (5, (i64 v)), (13, (pt p 0)), (34, (i64 0))]) M .normal T1 M' ∧ [13].map T1.get = [some (pt p 0)] ∧ Ext M0 M' ∧ MemOk M' ∧ M'.get p = some ⟨[(sli b0 0 n n), (sli b1 0 n n)], 25, 2, 0, true⟩ ∧ M'.get b0 = some ⟨(splice cs (0 + (modI (IntKind.wrap .i64 (w.tdiv (4 : Int))) (((n : Nat) : Int)) : Int).toNat * 5 + (modI v 5 : Int).toNat * 1) [(i64 (IntKind.wrap .i64 ((IntKind.wrap .i64 ((((n : Nat) : Int)) - (1 : Int))) + (modI v 3))))]), 31, 5, 0, true⟩ ∧ M'.get b1 = some ⟨cf, 4, 1, 0, true⟩ := by
  obtain ⟨R1, eR2⟩ : ∃ m : Mem, m = Mem.mk M.blks M.next M.hide [] := ⟨_, rfl⟩
  have X3 : Ext (Mem.mk M0.blks M0.next M0.hide []) R1 := by rw [eR2]; exact Ext.aside (X0)
  have lg4 : R1.log = [] := by rw [eR2]
  have nxR1 : R1.next = M.next := by rw [eR2]
  have hM5 : MemOk R1 := by rw [eR2]; exact MemOk.log hM
  have ltpM : p < M.next := Mem.lt_of_get gp
  have g6 : R1.get p = some ⟨[(sli bs 0 n n), (sli bf 0 n n)], 25, 2, 0, true⟩ := by rw [eR2]; exact gp
  have ltbsM : bs < M.next := Mem.lt_of_get gs
  have g7 : R1.get bs = some ⟨cs, 31, 5, 0, true⟩ := by rw [eR2]; exact gs
  have ltbfM : bf < M.next := Mem.lt_of_get gf
  have g8 : R1.get bf = some ⟨cf, 4, 1, 0, true⟩ := by rw [eR2]; exact gf
  obtain ⟨w9, N10, M11, p12, l13, e14, E15, hM16, Q17, G18⟩ := call_t (P := Tryd.prog) (GL := []) (f := 17) hM5 (con17 (IntKind.wrap .i64 (w.tdiv (4 : Int))) (((n : Nat) : Int)) (by simp <;> omega))
  have g19 := E15.old g6
  have g20 := E15.old g7
  have g21 := E15.old g8
  have ew9 : w9 = (i64 (modI (IntKind.wrap .i64 (w.tdiv (4 : Int))) (((n : Nat) : Int)))) := (Option.some.inj Q17.1).symm
  subst ew9
  have nxM11 : M11.next = R1.next := by rw [← e14]; exact Q17.2
  have lg22 : M11.log = [] := by rw [← e14]; exact lg4
  have X23 := X3.trans E15
  obtain ⟨w24, N25, M26, p27, l28, e29, E30, hM31, Q32, G33⟩ := call_t (P := Tryd.prog) (GL := []) (f := 17) hM16 (con17 v 5 (by decide))
  have g34 := E30.old g19
  have g35 := E30.old g20
  have g36 := E30.old g21
  have ew24 : w24 = (i64 (modI v 5)) := (Option.some.inj Q32.1).symm
  subst ew24
  have nxM26 : M26.next = M11.next := by rw [← e29]; exact Q32.2
  have lg37 : M26.log = [] := by rw [← e29]; exact lg22
  have X38 := X23.trans E30
  obtain ⟨w39, N40, M41, p42, l43, e44, E45, hM46, Q47, G48⟩ := call_t (P := Tryd.prog) (GL := []) (f := 17) hM31 (con17 v 3 (by decide))
  have g49 := E45.old g34
  have g50 := E45.old g35
  have g51 := E45.old g36
  have ew39 : w39 = (i64 (modI v 3)) := (Option.some.inj Q47.1).symm
  subst ew39
  have nxM41 : M41.next = M26.next := by rw [← e44]; exact Q47.2
  have lg52 : M41.log = [] := by rw [← e44]; exact lg37
  have X53 := X38.trans E45
  obtain ⟨M54, q55, g56, kp57, X58, hM59, nx60⟩ := store_t (o := 0 + (modI (IntKind.wrap .i64 (w.tdiv (4 : Int))) (((n : Nat) : Int)) : Int).toNat * 5 + (modI v 5 : Int).toNat * 1) (v := (i64 (IntKind.wrap .i64 ((IntKind.wrap .i64 ((((n : Nat) : Int)) - (1 : Int))) + (modI v 3))))) (new := splice cs (0 + (modI (IntKind.wrap .i64 (w.tdiv (4 : Int))) (((n : Nat) : Int)) : Int).toNat * 5 + (modI v 5 : Int).toNat * 1) [(i64 (IntKind.wrap .i64 ((IntKind.wrap .i64 ((((n : Nat) : Int)) - (1 : Int))) + (modI v 3))))]) X53 nbs hM46 dS3 g50 rfl rfl (Nat.zero_le _) (by rw [hcs]; show _ + 1 ≤ n * 5; have h1 := modI_range (x := v) (n := 5) (by decide); have h2 := modI_range (x := IntKind.wrap .i64 (w.tdiv (4 : Int))) (n := ((n : Nat) : Int)) (by omega); omega) rfl
  replace g56 : M54.get bs = some ⟨splice cs (0 + (modI (IntKind.wrap .i64 (w.tdiv (4 : Int))) (((n : Nat) : Int)) : Int).toNat * 5 + (modI v 5 : Int).toNat * 1) [(i64 (IntKind.wrap .i64 ((IntKind.wrap .i64 ((((n : Nat) : Int)) - (1 : Int))) + (modI v 3))))], 31, 5, 0, true⟩ := g56
  have g61 := (kp57 _ dpbs).trans g49
  have g62 := (kp57 _ (Ne.symm dbsbf)).trans g51
  have lg63 : M54.log = [bs] := by rw [nx60, lg52]
  obtain ⟨M64, ef65⟩ : ∃ m : Mem, m = (Mem.mk M54.blks M54.next M54.hide (M54.log ++ M.log)) := ⟨_, rfl⟩
  have X66 : Ext M0 M64 := by rw [ef65]; exact Ext.join (X0) (X58)
  have hM67 : MemOk M64 := by rw [ef65]; exact hM59
  have g68 : M64.get p = some ⟨[(sli bs 0 n n), (sli bf 0 n n)], 25, 2, 0, true⟩ := by rw [ef65]; exact g61
  have g69 : M64.get bs = some ⟨(splice cs (0 + (modI (IntKind.wrap .i64 (w.tdiv (4 : Int))) (((n : Nat) : Int)) : Int).toNat * 5 + (modI v 5 : Int).toNat * 1) [(i64 (IntKind.wrap .i64 ((IntKind.wrap .i64 ((((n : Nat) : Int)) - (1 : Int))) + (modI v 3))))]), 31, 5, 0, true⟩ := by rw [ef65]; exact g56
  have g70 : M64.get bf = some ⟨cf, 4, 1, 0, true⟩ := by rw [ef65]; exact g62
  have hraw := s3_0_raw p bs bf n w v cs cf M M11 M26 M41 M54
  have rw0 : Mem.mk M.blks M.next M.hide [] = R1 := eR2.symm
  have rw1 : Mem.mk M11.blks M11.next M.hide M11.log = M11 := by rw [(show M.hide = M11.hide from ((X0).hide.trans (X23).hide.symm))]
  have rw2 : Mem.mk M11.blks M11.next (hides 0 [⟨7, 1, M.next, M11.next⟩, ⟨6, 0, M.next, M.next⟩, ⟨5, 1, M.next, M.next⟩, ⟨4, 0, M.next, M.next⟩, ⟨3, 0, M.next, M.next⟩, ⟨2, 0, M.next, M.next⟩, ⟨0, 0, M.next, M.next⟩] ++ M.hide) M11.log = M11 := by rw [show hides 0 [⟨7, 1, M.next, M11.next⟩, ⟨6, 0, M.next, M.next⟩, ⟨5, 1, M.next, M.next⟩, ⟨4, 0, M.next, M.next⟩, ⟨3, 0, M.next, M.next⟩, ⟨2, 0, M.next, M.next⟩, ⟨0, 0, M.next, M.next⟩] = [] from by simp [hides, Nat.beq_refl, nxR1, nxM11, show Nat.beq 1 0 = false from rfl], (show M.hide = M11.hide from ((X0).hide.trans (X23).hide.symm))]; rfl
  have rw3 : Mem.mk M26.blks M26.next M.hide M26.log = M26 := by rw [(show M.hide = M26.hide from ((X0).hide.trans (X38).hide.symm))]
  have rw4 : Mem.mk M26.blks M26.next (hides 0 [⟨9, 1, M11.next, M26.next⟩, ⟨8, 0, M11.next, M11.next⟩, ⟨7, 1, M.next, M11.next⟩, ⟨6, 0, M.next, M.next⟩, ⟨5, 1, M.next, M.next⟩, ⟨4, 0, M.next, M.next⟩, ⟨3, 0, M.next, M.next⟩, ⟨2, 0, M.next, M.next⟩, ⟨0, 0, M.next, M.next⟩] ++ M.hide) M26.log = M26 := by rw [show hides 0 [⟨9, 1, M11.next, M26.next⟩, ⟨8, 0, M11.next, M11.next⟩, ⟨7, 1, M.next, M11.next⟩, ⟨6, 0, M.next, M.next⟩, ⟨5, 1, M.next, M.next⟩, ⟨4, 0, M.next, M.next⟩, ⟨3, 0, M.next, M.next⟩, ⟨2, 0, M.next, M.next⟩, ⟨0, 0, M.next, M.next⟩] = [] from by simp [hides, Nat.beq_refl, nxR1, nxM11, nxM26, show Nat.beq 1 0 = false from rfl], (show M.hide = M26.hide from ((X0).hide.trans (X38).hide.symm))]; rfl
  have rw5 : Mem.mk M26.blks M26.next (hides 1024 [⟨10, 0, M26.next, M26.next⟩, ⟨9, 1, M11.next, M26.next⟩, ⟨8, 0, M11.next, M11.next⟩, ⟨7, 1, M.next, M11.next⟩, ⟨6, 0, M.next, M.next⟩, ⟨5, 1, M.next, M.next⟩, ⟨4, 0, M.next, M.next⟩, ⟨3, 0, M.next, M.next⟩, ⟨2, 0, M.next, M.next⟩, ⟨0, 0, M.next, M.next⟩] ++ M.hide) M26.log = hidx (hides 1024 [⟨10, 0, M26.next, M26.next⟩, ⟨9, 1, M11.next, M26.next⟩, ⟨8, 0, M11.next, M11.next⟩, ⟨7, 1, M.next, M11.next⟩, ⟨6, 0, M.next, M.next⟩, ⟨5, 1, M.next, M.next⟩, ⟨4, 0, M.next, M.next⟩, ⟨3, 0, M.next, M.next⟩, ⟨2, 0, M.next, M.next⟩, ⟨0, 0, M.next, M.next⟩]) M26 := by rw [(show M.hide = M26.hide from ((X0).hide.trans (X38).hide.symm))]; rfl
  have rw6 : Mem.mk M26.blks M26.next (hides 3072 [⟨10, 0, M26.next, M26.next⟩, ⟨9, 1, M11.next, M26.next⟩, ⟨8, 0, M11.next, M11.next⟩, ⟨7, 1, M.next, M11.next⟩, ⟨6, 0, M.next, M.next⟩, ⟨5, 1, M.next, M.next⟩, ⟨4, 0, M.next, M.next⟩, ⟨3, 0, M.next, M.next⟩, ⟨2, 0, M.next, M.next⟩, ⟨0, 0, M.next, M.next⟩] ++ M.hide) M26.log = M26 := by rw [show hides 3072 [⟨10, 0, M26.next, M26.next⟩, ⟨9, 1, M11.next, M26.next⟩, ⟨8, 0, M11.next, M11.next⟩, ⟨7, 1, M.next, M11.next⟩, ⟨6, 0, M.next, M.next⟩, ⟨5, 1, M.next, M.next⟩, ⟨4, 0, M.next, M.next⟩, ⟨3, 0, M.next, M.next⟩, ⟨2, 0, M.next, M.next⟩, ⟨0, 0, M.next, M.next⟩] = [] from by simp [hides, Nat.beq_refl, nxR1, nxM11, nxM26, show Nat.beq 1 0 = false from rfl], (show M.hide = M26.hide from ((X0).hide.trans (X38).hide.symm))]; rfl
  have rw7 : Mem.mk M26.blks M26.next (hides 7168 [⟨12, 0, M26.next, M26.next⟩, ⟨10, 0, M26.next, M26.next⟩, ⟨9, 1, M11.next, M26.next⟩, ⟨8, 0, M11.next, M11.next⟩, ⟨7, 1, M.next, M11.next⟩, ⟨6, 0, M.next, M.next⟩, ⟨5, 1, M.next, M.next⟩, ⟨4, 0, M.next, M.next⟩, ⟨3, 0, M.next, M.next⟩, ⟨2, 0, M.next, M.next⟩, ⟨0, 0, M.next, M.next⟩] ++ M.hide) M26.log = M26 := by rw [show hides 7168 [⟨12, 0, M26.next, M26.next⟩, ⟨10, 0, M26.next, M26.next⟩, ⟨9, 1, M11.next, M26.next⟩, ⟨8, 0, M11.next, M11.next⟩, ⟨7, 1, M.next, M11.next⟩, ⟨6, 0, M.next, M.next⟩, ⟨5, 1, M.next, M.next⟩, ⟨4, 0, M.next, M.next⟩, ⟨3, 0, M.next, M.next⟩, ⟨2, 0, M.next, M.next⟩, ⟨0, 0, M.next, M.next⟩] = [] from by simp [hides, Nat.beq_refl, nxR1, nxM11, nxM26, show Nat.beq 1 0 = false from rfl], (show M.hide = M26.hide from ((X0).hide.trans (X38).hide.symm))]; rfl
  have rw8 : Mem.mk M26.blks M26.next (hides 0 [⟨13, 0, M26.next, M26.next⟩, ⟨12, 0, M26.next, M26.next⟩, ⟨10, 0, M26.next, M26.next⟩, ⟨9, 1, M11.next, M26.next⟩, ⟨8, 0, M11.next, M11.next⟩, ⟨7, 1, M.next, M11.next⟩, ⟨6, 0, M.next, M.next⟩, ⟨5, 1, M.next, M.next⟩, ⟨4, 0, M.next, M.next⟩, ⟨3, 0, M.next, M.next⟩, ⟨2, 0, M.next, M.next⟩, ⟨0, 0, M.next, M.next⟩] ++ M.hide) M26.log = M26 := by rw [show hides 0 [⟨13, 0, M26.next, M26.next⟩, ⟨12, 0, M26.next, M26.next⟩, ⟨10, 0, M26.next, M26.next⟩, ⟨9, 1, M11.next, M26.next⟩, ⟨8, 0, M11.next, M11.next⟩, ⟨7, 1, M.next, M11.next⟩, ⟨6, 0, M.next, M.next⟩, ⟨5, 1, M.next, M.next⟩, ⟨4, 0, M.next, M.next⟩, ⟨3, 0, M.next, M.next⟩, ⟨2, 0, M.next, M.next⟩, ⟨0, 0, M.next, M.next⟩] = [] from by simp [hides, Nat.beq_refl, nxR1, nxM11, nxM26, show Nat.beq 1 0 = false from rfl], (show M.hide = M26.hide from ((X0).hide.trans (X38).hide.symm))]; rfl
  have rw9 : Mem.mk M41.blks M41.next M.hide M41.log = M41 := by rw [(show M.hide = M41.hide from ((X0).hide.trans (X53).hide.symm))]
  have rw10 : Mem.mk M41.blks M41.next (hides 255 [⟨16, 0, M41.next, M41.next⟩, ⟨15, 1, M26.next, M41.next⟩, ⟨14, 0, M26.next, M26.next⟩, ⟨13, 0, M26.next, M26.next⟩, ⟨12, 0, M26.next, M26.next⟩, ⟨10, 0, M26.next, M26.next⟩, ⟨9, 1, M11.next, M26.next⟩, ⟨8, 0, M11.next, M11.next⟩, ⟨7, 1, M.next, M11.next⟩, ⟨6, 0, M.next, M.next⟩, ⟨5, 1, M.next, M.next⟩, ⟨4, 0, M.next, M.next⟩, ⟨3, 0, M.next, M.next⟩, ⟨2, 0, M.next, M.next⟩, ⟨0, 0, M.next, M.next⟩] ++ M.hide) M41.log = M41 := by rw [show hides 255 [⟨16, 0, M41.next, M41.next⟩, ⟨15, 1, M26.next, M41.next⟩, ⟨14, 0, M26.next, M26.next⟩, ⟨13, 0, M26.next, M26.next⟩, ⟨12, 0, M26.next, M26.next⟩, ⟨10, 0, M26.next, M26.next⟩, ⟨9, 1, M11.next, M26.next⟩, ⟨8, 0, M11.next, M11.next⟩, ⟨7, 1, M.next, M11.next⟩, ⟨6, 0, M.next, M.next⟩, ⟨5, 1, M.next, M.next⟩, ⟨4, 0, M.next, M.next⟩, ⟨3, 0, M.next, M.next⟩, ⟨2, 0, M.next, M.next⟩, ⟨0, 0, M.next, M.next⟩] = [] from by simp [hides, Nat.beq_refl, nxR1, nxM11, nxM26, nxM41, show Nat.beq 1 0 = false from rfl, show Nat.testBit 255 5 = true from rfl, show Nat.testBit 255 7 = true from rfl], (show M.hide = M41.hide from ((X0).hide.trans (X53).hide.symm))]; rfl
  have rw11 : Mem.mk M54.blks M54.next M.hide M54.log = M54 := by rw [(show M.hide = M54.hide from ((X0).hide.trans (X58).hide.symm))]
  have rw12 : (Mem.mk M54.blks M54.next M.hide (M54.log ++ M.log)) = (Mem.mk M54.blks M54.next M54.hide (M54.log ++ M.log)) := by rw [(show M.hide = M54.hide from ((X0).hide.trans (X58).hide.symm))]
  have rw13 : (Mem.mk M54.blks M54.next M54.hide (M54.log ++ M.log)) = M64 := ef65.symm
  try rw [rw0] at hraw
  try rw [rw1] at hraw
  try rw [rw2] at hraw
  try rw [rw3] at hraw
  try rw [rw4] at hraw
  try rw [rw5] at hraw
  try rw [rw6] at hraw
  try rw [rw7] at hraw
  try rw [rw8] at hraw
  try rw [rw9] at hraw
  try rw [rw10] at hraw
  try rw [rw11] at hraw
  try rw [rw12] at hraw
  try rw [rw13] at hraw
  obtain ⟨T1, h1, h2⟩ := Rd.told noNumP mixedP (fun B => specsB_ok (k := []) (hS3_17 B) (fun p hp => by cases hp)) (fun _ _ => rfl) hraw (hk (lC dC22 g6 rfl) (hk (q_lt ltpM) (hk (lC dC22 g6 rfl) (hk (q_call rfl p12 l13 e14) (hk (q_call rfl p27 l28 e29) (hk (lC dC22 (hidx_get.2 ⟨hides_low (by simp; omega), g34⟩) rfl) (hk (q_lt ltpM) (hk (q_call rfl p42 l43 e44) (hk (q_inb (modI_range (by omega)).1 (modI_range (by omega)).2) (hk (q_inb (by have := modI_range (x := v) (n := 5) (by decide); omega) (by have := modI_range (x := v) (n := 5) (by decide); omega)) (hk (q_st q55) (hk (q_apart (by rw [lg63]; simp <;> omega)) hn))))))))))))
  exact ⟨T1, M64, bs, bf, h1, h2, X66, hM67, g68, g69, g70⟩
theorem s3_1_raw (p bs _ n : Nat) (w v : Int) (_ _ : List Value) (M : Mem) (M11 : Mem) (M26 : Mem) (M39 : Mem) : oR Tryd.prog [] 60 Tryd.f3 (.block 0 (q3.blkAt 0)) [(4, (i64 w)), (5, (i64 v)), (13, (pt p 0)), (34, (i64 1))] M [ttL 13 (sli bs 0 n n), ttL 21 (sli bs 0 n n), ttV 25 (i64 (modI (IntKind.wrap .i64 (w.tdiv (4 : Int))) (((n : Nat) : Int)))) M11, ttV 29 (i64 (modI v 5)) M26, ttT 33, ttT 35, ttS 37 M39] [13] = some (.normal, [some (pt p 0)], (Mem.mk M39.blks M39.next M.hide (M39.log ++ M.log)), [qL 22 p 0 (Mem.mk M.blks M.next M.hide []) (sli bs 0 n n), qT (Nat.blt p M.next), qL 22 p 0 (Mem.mk M.blks M.next M.hide []) (sli bs 0 n n), qC 17 [(i64 (IntKind.wrap .i64 (w.tdiv (4 : Int)))), (i64 (((n : Nat) : Int)))] (Mem.mk M.blks M.next M.hide []) (i64 (modI (IntKind.wrap .i64 (w.tdiv (4 : Int))) (((n : Nat) : Int)))) M11, qC 17 [(i64 v), (i64 5)] (Mem.mk M11.blks M11.next M.hide M11.log) (i64 (modI v 5)) M26, .q (.inb (modI (IntKind.wrap .i64 (w.tdiv (4 : Int))) (((n : Nat) : Int))) n) (ansB true), .q (.inb (modI v 5) 5) (ansB true), qS 3 bs (0 + (modI (IntKind.wrap .i64 (w.tdiv (4 : Int))) (((n : Nat) : Int)) : Int).toNat * 5 + (modI v 5 : Int).toNat * 1) (i64 v) (Mem.mk M26.blks M26.next M.hide M26.log) M39, qT (apartN [p] M39.log)]) := by kernel_rfl
theorem s3_1 (p bs bf n : Nat) (w v : Int) (cs cf : List Value) {M : Mem} (hM : MemOk M) {M0 : Mem} (X0 : Ext M0 M) (_ : M0.next ≤ p) (hn9 : 1 ≤ n ∧ n ≤ 9) (gp : M.get p = some ⟨[sli bs 0 n n, sli bf 0 n n], 25, 2, 0, true⟩) (nbs : M0.next ≤ bs) (gs : M.get bs = some ⟨cs, 31, 5, 0, true⟩) (dpbs : p ≠ bs) (hcs : cs.length = n * 5) (_ : M0.next ≤ bf) (gf : M.get bf = some ⟨cf, 4, 1, 0, true⟩) (_ : p ≠ bf) (hcf : cf.length = n * 1) (dbsbf : bs ≠ bf) : ∃ T1 M' b0 b1, Rd Tryd.prog [] (.block 0 (q3.blkAt 0)) Tryd.f3.ntmps (fr [(4, (i64 w)), (5, (i64 v)), (13, (pt p 0)), (34, (i64 1))]) M .normal T1 M' ∧ [13].map T1.get = [some (pt p 0)] ∧ Ext M0 M' ∧ MemOk M' ∧ M'.get p = some ⟨[(sli b0 0 n n), (sli b1 0 n n)], 25, 2, 0, true⟩ ∧ M'.get b0 = some ⟨(splice cs (0 + (modI (IntKind.wrap .i64 (w.tdiv (4 : Int))) (((n : Nat) : Int)) : Int).toNat * 5 + (modI v 5 : Int).toNat * 1) [(i64 v)]), 31, 5, 0, true⟩ ∧ M'.get b1 = some ⟨cf, 4, 1, 0, true⟩ := by
  obtain ⟨R1, eR2⟩ : ∃ m : Mem, m = Mem.mk M.blks M.next M.hide [] := ⟨_, rfl⟩
  have X3 : Ext (Mem.mk M0.blks M0.next M0.hide []) R1 := by rw [eR2]; exact Ext.aside (X0)
  have lg4 : R1.log = [] := by rw [eR2]
  have nxR1 : R1.next = M.next := by rw [eR2]
  have hM5 : MemOk R1 := by rw [eR2]; exact MemOk.log hM
  have ltpM : p < M.next := Mem.lt_of_get gp
  have g6 : R1.get p = some ⟨[(sli bs 0 n n), (sli bf 0 n n)], 25, 2, 0, true⟩ := by rw [eR2]; exact gp
  have ltbsM : bs < M.next := Mem.lt_of_get gs
  have g7 : R1.get bs = some ⟨cs, 31, 5, 0, true⟩ := by rw [eR2]; exact gs
  have ltbfM : bf < M.next := Mem.lt_of_get gf
  have g8 : R1.get bf = some ⟨cf, 4, 1, 0, true⟩ := by rw [eR2]; exact gf
  obtain ⟨w9, N10, M11, p12, l13, e14, E15, hM16, Q17, G18⟩ := call_t (P := Tryd.prog) (GL := []) (f := 17) hM5 (con17 (IntKind.wrap .i64 (w.tdiv (4 : Int))) (((n : Nat) : Int)) (by simp <;> omega))
  have g19 := E15.old g6
  have g20 := E15.old g7
  have g21 := E15.old g8
  have ew9 : w9 = (i64 (modI (IntKind.wrap .i64 (w.tdiv (4 : Int))) (((n : Nat) : Int)))) := (Option.some.inj Q17.1).symm
  subst ew9
  have nxM11 : M11.next = R1.next := by rw [← e14]; exact Q17.2
  have lg22 : M11.log = [] := by rw [← e14]; exact lg4
  have X23 := X3.trans E15
  obtain ⟨w24, N25, M26, p27, l28, e29, E30, hM31, Q32, G33⟩ := call_t (P := Tryd.prog) (GL := []) (f := 17) hM16 (con17 v 5 (by decide))
  have g34 := E30.old g19
  have g35 := E30.old g20
  have g36 := E30.old g21
  have ew24 : w24 = (i64 (modI v 5)) := (Option.some.inj Q32.1).symm
  subst ew24
  have nxM26 : M26.next = M11.next := by rw [← e29]; exact Q32.2
  have lg37 : M26.log = [] := by rw [← e29]; exact lg22
  have X38 := X23.trans E30
  obtain ⟨M39, q40, g41, kp42, X43, hM44, nx45⟩ := store_t (o := 0 + (modI (IntKind.wrap .i64 (w.tdiv (4 : Int))) (((n : Nat) : Int)) : Int).toNat * 5 + (modI v 5 : Int).toNat * 1) (v := (i64 v)) (new := splice cs (0 + (modI (IntKind.wrap .i64 (w.tdiv (4 : Int))) (((n : Nat) : Int)) : Int).toNat * 5 + (modI v 5 : Int).toNat * 1) [(i64 v)]) X38 nbs hM31 dS3 g35 rfl rfl (Nat.zero_le _) (by rw [hcs]; show _ + 1 ≤ n * 5; have h1 := modI_range (x := v) (n := 5) (by decide); have h2 := modI_range (x := IntKind.wrap .i64 (w.tdiv (4 : Int))) (n := ((n : Nat) : Int)) (by omega); omega) rfl
  replace g41 : M39.get bs = some ⟨splice cs (0 + (modI (IntKind.wrap .i64 (w.tdiv (4 : Int))) (((n : Nat) : Int)) : Int).toNat * 5 + (modI v 5 : Int).toNat * 1) [(i64 v)], 31, 5, 0, true⟩ := g41
  have g46 := (kp42 _ dpbs).trans g34
  have g47 := (kp42 _ (Ne.symm dbsbf)).trans g36
  have lg48 : M39.log = [bs] := by rw [nx45, lg37]
  obtain ⟨M49, ef50⟩ : ∃ m : Mem, m = (Mem.mk M39.blks M39.next M39.hide (M39.log ++ M.log)) := ⟨_, rfl⟩
  have X51 : Ext M0 M49 := by rw [ef50]; exact Ext.join (X0) (X43)
  have hM52 : MemOk M49 := by rw [ef50]; exact hM44
  have g53 : M49.get p = some ⟨[(sli bs 0 n n), (sli bf 0 n n)], 25, 2, 0, true⟩ := by rw [ef50]; exact g46
  have g54 : M49.get bs = some ⟨(splice cs (0 + (modI (IntKind.wrap .i64 (w.tdiv (4 : Int))) (((n : Nat) : Int)) : Int).toNat * 5 + (modI v 5 : Int).toNat * 1) [(i64 v)]), 31, 5, 0, true⟩ := by rw [ef50]; exact g41
  have g55 : M49.get bf = some ⟨cf, 4, 1, 0, true⟩ := by rw [ef50]; exact g47
  have hraw := s3_1_raw p bs bf n w v cs cf M M11 M26 M39
  have rw0 : Mem.mk M.blks M.next M.hide [] = R1 := eR2.symm
  have rw1 : Mem.mk M11.blks M11.next M.hide M11.log = M11 := by rw [(show M.hide = M11.hide from ((X0).hide.trans (X23).hide.symm))]
  have rw2 : Mem.mk M11.blks M11.next (hides 0 [⟨7, 1, M.next, M11.next⟩, ⟨6, 0, M.next, M.next⟩, ⟨5, 1, M.next, M.next⟩, ⟨4, 0, M.next, M.next⟩, ⟨3, 0, M.next, M.next⟩, ⟨2, 0, M.next, M.next⟩, ⟨0, 0, M.next, M.next⟩] ++ M.hide) M11.log = M11 := by rw [show hides 0 [⟨7, 1, M.next, M11.next⟩, ⟨6, 0, M.next, M.next⟩, ⟨5, 1, M.next, M.next⟩, ⟨4, 0, M.next, M.next⟩, ⟨3, 0, M.next, M.next⟩, ⟨2, 0, M.next, M.next⟩, ⟨0, 0, M.next, M.next⟩] = [] from by simp [hides, Nat.beq_refl, nxR1, nxM11, show Nat.beq 1 0 = false from rfl], (show M.hide = M11.hide from ((X0).hide.trans (X23).hide.symm))]; rfl
  have rw3 : Mem.mk M26.blks M26.next M.hide M26.log = M26 := by rw [(show M.hide = M26.hide from ((X0).hide.trans (X38).hide.symm))]
  have rw4 : Mem.mk M26.blks M26.next (hides 0 [⟨9, 1, M11.next, M26.next⟩, ⟨8, 0, M11.next, M11.next⟩, ⟨7, 1, M.next, M11.next⟩, ⟨6, 0, M.next, M.next⟩, ⟨5, 1, M.next, M.next⟩, ⟨4, 0, M.next, M.next⟩, ⟨3, 0, M.next, M.next⟩, ⟨2, 0, M.next, M.next⟩, ⟨0, 0, M.next, M.next⟩] ++ M.hide) M26.log = M26 := by rw [show hides 0 [⟨9, 1, M11.next, M26.next⟩, ⟨8, 0, M11.next, M11.next⟩, ⟨7, 1, M.next, M11.next⟩, ⟨6, 0, M.next, M.next⟩, ⟨5, 1, M.next, M.next⟩, ⟨4, 0, M.next, M.next⟩, ⟨3, 0, M.next, M.next⟩, ⟨2, 0, M.next, M.next⟩, ⟨0, 0, M.next, M.next⟩] = [] from by simp [hides, Nat.beq_refl, nxR1, nxM11, nxM26, show Nat.beq 1 0 = false from rfl], (show M.hide = M26.hide from ((X0).hide.trans (X38).hide.symm))]; rfl
  have rw5 : Mem.mk M26.blks M26.next (hides 255 [⟨10, 0, M26.next, M26.next⟩, ⟨9, 1, M11.next, M26.next⟩, ⟨8, 0, M11.next, M11.next⟩, ⟨7, 1, M.next, M11.next⟩, ⟨6, 0, M.next, M.next⟩, ⟨5, 1, M.next, M.next⟩, ⟨4, 0, M.next, M.next⟩, ⟨3, 0, M.next, M.next⟩, ⟨2, 0, M.next, M.next⟩, ⟨0, 0, M.next, M.next⟩] ++ M.hide) M26.log = M26 := by rw [show hides 255 [⟨10, 0, M26.next, M26.next⟩, ⟨9, 1, M11.next, M26.next⟩, ⟨8, 0, M11.next, M11.next⟩, ⟨7, 1, M.next, M11.next⟩, ⟨6, 0, M.next, M.next⟩, ⟨5, 1, M.next, M.next⟩, ⟨4, 0, M.next, M.next⟩, ⟨3, 0, M.next, M.next⟩, ⟨2, 0, M.next, M.next⟩, ⟨0, 0, M.next, M.next⟩] = [] from by simp [hides, Nat.beq_refl, nxR1, nxM11, nxM26, show Nat.beq 1 0 = false from rfl, show Nat.testBit 255 5 = true from rfl, show Nat.testBit 255 7 = true from rfl], (show M.hide = M26.hide from ((X0).hide.trans (X38).hide.symm))]; rfl
  have rw6 : Mem.mk M39.blks M39.next M.hide M39.log = M39 := by rw [(show M.hide = M39.hide from ((X0).hide.trans (X43).hide.symm))]
  have rw7 : (Mem.mk M39.blks M39.next M.hide (M39.log ++ M.log)) = (Mem.mk M39.blks M39.next M39.hide (M39.log ++ M.log)) := by rw [(show M.hide = M39.hide from ((X0).hide.trans (X43).hide.symm))]
  have rw8 : (Mem.mk M39.blks M39.next M39.hide (M39.log ++ M.log)) = M49 := ef50.symm
  try rw [rw0] at hraw
  try rw [rw1] at hraw
  try rw [rw2] at hraw
  try rw [rw3] at hraw
  try rw [rw4] at hraw
  try rw [rw5] at hraw
  try rw [rw6] at hraw
  try rw [rw7] at hraw
  try rw [rw8] at hraw
  obtain ⟨T1, h1, h2⟩ := Rd.told noNumP mixedP (fun B => specsB_ok (k := []) (hS3_17 B) (fun p hp => by cases hp)) (fun _ _ => rfl) hraw (hk (lC dC22 g6 rfl) (hk (q_lt ltpM) (hk (lC dC22 g6 rfl) (hk (q_call rfl p12 l13 e14) (hk (q_call rfl p27 l28 e29) (hk (q_inb (modI_range (by omega)).1 (modI_range (by omega)).2) (hk (q_inb (by have := modI_range (x := v) (n := 5) (by decide); omega) (by have := modI_range (x := v) (n := 5) (by decide); omega)) (hk (q_st q40) (hk (q_apart (by rw [lg48]; simp <;> omega)) hn)))))))))
  exact ⟨T1, M49, bs, bf, h1, h2, X51, hM52, g53, g54, g55⟩
theorem s3_2_raw (p _ bf n : Nat) (w v : Int) (_ _ : List Value) (M : Mem) (b1 : Nat) (M2 : Mem) (b14 : Nat) (M15 : Mem) (M23 : Mem) : oR Tryd.prog [] 60 Tryd.f3 (.block 0 (q3.blkAt 0)) [(4, (i64 w)), (5, (i64 v)), (13, (pt p 0)), (34, (i64 2))] M [ttL 18 (sli bf 0 n n), ttV 20 (sli b1 0 1 2) M2, .at 22 (2, .val (sli b14 0 (n + 1) (n + 1)), M15), ttS 26 M23] [13] = some (.normal, [some (pt p 0)], M23, [qL 23 p 1 M (sli bf 0 n n), .eq (abuildSlice Tryd.prog 23 1 [(0, (.bool true))] M) (1, .val (sli b1 0 1 2), M2), .q (.append [23, 23] (sli bf 0 n n) (sli b1 0 1 2) M2) (2, .val (sli b14 0 (n + 1) (n + 1)), M15), qS 23 p 1 (sli b14 0 (n + 1) (n + 1)) M15 M23]) := by kernel_rfl
theorem s3_2 (p bs bf n : Nat) (w v : Int) (cs cf : List Value) {M : Mem} (hM : MemOk M) {M0 : Mem} (X0 : Ext M0 M) (np : M0.next ≤ p) (hn9 : 1 ≤ n ∧ n ≤ 9) (gp : M.get p = some ⟨[sli bs 0 n n, sli bf 0 n n], 25, 2, 0, true⟩) (_ : M0.next ≤ bs) (gs : M.get bs = some ⟨cs, 31, 5, 0, true⟩) (dpbs : p ≠ bs) (_ : cs.length = n * 5) (nbf : M0.next ≤ bf) (gf : M.get bf = some ⟨cf, 4, 1, 0, true⟩) (dpbf : p ≠ bf) (hcf : cf.length = n * 1) (dbsbf : bs ≠ bf) : ∃ T1 M' b0 b1, Rd Tryd.prog [] (.block 0 (q3.blkAt 0)) Tryd.f3.ntmps (fr [(4, (i64 w)), (5, (i64 v)), (13, (pt p 0)), (34, (i64 2))]) M .normal T1 M' ∧ [13].map T1.get = [some (pt p 0)] ∧ Ext M0 M' ∧ MemOk M' ∧ M'.get p = some ⟨[(sli b0 0 n n), (sli b1 0 (n + 1) (n + 1))], 25, 2, 0, true⟩ ∧ M'.get b0 = some ⟨cs, 31, 5, 0, true⟩ ∧ M'.get b1 = some ⟨cf ++ [(.bool true)], 4, 1, 0, true⟩ := by
  obtain ⟨b1, M2, eb3, em4, g5, E6, hM7⟩ := new_t hM ⟨[(.bool true)], 4, 1, 0, true⟩
  have nb1 : M0.next ≤ b1 := by rw [← eb3]; exact X0.next
  have dpb1 : p ≠ b1 := by have := Mem.lt_of_get gp; omega
  have dbsb1 : bs ≠ b1 := by have := Mem.lt_of_get gs; omega
  have dbfb1 : bf ≠ b1 := by have := Mem.lt_of_get gf; omega
  have g8 := E6.old gp
  have g9 := E6.old gs
  have g10 := E6.old gf
  have X11 := X0.trans E6
  obtain ⟨b14, M15, eb16, em17, g18, X13, hM19, kp12⟩ := grow_t X11 nbf hM7 ⟨cf ++ [(.bool true)], 4, 1, 0, true⟩
  have nb14 : M0.next ≤ b14 := by rw [← eb16]; exact X11.next
  have dpb14 : p ≠ b14 := by have := Mem.lt_of_get g8; omega
  have dbsb14 : bs ≠ b14 := by have := Mem.lt_of_get g9; omega
  have dbfb14 : bf ≠ b14 := by have := Mem.lt_of_get g10; omega
  have db1b14 : b1 ≠ b14 := by have := Mem.lt_of_get g5; omega
  have g20 := (kp12 _ dpbf (Mem.lt_of_get g8)).trans g8
  have g21 := (kp12 _ dbsbf (Mem.lt_of_get g9)).trans g9
  have g22 := (kp12 _ (Ne.symm dbfb1) (Mem.lt_of_get g5)).trans g5
  obtain ⟨M23, q24, g25, kp26, X27, hM28, nx29⟩ := store_t (o := 1) (v := (sli b14 0 (n + 1) (n + 1))) (new := [(sli bs 0 n n), (sli b14 0 (n + 1) (n + 1))]) X13 np hM19 dS23 g20 rfl rfl (Nat.zero_le _) (Nat.le_of_ble_eq_true rfl) rfl
  replace g25 : M23.get p = some ⟨[(sli bs 0 n n), (sli b14 0 (n + 1) (n + 1))], 25, 2, 0, true⟩ := g25
  have g30 := (kp26 _ (Ne.symm dpbs)).trans g21
  have g31 := (kp26 _ (Ne.symm dpb1)).trans g22
  have g32 := (kp26 _ (Ne.symm dpb14)).trans g18
  have hraw := s3_2_raw p bs bf n w v cs cf M b1 M2 b14 M15 M23
  obtain ⟨T1, h1, h2⟩ := Rd.told noNumP mixedP (specs_none Tryd.prog) (fun _ _ => rfl) hraw (hk (lC dC23 gp rfl) (hk (q_eq (by rw [← eb3, ← em4]; kernel_rfl) Nat.one_ne_zero) (hk (q_app (by rw [← eb16, ← em17]; exact append_more (w := 1) (by kernel_rfl) (by kernel_rfl) (by kernel_rfl) (y := 1) (by kernel_rfl) (by decide) (by decide) (by omega) g5 rfl rfl rfl g10 hcf rfl rfl rfl rfl) (Nat.succ_ne_zero _)) (hk (q_st q24) hn))))
  exact ⟨T1, M23, bs, b14, h1, h2, X27, hM28, g25, g30, g32⟩
theorem s3_3_raw (p _ _ _ : Nat) (w v : Int) (_ _ : List Value) (M : Mem) (M1 : Mem) : oR Tryd.prog [] 60 Tryd.f3 (.block 0 (q3.blkAt 0)) [(4, (i64 w)), (5, (i64 v)), (13, (pt p 0)), (34, (i64 3))] M [ttS 23 M1] [13] = some (.normal, [some (pt p 0)], M1, [qS 25 p 0 (.agg ⟨[sln, sln]⟩) M M1]) := by kernel_rfl
theorem s3_3 (p bs bf n : Nat) (w v : Int) (cs cf : List Value) {M : Mem} (hM : MemOk M) {M0 : Mem} (X0 : Ext M0 M) (np : M0.next ≤ p) (_ : 1 ≤ n ∧ n ≤ 9) (gp : M.get p = some ⟨[sli bs 0 n n, sli bf 0 n n], 25, 2, 0, true⟩) (_ : M0.next ≤ bs) (gs : M.get bs = some ⟨cs, 31, 5, 0, true⟩) (dpbs : p ≠ bs) (_ : cs.length = n * 5) (_ : M0.next ≤ bf) (gf : M.get bf = some ⟨cf, 4, 1, 0, true⟩) (dpbf : p ≠ bf) (_ : cf.length = n * 1) (_ : bs ≠ bf) : ∃ T1 M', Rd Tryd.prog [] (.block 0 (q3.blkAt 0)) Tryd.f3.ntmps (fr [(4, (i64 w)), (5, (i64 v)), (13, (pt p 0)), (34, (i64 3))]) M .normal T1 M' ∧ [13].map T1.get = [some (pt p 0)] ∧ Ext M0 M' ∧ MemOk M' ∧ M'.get p = some ⟨[sln, sln], 25, 2, 0, true⟩ := by
  obtain ⟨M1, q2, g3, kp4, X5, hM6, nx7⟩ := store_t (o := 0) (v := (.agg ⟨[sln, sln]⟩)) (new := [sln, sln]) X0 np hM dS25 gp rfl rfl (Nat.zero_le _) (Nat.le_of_ble_eq_true rfl) rfl
  replace g3 : M1.get p = some ⟨[sln, sln], 25, 2, 0, true⟩ := g3
  have g8 := (kp4 _ (Ne.symm dpbs)).trans gs
  have g9 := (kp4 _ (Ne.symm dpbf)).trans gf
  have hraw := s3_3_raw p bs bf n w v cs cf M M1
  obtain ⟨T1, h1, h2⟩ := Rd.told noNumP mixedP (specs_none Tryd.prog) (fun _ _ => rfl) hraw (hk (q_st q2) hn)
  exact ⟨T1, M1, h1, h2, X5, hM6, g3⟩
end Go.Proofs.YtepgijgmnijdpaaDoor

open Go Go.Am Go.Proofs
namespace Go.Proofs.YtepgijgmnijdpaaDoor
set_option maxRecDepth 100000
theorem BlkOk.gl {P : Program} {GL : List Nat} {B : Bd} {id : Nat} {g : Code → St → Option (AExit × St)} (h : BlkOk P [] B id g) : BlkOk P GL B id g :=
  ⟨h.abs, fun b s e s' hg φ a w Q hR hG hT hk => h.run b s e s' hg φ a w Q hR.noGl hG hT fun L φ' a' w' h1 h2 h3 h4 => hk L φ' a' w' h1 (h2.gl hR) h3 h4⟩
theorem Con.gl {P : Program} {GL : List Nat} {f : FuncId} {Q : List Value → Mem → Value → Mem → Prop} {args : List Value} {M : Mem} (h : ∃ v M', Con P [] f Q args M v M') : ∃ v M', Con P GL f Q args M v M' := by
  obtain ⟨v, M', h1, h2⟩ := h
  exact ⟨v, M', h1.gl, h2⟩
noncomputable abbrev oTg (P : Program) (GL : List Nat) (tb : List Nat) (n : Nat) (fn : Func) (q : QC) (args : List Value) (M : Mem) (F : List OF) (k : Nat) := (oexec P GL tb n fn.ntmps q (initT args 0 .nil) M F 0).map (fun r => (r.1.1, r.1.2.1.get k, r.1.2.2, r.2.2.2))
theorem dfaAt_of {M' : Mem} {bs bf n m w1 w2 : Nat} {q1 q2 : Bool} {cs cf : List Value} {rows : List (List Int)} {accs : List Bool} (h1 : M'.get bs = some ⟨cs, 31, 5, w1, q1⟩) (e1 : cs = (irows rows).flatten) (hw : ∀ r ∈ rows, r.length = 5) (hl : rows.length = n)
    (h2 : M'.get bf = some ⟨cf, 4, 1, w2, q2⟩) (e2 : cf = (brows accs).flatten) (hm : accs.length = m) (hn9 : n ≤ 100) (hm9 : m ≤ 100) : DfaAt M' (.agg ⟨[sli bs 0 n n, sli bf 0 m m]⟩) rows accs := by
  subst hl hm
  refine ⟨_, _, rfl, ⟨?_, hw, by omega⟩, ⟨?_, fun _ _ => rfl, by omega⟩⟩
  · exact .inr ⟨bs, 0, rows.length, _, [], [], rfl, h1, by simp [e1], rfl, fun r hr => irows_wide hw r hr⟩
  · exact .inr ⟨bf, 0, accs.length, _, [], [], rfl, h2, by simp [e2, brows], rfl, fun r hr => by obtain ⟨b, _, rfl⟩ := List.mem_map.1 hr; rfl⟩
theorem chunk5 : ∀ (n : Nat) (zs : List Int), zs.length = n * 5 → ∃ l : List (List Int), l.length = n ∧ (∀ r ∈ l, r.length = 5) ∧ (irows l).flatten = zs.map i64
  | 0, zs, h => ⟨[], rfl, (fun r hr => by cases hr), by rw [List.eq_nil_of_length_eq_zero (by omega : zs.length = 0)]; rfl⟩
  | n + 1, zs, h => by
    obtain ⟨l, h1, h2, h3⟩ := chunk5 n (zs.drop 5) (by simp; omega)
    refine ⟨zs.take 5 :: l, by simp [h1], fun r hr => ?_, ?_⟩
    · rcases List.mem_cons.1 hr with rfl | hr
      · simp; omega
      · exact h2 r hr
    · show (irows (zs.take 5 :: l)).flatten = _
      have : irows (zs.take 5 :: l) = (zs.take 5).map i64 :: irows l := rfl
      rw [this, List.flatten_cons, h3, ← List.map_append, List.take_append_drop]
theorem irows_ints (l : List (List Int)) : (irows l).flatten = l.flatten.map i64 := by
  induction l with
  | nil => rfl
  | cons r l ih =>
    have : irows (r :: l) = r.map i64 :: irows l := rfl
    rw [this, List.flatten_cons, ih, List.flatten_cons, List.map_append]
theorem splice_one : ∀ (cs : List Value) (o : Nat) (v : Value), o < cs.length → splice cs o [v] = cs.take o ++ v :: cs.drop (o + 1)
  | [], _, _, h => by simp at h
  | c :: cs, 0, v, _ => by cases cs <;> simp [splice]
  | c :: cs, o + 1, v, h => by
    have := splice_one cs o v (by simpa using h)
    simp [splice, this]
theorem splice_rows {rows : List (List Int)} {n o : Nat} {z : Int} (hw : ∀ r ∈ rows, r.length = 5) (hl : rows.length = n) (ho : o + 1 ≤ n * 5) :
    ∃ l : List (List Int), l.length = n ∧ (∀ r ∈ l, r.length = 5) ∧ splice (irows rows).flatten o [i64 z] = (irows l).flatten := by
  have hf : rows.flatten.length = n * 5 := by
    have := irows_flen hw
    rw [irows_ints, List.length_map, hl] at this
    exact this
  obtain ⟨l, h1, h2, h3⟩ := chunk5 n (rows.flatten.take o ++ z :: rows.flatten.drop (o + 1)) (by rw [List.length_append, List.length_take, List.length_cons, List.length_drop, hf]; omega)
  refine ⟨l, h1, h2, ?_⟩
  rw [h3, irows_ints, splice_one _ _ _ (by rw [List.length_map, hf]; omega)]
  simp [List.map_take, List.map_drop]
def SwOut (M0 M : Mem) (p : Nat) (w v : Int) (j : Nat) : Prop :=
  ∃ T1 M' S' F' l1' l2', Rd Tryd.prog [] (.block 0 (q3.blkAt 0)) Tryd.f3.ntmps (fr [(4, (i64 w)), (5, (i64 v)), (13, (pt p 0)), (34, (i64 ((j : Nat) : Int)))]) M .normal T1 M' ∧ [13].map T1.get = [some (pt p 0)] ∧ Ext M0 M' ∧ MemOk M' ∧
    M'.get p = some ⟨[S', F'], 25, 2, 0, true⟩ ∧ DfaAt M' (.agg ⟨[S', F']⟩) l1' l2'
theorem switch3 (j : Nat) (hj : j < 4) {M0 M : Mem} (hM : MemOk M) (X0 : Ext M0 M) (p bs bf n : Nat) (w v : Int) (np : M0.next ≤ p) (hn9 : 1 ≤ n ∧ n ≤ 9) {rows : List (List Int)} {accs : List Bool}
    (gp : M.get p = some ⟨[sli bs 0 n n, sli bf 0 n n], 25, 2, 0, true⟩) (nbs : M0.next ≤ bs) (gs : M.get bs = some ⟨(irows rows).flatten, 31, 5, 0, true⟩) (dpbs : p ≠ bs) (hw : ∀ r ∈ rows, r.length = 5) (hl : rows.length = n) (nbf : M0.next ≤ bf) (gf : M.get bf = some ⟨(brows accs).flatten, 4, 1, 0, true⟩) (dpbf : p ≠ bf) (hm : accs.length = n) (hd : bs ≠ bf) : SwOut M0 M p w v j := by
  have hcs : (irows rows).flatten.length = n * 5 := by rw [irows_flen hw, hl]
  have hcf : (brows accs).flatten.length = n * 1 := by rw [brows_flen, hm]
  have h5 := modI_range (x := v) (n := 5) (by decide)
  have h6 := modI_range (x := IntKind.wrap .i64 (w.tdiv (4 : Int))) (n := ((n : Nat) : Int)) (by omega)
  match j, hj with
  | 0, _ =>
    obtain ⟨T1, M', b0, b1, e1, e2, e3, e4, e5, e6, e7⟩ := s3_0 p bs bf n w v _ _ hM X0 np hn9 gp nbs gs dpbs hcs nbf gf dpbf hcf hd
    obtain ⟨l, k1, k2, k3⟩ := splice_rows (z := IntKind.wrap .i64 ((IntKind.wrap .i64 ((((n : Nat) : Int)) - (1 : Int))) + (modI v 3))) hw hl (o := 0 + (modI (IntKind.wrap .i64 (w.tdiv (4 : Int))) (((n : Nat) : Int)) : Int).toNat * 5 + (modI v 5 : Int).toNat * 1) (by omega)
    exact ⟨T1, M', _, _, l, accs, e1, e2, e3, e4, e5, dfaAt_of e6 k3 k2 k1 e7 rfl hm (by omega) (by omega)⟩
  | 1, _ =>
    obtain ⟨T1, M', b0, b1, e1, e2, e3, e4, e5, e6, e7⟩ := s3_1 p bs bf n w v _ _ hM X0 np hn9 gp nbs gs dpbs hcs nbf gf dpbf hcf hd
    obtain ⟨l, k1, k2, k3⟩ := splice_rows (z := v) hw hl (o := 0 + (modI (IntKind.wrap .i64 (w.tdiv (4 : Int))) (((n : Nat) : Int)) : Int).toNat * 5 + (modI v 5 : Int).toNat * 1) (by omega)
    exact ⟨T1, M', _, _, l, accs, e1, e2, e3, e4, e5, dfaAt_of e6 k3 k2 k1 e7 rfl hm (by omega) (by omega)⟩
  | 2, _ =>
    obtain ⟨T1, M', b0, b1, e1, e2, e3, e4, e5, e6, e7⟩ := s3_2 p bs bf n w v _ _ hM X0 np hn9 gp nbs gs dpbs hcs nbf gf dpbf hcf hd
    exact ⟨T1, M', _, _, rows, accs ++ [true], e1, e2, e3, e4, e5, dfaAt_of e6 rfl hw hl e7 (brows_app accs true).symm (by simp [hm]) (by omega) (by omega)⟩
  | 3, _ =>
    obtain ⟨T1, M', e1, e2, e3, e4, e5⟩ := s3_3 p bs bf n w v _ _ hM X0 np hn9 gp nbs gs dpbs hcs nbf gf dpbf hcf hd
    exact ⟨T1, M', _, _, [], [], e1, e2, e3, e4, e5, _, _, rfl, ⟨.inl ⟨_, rfl, rfl⟩, (fun r hr => by cases hr), by simp⟩, ⟨.inl ⟨_, rfl, rfl⟩, (fun r hr => by cases hr), by simp⟩⟩
end Go.Proofs.YtepgijgmnijdpaaDoor

open Go Go.Am Go.Proofs
namespace Go.Proofs.YtepgijgmnijdpaaDoor
set_option maxRecDepth 100000
def g12 : List Value → Option Value
  | [] => some (.bool true)
  | _ => none
theorem con12c {e : TypeId} {M : Mem} (hT : M.get 0 = some (tabB e)) : ∃ v M', Con Tryd.prog [0] 12 (Fl g12) [] M v M' := ⟨.bool true, M, con12 hT, Ext.refl M, rfl⟩
theorem rK3 : Tryd.f3.results = #[.tmp 12] := by kernel_rfl
theorem hS3_12_13_14_15_16_17 (B : Bd) : ∀ p ∈ ([(12, pick (Con Tryd.prog [0] 12 (Fl g12))), (13, pick (Con Tryd.prog [0] 13 Qfew)), (14, pick (Con Tryd.prog [0] 14 Qmk)), (15, pick (Con Tryd.prog [0] 15 Qchk)), (16, pick (Con Tryd.prog [0] 16 Qchk)), (17, pick (Con Tryd.prog [0] 17 Q17))] : List (FuncId × (List Value → Mem → Option (Value × Mem)))), SpecOk Tryd.prog [0] B p.1 p.2 := (fun p hp => by simp only [List.mem_cons, List.not_mem_nil, or_false] at hp; rcases hp with rfl | rfl | rfl | rfl | rfl | rfl <;> first | exact Con.ok _ | exact SpecOk.gl (Con.ok _))
theorem w3_0_raw (a1 : Option Addr) (c1 : Nat) (a2 : Option Addr) (c2 : Nat) (l1 : List (List Int)) (l2 : List Bool) (x : Int) (a : Option Addr) (c : Nat) (ns : List Int) (y w v : Int) (j : Nat) (_ : TypeId) (M : Mem) (b1 : Nat) (M2 : Mem) (M11 : Mem) (M23 : Mem) (M36 : Mem) (y33s : Nat) (y33f : Nat) (b46 : Nat) (M47 : Mem) (M57 : Mem) (M78 : Mem) (M99 : Mem) (M120 : Mem) (M149 : Mem) (M162 : Mem) (sSv : Value) (sFv : Value) (sl1 : List (List Int)) (sl2 : List Bool) (M178 : Mem) (M194 : Mem) : oTg Tryd.prog [0] [0] 60 Tryd.f3 q3 [(.agg ⟨[(.slice a1 l1.length c1), (.slice a2 l2.length c2)]⟩), i64 x, (.slice a ns.length c), i64 y, i64 w, i64 v] M [ttV 1 (pt b1 0) M2, ttV 5 (.bool true) M11, ttL 10 (.agg ⟨[(.slice a1 l1.length c1), (.slice a2 l2.length c2)]⟩), ttV 12 (.bool (fewB l1 l2)) M23, ttF 15, ttV 23 (.agg ⟨[(sli y33s 0 (nN x) (nN x)), (sli y33f 0 (nN x) (nN x))]⟩) M36, ttV 25 (pt b46 0) M47, ttS 27 M57, ttL 29 (.agg ⟨[(.slice a1 l1.length c1), (.slice a2 l2.length c2)]⟩), ttV 31 (.bool (chkB l1 l2)) M78, ttL 33 (.agg ⟨[(.slice a1 l1.length c1), (.slice a2 l2.length c2)]⟩), ttV 35 (.bool (chkB l1 l2)) M99, ttF 40, ttL 41 (.agg ⟨[(sli y33s 0 (nN x) (nN x)), (sli y33f 0 (nN x) (nN x))]⟩), ttF 42, ttV 43 (.bool true) M120, ttF 44, ttF 47, ttV 52 (i64 (((j : Nat) : Int))) M149, .blk 53 [4, 5, 13, 34] .normal (fr [(13, (pt b46 0))]) M162, ttL 55 (.agg ⟨[sSv, sFv]⟩), ttV 57 (.bool (chkB sl1 sl2)) M178, ttL 59 (.agg ⟨[sSv, sFv]⟩), ttV 61 (.bool (chkB sl1 sl2)) M194] 12 = some (.ret, some (.bool ((chkB sl1 sl2) == (chkB sl1 sl2))), (Mem.mk M194.blks M194.next M162.hide (M194.log ++ M162.log)), [.eq (abox Tryd.prog 25 (.agg ⟨[(.slice a1 l1.length c1), (.slice a2 l2.length c2)]⟩) M) (1, .val (pt b1 0), M2), qC 12 [] M2 (.bool true) M11, qL 25 b1 0 M11 (.agg ⟨[(.slice a1 l1.length c1), (.slice a2 l2.length c2)]⟩), qC 13 [(.agg ⟨[(.slice a1 l1.length c1), (.slice a2 l2.length c2)]⟩)] M11 (.bool (fewB l1 l2)) M23, qF (!(fewB l1 l2)), qC 14 [(i64 x), (.slice a ns.length c), (i64 y)] M23 (.agg ⟨[(sli y33s 0 (nN x) (nN x)), (sli y33f 0 (nN x) (nN x))]⟩) M36, .eq (aalloc Tryd.prog 25 M36) (1, .val (pt b46 0), M47), qS 25 b46 0 (.agg ⟨[(sli y33s 0 (nN x) (nN x)), (sli y33f 0 (nN x) (nN x))]⟩) M47 M57, qL 25 b1 0 (Mem.mk M57.blks M57.next M57.hide []) (.agg ⟨[(.slice a1 l1.length c1), (.slice a2 l2.length c2)]⟩), qC 15 [(.agg ⟨[(.slice a1 l1.length c1), (.slice a2 l2.length c2)]⟩)] (Mem.mk M57.blks M57.next M57.hide []) (.bool (chkB l1 l2)) M78, qL 25 b1 0 (Mem.mk M78.blks M78.next (hides 0 [⟨1, 1, M57.next, M78.next⟩, ⟨0, 1, M57.next, M57.next⟩] ++ M57.hide) M78.log) (.agg ⟨[(.slice a1 l1.length c1), (.slice a2 l2.length c2)]⟩), qT (Nat.blt b1 M57.next), qC 16 [(.agg ⟨[(.slice a1 l1.length c1), (.slice a2 l2.length c2)]⟩)] (Mem.mk M78.blks M78.next M57.hide M78.log) (.bool (chkB l1 l2)) M99, qF (!((chkB l1 l2) == (chkB l1 l2))), qL 25 b46 0 (Mem.mk M99.blks M99.next M57.hide M99.log) (.agg ⟨[(sli y33s 0 (nN x) (nN x)), (sli y33f 0 (nN x) (nN x))]⟩), qF (!((chkB l1 l2) == (chkB l1 l2))), qC 15 [(.agg ⟨[(sli y33s 0 (nN x) (nN x)), (sli y33f 0 (nN x) (nN x))]⟩)] (Mem.mk M99.blks M99.next M57.hide M99.log) (.bool true) M120, qF (!((chkB l1 l2) == (chkB l1 l2))), qF (!((chkB l1 l2) == (chkB l1 l2))), qT (apartN [b1] M120.log), qC 17 [(i64 w), (i64 4)] (Mem.mk M120.blks M120.next M57.hide (M120.log ++ M57.log)) (i64 (((j : Nat) : Int))) M149, .blk 0 (q3.blkAt 0) Tryd.f3.ntmps [4, 5, 13, 34] [some (i64 w), some (i64 v), some (pt b46 0), some (i64 (((j : Nat) : Int)))] M149 .normal (fr [(13, (pt b46 0))]) M162, qL 25 b46 0 (Mem.mk M162.blks M162.next M162.hide []) (.agg ⟨[sSv, sFv]⟩), qC 15 [(.agg ⟨[sSv, sFv]⟩)] (Mem.mk M162.blks M162.next M162.hide []) (.bool (chkB sl1 sl2)) M178, qL 25 b46 0 (Mem.mk M178.blks M178.next (hides 0 [⟨1, 1, M162.next, M178.next⟩, ⟨0, 1, M162.next, M162.next⟩] ++ M162.hide) M178.log) (.agg ⟨[sSv, sFv]⟩), qT (Nat.blt b46 M162.next), qC 16 [(.agg ⟨[sSv, sFv]⟩)] (Mem.mk M178.blks M178.next M162.hide M178.log) (.bool (chkB sl1 sl2)) M194, qT (apartN [b46] M194.log)]) := by kernel_rfl
theorem w3_0 (a1 : Option Addr) (c1 : Nat) (a2 : Option Addr) (c2 : Nat) (l1 : List (List Int)) (l2 : List Bool) (x : Int) (a : Option Addr) (c : Nat) (ns : List Int) (y w v : Int) (j : Nat) (e : TypeId) {M : Mem} (hM : MemOk M) (hT : M.get 0 = some (tabB e)) (hr : DfaAt M (.agg ⟨[(.slice a1 l1.length c1), (.slice a2 l2.length c2)]⟩) l1 l2) (hs : FlatAt 1 M (.slice a ns.length c) (ns.map ([·]))) (hj4 : j < 4) (hj : modI w 4 = ((j : Nat) : Int)) (cc0 : (fewB l1 l2) = true) : ∃ M', Ev Tryd.prog [0] 3 [(.agg ⟨[(.slice a1 l1.length c1), (.slice a2 l2.length c2)]⟩), i64 x, (.slice a ns.length c), i64 y, i64 w, i64 v] M (.bool true) M' := by
  obtain ⟨b1, M2, eb3, em4, g5, E6, hM7⟩ := new_t hM ⟨[(.slice a1 l1.length c1), (.slice a2 l2.length c2)], 25, 2, 0, true⟩
  have nb1 : M.next ≤ b1 := by rw [← eb3]; exact (Ext.refl M).next
  have X8 := (Ext.refl M).trans E6
  obtain ⟨w9, N10, M11, p12, l13, e14, E15, hM16, Q17, G18⟩ := call_t (P := Tryd.prog) (GL := [0]) (f := 12) hM7 (con12c ((X8).old hT))
  have g19 := E15.old g5
  have ew9 : w9 = .bool true := (Option.some.inj Q17).symm
  subst ew9
  have X20 := X8.trans E15
  obtain ⟨w21, N22, M23, p24, l25, e26, E27, hM28, Q29, G30⟩ := call_t (P := Tryd.prog) (GL := [0]) (f := 13) hM16 (Con.gl (con13 (MemOk.log hM16) (hr.Ext X20).log))
  have g31 := E27.old g19
  have ew21 := Qfew.val (hr.Ext X20).log Q29
  subst ew21
  have X32 := X20.trans E27
  obtain ⟨w34, N35, M36, p37, l38, e39, E40, hM41, Q42, G43⟩ := call_t (P := Tryd.prog) (GL := [0]) (f := 14) hM28 (Con.gl (con14 x a c ns y (MemOk.log hM28) (hs.Ext X32).log))
  have g44 := E40.old g31
  obtain ⟨y33s, y33f, ew34, ⟨y33n1, y33g1⟩, ⟨y33n2, y33g2⟩, dy33sy33f⟩ := Qmk.val (hs.Ext X32).log Q42
  subst ew34
  have y33m1 : M23.next ≤ y33s := y33n1
  have y33m2 : M23.next ≤ y33f := y33n2
  have y33h1 : M36.get y33s = some ⟨(irows (rowsI (nOf x) ns y (nN x))).flatten, 31, 5, 0, true⟩ := by rw [G43]; exact y33g1
  have y33h2 : M36.get y33f = some ⟨(brows (accsI y (nN x))).flatten, 4, 1, 0, true⟩ := by rw [G43]; exact y33g2
  have ny33s : M.next ≤ y33s := Nat.le_trans (X32).next y33m1
  have ny33f : M.next ≤ y33f := Nat.le_trans (X32).next y33m2
  have db1y33s : b1 ≠ y33s := by have := Mem.lt_of_get g31; omega
  have db1y33f : b1 ≠ y33f := by have := Mem.lt_of_get g31; omega
  have X45 := X32.trans E40
  obtain ⟨b46, M47, eb48, em49, g50, E51, hM52⟩ := new_t hM41 ⟨[sln, sln], 25, 2, 0, true⟩
  have nb46 : M.next ≤ b46 := by rw [← eb48]; exact X45.next
  have db1b46 : b1 ≠ b46 := by have := Mem.lt_of_get g44; omega
  have dy33sb46 : y33s ≠ b46 := by have := Mem.lt_of_get y33h1; omega
  have dy33fb46 : y33f ≠ b46 := by have := Mem.lt_of_get y33h2; omega
  have g53 := E51.old g44
  have g54 := E51.old y33h1
  have g55 := E51.old y33h2
  have X56 := X45.trans E51
  obtain ⟨M57, q58, g59, kp60, X61, hM62, nx63⟩ := store_t (o := 0) (v := (.agg ⟨[(sli y33s 0 (nN x) (nN x)), (sli y33f 0 (nN x) (nN x))]⟩)) (new := [(sli y33s 0 (nN x) (nN x)), (sli y33f 0 (nN x) (nN x))]) X56 nb46 hM52 dS25 g50 rfl rfl (Nat.zero_le _) (Nat.le_of_ble_eq_true rfl) rfl
  replace g59 : M57.get b46 = some ⟨[(sli y33s 0 (nN x) (nN x)), (sli y33f 0 (nN x) (nN x))], 25, 2, 0, true⟩ := g59
  have g64 := (kp60 _ db1b46).trans g53
  have g65 := (kp60 _ dy33sb46).trans g54
  have g66 := (kp60 _ dy33fb46).trans g55
  obtain ⟨R67, eR68⟩ : ∃ m : Mem, m = Mem.mk M57.blks M57.next M57.hide [] := ⟨_, rfl⟩
  have X69 : Ext (Mem.mk M.blks M.next M.hide []) R67 := by rw [eR68]; exact Ext.aside (X61)
  have lg70 : R67.log = [] := by rw [eR68]
  have hM71 : MemOk R67 := by rw [eR68]; exact MemOk.log hM62
  have ltb1M57 : b1 < M57.next := Mem.lt_of_get g64
  have g72 : R67.get b1 = some ⟨[(.slice a1 l1.length c1), (.slice a2 l2.length c2)], 25, 2, 0, true⟩ := by rw [eR68]; exact g64
  have lty33sM57 : y33s < M57.next := Mem.lt_of_get g65
  have g73 : R67.get y33s = some ⟨(irows (rowsI (nOf x) ns y (nN x))).flatten, 31, 5, 0, true⟩ := by rw [eR68]; exact g65
  have lty33fM57 : y33f < M57.next := Mem.lt_of_get g66
  have g74 : R67.get y33f = some ⟨(brows (accsI y (nN x))).flatten, 4, 1, 0, true⟩ := by rw [eR68]; exact g66
  have ltb46M57 : b46 < M57.next := Mem.lt_of_get g59
  have g75 : R67.get b46 = some ⟨[(sli y33s 0 (nN x) (nN x)), (sli y33f 0 (nN x) (nN x))], 25, 2, 0, true⟩ := by rw [eR68]; exact g59
  obtain ⟨w76, N77, M78, p79, l80, e81, E82, hM83, Q84, G85⟩ := call_t (P := Tryd.prog) (GL := [0]) (f := 15) hM71 (Con.gl (con15 (MemOk.log hM71) ((DfaAt.log hr).Ext X69).log))
  have g86 := E82.old g72
  have g87 := E82.old g73
  have g88 := E82.old g74
  have g89 := E82.old g75
  have ew76 := Qchk.val ((DfaAt.log hr).Ext X69).log Q84
  subst ew76
  have lg90 : M78.log = [] := by rw [← e81]; exact lg70
  have X91 := X69.trans E82
  have nx92 := E82.next
  have lb93 := Mem.lt_of_get g86
  have lb94 := Mem.lt_of_get g87
  have lb95 := Mem.lt_of_get g88
  have lb96 := Mem.lt_of_get g89
  obtain ⟨w97, N98, M99, p100, l101, e102, E103, hM104, Q105, G106⟩ := call_t (P := Tryd.prog) (GL := [0]) (f := 16) hM83 (Con.gl (con16 (MemOk.log hM83) ((DfaAt.log hr).Ext X91).log))
  have g107 := E103.old g86
  have g108 := E103.old g87
  have g109 := E103.old g88
  have g110 := E103.old g89
  have ew97 := Qchk.val ((DfaAt.log hr).Ext X91).log Q105
  subst ew97
  have lg111 : M99.log = [] := by rw [← e102]; exact lg90
  have X112 := X91.trans E103
  have nx113 := E103.next
  have lb114 := Mem.lt_of_get g107
  have lb115 := Mem.lt_of_get g108
  have lb116 := Mem.lt_of_get g109
  have lb117 := Mem.lt_of_get g110
  obtain ⟨w118, N119, M120, p121, l122, e123, E124, hM125, Q126, G127⟩ := call_t (P := Tryd.prog) (GL := [0]) (f := 15) hM104 (Con.gl (con15 (MemOk.log hM104) (mkAt g108 rfl g109 rfl).log))
  have g128 := E124.old g107
  have g129 := E124.old g108
  have g130 := E124.old g109
  have g131 := E124.old g110
  have ew118 := Qchk.val (mkAt g108 rfl g109 rfl).log Q126
  rw [mk_right] at ew118
  subst ew118
  have lg132 : M120.log = [] := by rw [← e123]; exact lg111
  have X133 := X112.trans E124
  have nx134 := E124.next
  have lb135 := Mem.lt_of_get g128
  have lb136 := Mem.lt_of_get g129
  have lb137 := Mem.lt_of_get g130
  have lb138 := Mem.lt_of_get g131
  obtain ⟨M139, ef140⟩ : ∃ m : Mem, m = (Mem.mk M120.blks M120.next M120.hide (M120.log ++ M57.log)) := ⟨_, rfl⟩
  have X141 : Ext M M139 := by rw [ef140]; exact Ext.join (X61) (X133)
  have hM142 : MemOk M139 := by rw [ef140]; exact hM125
  have g143 : M139.get b1 = some ⟨[(.slice a1 l1.length c1), (.slice a2 l2.length c2)], 25, 2, 0, true⟩ := by rw [ef140]; exact g128
  have g144 : M139.get y33s = some ⟨(irows (rowsI (nOf x) ns y (nN x))).flatten, 31, 5, 0, true⟩ := by rw [ef140]; exact g129
  have g145 : M139.get y33f = some ⟨(brows (accsI y (nN x))).flatten, 4, 1, 0, true⟩ := by rw [ef140]; exact g130
  have g146 : M139.get b46 = some ⟨[(sli y33s 0 (nN x) (nN x)), (sli y33f 0 (nN x) (nN x))], 25, 2, 0, true⟩ := by rw [ef140]; exact g131
  obtain ⟨w147, N148, M149, p150, l151, e152, E153, hM154, Q155, G156⟩ := call_t (P := Tryd.prog) (GL := [0]) (f := 17) hM142 (Con.gl (con17 w 4 (by decide)))
  have g157 := E153.old g143
  have g158 := E153.old g144
  have g159 := E153.old g145
  have g160 := E153.old g146
  have ew147 : w147 = i64 ((j : Nat) : Int) := by
    have h : i64 (modI w 4) = w147 := Option.some.inj Q155.1
    rw [← h, hj]
  subst ew147
  have X161 := X141.trans E153
  obtain ⟨T163, M162, sSv, sFv, sl1, sl2, hR164, hs165, X166, hM167, g168, sD⟩ := switch3 j hj4 hM154 X161 b46 y33s y33f (nN x) w v nb46 (nN_le x) g160 ny33s g158 (Ne.symm dy33sb46) (rowsI_wide _ _ _ _) (rowsI_len _ _ _ _) ny33f g159 (Ne.symm dy33fb46) (accsI_len _ _) dy33sy33f
  obtain ⟨R169, eR170⟩ : ∃ m : Mem, m = Mem.mk M162.blks M162.next M162.hide [] := ⟨_, rfl⟩
  have X171 : Ext (Mem.mk M.blks M.next M.hide []) R169 := by rw [eR170]; exact Ext.aside (X166)
  have lg172 : R169.log = [] := by rw [eR170]
  have hM173 : MemOk R169 := by rw [eR170]; exact MemOk.log hM167
  have ltb46M162 : b46 < M162.next := Mem.lt_of_get g168
  have g174 : R169.get b46 = some ⟨[sSv, sFv], 25, 2, 0, true⟩ := by rw [eR170]; exact g168
  have hN175 : DfaAt R169 (.agg ⟨[sSv, sFv]⟩) sl1 sl2 := sD.ext (by rw [eR170]; exact fun _ _ g => g)
  obtain ⟨w176, N177, M178, p179, l180, e181, E182, hM183, Q184, G185⟩ := call_t (P := Tryd.prog) (GL := [0]) (f := 15) hM173 (Con.gl (con15 (MemOk.log hM173) hN175.log))
  have g186 := E182.old g174
  have ew176 := Qchk.val hN175.log Q184
  subst ew176
  have lg187 : M178.log = [] := by rw [← e181]; exact lg172
  have X188 := X171.trans E182
  have nx189 := E182.next
  have lb190 := Mem.lt_of_get g186
  have hN191 : DfaAt R169 (.agg ⟨[sSv, sFv]⟩) sl1 sl2 := sD.ext (by rw [eR170]; exact fun _ _ g => g)
  replace hN191 := hN191.Ext E182
  obtain ⟨w192, N193, M194, p195, l196, e197, E198, hM199, Q200, G201⟩ := call_t (P := Tryd.prog) (GL := [0]) (f := 16) hM183 (Con.gl (con16 (MemOk.log hM183) hN191.log))
  have g202 := E198.old g186
  have ew192 := Qchk.val hN191.log Q200
  subst ew192
  have lg203 : M194.log = [] := by rw [← e197]; exact lg187
  have X204 := X188.trans E198
  have nx205 := E198.next
  have lb206 := Mem.lt_of_get g202
  obtain ⟨M207, ef208⟩ : ∃ m : Mem, m = (Mem.mk M194.blks M194.next M194.hide (M194.log ++ M162.log)) := ⟨_, rfl⟩
  have X209 : Ext M M207 := by rw [ef208]; exact Ext.join (X166) (X204)
  have hM210 : MemOk M207 := by rw [ef208]; exact hM199
  have g211 : M207.get b46 = some ⟨[sSv, sFv], 25, 2, 0, true⟩ := by rw [ef208]; exact g202
  have hraw := w3_0_raw a1 c1 a2 c2 l1 l2 x a c ns y w v j e M b1 M2 M11 M23 M36 y33s y33f b46 M47 M57 M78 M99 M120 M149 M162 sSv sFv sl1 sl2 M178 M194
  have rw0 : Mem.mk M57.blks M57.next M57.hide [] = R67 := eR68.symm
  have rw1 : Mem.mk M78.blks M78.next M57.hide M78.log = M78 := by rw [(show M57.hide = M78.hide from ((X61).hide.trans (X91).hide.symm))]
  have rw2 : Mem.mk M78.blks M78.next (hides 0 [⟨1, 1, M57.next, M78.next⟩, ⟨0, 1, M57.next, M57.next⟩] ++ M57.hide) M78.log = hidx (hides 0 [⟨1, 1, M57.next, M78.next⟩, ⟨0, 1, M57.next, M57.next⟩]) M78 := by rw [(show M57.hide = M78.hide from ((X61).hide.trans (X91).hide.symm))]; rfl
  have rw3 : Mem.mk M99.blks M99.next M57.hide M99.log = M99 := by rw [(show M57.hide = M99.hide from ((X61).hide.trans (X112).hide.symm))]
  have rw4 : Mem.mk M120.blks M120.next M57.hide M120.log = M120 := by rw [(show M57.hide = M120.hide from ((X61).hide.trans (X133).hide.symm))]
  have rw5 : (Mem.mk M120.blks M120.next M57.hide (M120.log ++ M57.log)) = (Mem.mk M120.blks M120.next M120.hide (M120.log ++ M57.log)) := by rw [(show M57.hide = M120.hide from ((X61).hide.trans (X133).hide.symm))]
  have rw6 : (Mem.mk M120.blks M120.next M120.hide (M120.log ++ M57.log)) = M139 := ef140.symm
  have rw7 : Mem.mk M162.blks M162.next M162.hide [] = R169 := eR170.symm
  have rw8 : Mem.mk M178.blks M178.next M162.hide M178.log = M178 := by rw [(show M162.hide = M178.hide from ((X166).hide.trans (X188).hide.symm))]
  have rw9 : Mem.mk M178.blks M178.next (hides 0 [⟨1, 1, M162.next, M178.next⟩, ⟨0, 1, M162.next, M162.next⟩] ++ M162.hide) M178.log = hidx (hides 0 [⟨1, 1, M162.next, M178.next⟩, ⟨0, 1, M162.next, M162.next⟩]) M178 := by rw [(show M162.hide = M178.hide from ((X166).hide.trans (X188).hide.symm))]; rfl
  have rw10 : Mem.mk M194.blks M194.next M162.hide M194.log = M194 := by rw [(show M162.hide = M194.hide from ((X166).hide.trans (X204).hide.symm))]
  have rw11 : (Mem.mk M194.blks M194.next M162.hide (M194.log ++ M162.log)) = (Mem.mk M194.blks M194.next M194.hide (M194.log ++ M162.log)) := by rw [(show M162.hide = M194.hide from ((X166).hide.trans (X204).hide.symm))]
  have rw12 : (Mem.mk M194.blks M194.next M194.hide (M194.log ++ M162.log)) = M207 := ef208.symm
  try rw [rw0] at hraw
  try rw [rw1] at hraw
  try rw [rw2] at hraw
  try rw [rw3] at hraw
  try rw [rw4] at hraw
  try rw [rw5] at hraw
  try rw [rw6] at hraw
  try rw [rw7] at hraw
  try rw [rw8] at hraw
  try rw [rw9] at hraw
  try rw [rw10] at hraw
  try rw [rw11] at hraw
  try rw [rw12] at hraw
  have hE := Ev.told_tmp noNumP mixedP Tryd.func3 q3_ok (by kernel_rfl) rK3 (fun B => specsB_ok (hS3_12_13_14_15_16_17 B) (k := [(0, bone (q3.blkAt 0) Tryd.f3.ntmps [4, 5, 13, 34] [some (i64 w), some (i64 v), some (pt b46 0), some (i64 (((j : Nat) : Int)))] M149 .normal (fr [(13, (pt b46 0))]) M162)]) (fun p hp => by simp only [List.mem_cons, List.not_mem_nil, or_false] at hp; rcases hp with rfl <;> first | exact BlkOk.gl (BlkOk.ran noNumP mixedP hR164 (TSub.fr (l := [(13, (pt b46 0))]) hs165)))) (fun _ h => blksF_one h) hraw (hk (q_eq (by rw [← eb3, ← em4]; kernel_rfl) Nat.one_ne_zero) (hk (q_call rfl p12 l13 e14) (hk (lA ⟨dA25, dS25⟩ g19 rfl) (hk (q_call rfl p24 l25 e26) (hk (bF (by rw [cc0]; rfl)) (hk (q_call rfl p37 l38 e39) (hk (q_eq (by rw [← eb48, ← em49]; kernel_rfl) Nat.one_ne_zero) (hk (q_st q58) (hk (lA ⟨dA25, dS25⟩ g72 rfl) (hk (q_call rfl p79 l80 e81) (hk (lA ⟨dA25, dS25⟩ (hidx_get.2 ⟨hides_low (by simp; omega), g86⟩) rfl) (hk (q_lt ltb1M57) (hk (q_call rfl p100 l101 e102) (hk (bF (by simp)) (hk (lA ⟨dA25, dS25⟩ g110 rfl) (hk (bF (by simp)) (hk (q_call rfl p121 l122 e123) (hk (bF (by simp)) (hk (bF (by simp)) (hk (q_apart (by rw [lg132]; simp <;> omega)) (hk (q_call rfl p150 l151 e152) (hk (q_blk rfl) (hk (lA ⟨dA25, dS25⟩ g174 rfl) (hk (q_call rfl p179 l180 e181) (hk (lA ⟨dA25, dS25⟩ (hidx_get.2 ⟨hides_low (by simp; omega), g186⟩) rfl) (hk (q_lt ltb46M162) (hk (q_call rfl p195 l196 e197) (hk (q_apart (by rw [lg203]; simp <;> omega)) hn))))))))))))))))))))))))))))
  have hv : ((.bool ((chkB sl1 sl2) == (chkB sl1 sl2))) : Value) = Value.bool true := by simp
  rw [hv] at hE
  exact ⟨_, hE⟩
theorem hS3_12_13 (B : Bd) : ∀ p ∈ ([(12, pick (Con Tryd.prog [0] 12 (Fl g12))), (13, pick (Con Tryd.prog [0] 13 Qfew))] : List (FuncId × (List Value → Mem → Option (Value × Mem)))), SpecOk Tryd.prog [0] B p.1 p.2 := (fun p hp => by simp only [List.mem_cons, List.not_mem_nil, or_false] at hp; rcases hp with rfl | rfl <;> first | exact Con.ok _ | exact SpecOk.gl (Con.ok _))
theorem w3_1_raw (a1 : Option Addr) (c1 : Nat) (a2 : Option Addr) (c2 : Nat) (l1 : List (List Int)) (l2 : List Bool) (x : Int) (a : Option Addr) (c : Nat) (ns : List Int) (y w v : Int) (_ : Nat) (_ : TypeId) (M : Mem) (b1 : Nat) (M2 : Mem) (M11 : Mem) (M23 : Mem) : oTg Tryd.prog [0] [] 60 Tryd.f3 q3 [(.agg ⟨[(.slice a1 l1.length c1), (.slice a2 l2.length c2)]⟩), i64 x, (.slice a ns.length c), i64 y, i64 w, i64 v] M [ttV 1 (pt b1 0) M2, ttV 5 (.bool true) M11, ttL 10 (.agg ⟨[(.slice a1 l1.length c1), (.slice a2 l2.length c2)]⟩), ttV 12 (.bool (fewB l1 l2)) M23, ttT 15] 12 = some (.ret, some (.bool true), M23, [.eq (abox Tryd.prog 25 (.agg ⟨[(.slice a1 l1.length c1), (.slice a2 l2.length c2)]⟩) M) (1, .val (pt b1 0), M2), qC 12 [] M2 (.bool true) M11, qL 25 b1 0 M11 (.agg ⟨[(.slice a1 l1.length c1), (.slice a2 l2.length c2)]⟩), qC 13 [(.agg ⟨[(.slice a1 l1.length c1), (.slice a2 l2.length c2)]⟩)] M11 (.bool (fewB l1 l2)) M23, qT (!(fewB l1 l2))]) := by kernel_rfl
theorem w3_1 (a1 : Option Addr) (c1 : Nat) (a2 : Option Addr) (c2 : Nat) (l1 : List (List Int)) (l2 : List Bool) (x : Int) (a : Option Addr) (c : Nat) (ns : List Int) (y w v : Int) (j : Nat) (e : TypeId) {M : Mem} (hM : MemOk M) (hT : M.get 0 = some (tabB e)) (hr : DfaAt M (.agg ⟨[(.slice a1 l1.length c1), (.slice a2 l2.length c2)]⟩) l1 l2) (_ : FlatAt 1 M (.slice a ns.length c) (ns.map ([·]))) (_ : j < 4) (_ : modI w 4 = ((j : Nat) : Int)) (cc0 : (fewB l1 l2) = false) : ∃ M', Ev Tryd.prog [0] 3 [(.agg ⟨[(.slice a1 l1.length c1), (.slice a2 l2.length c2)]⟩), i64 x, (.slice a ns.length c), i64 y, i64 w, i64 v] M (.bool true) M' := by
  obtain ⟨b1, M2, eb3, em4, g5, E6, hM7⟩ := new_t hM ⟨[(.slice a1 l1.length c1), (.slice a2 l2.length c2)], 25, 2, 0, true⟩
  have nb1 : M.next ≤ b1 := by rw [← eb3]; exact (Ext.refl M).next
  have X8 := (Ext.refl M).trans E6
  obtain ⟨w9, N10, M11, p12, l13, e14, E15, hM16, Q17, G18⟩ := call_t (P := Tryd.prog) (GL := [0]) (f := 12) hM7 (con12c ((X8).old hT))
  have g19 := E15.old g5
  have ew9 : w9 = .bool true := (Option.some.inj Q17).symm
  subst ew9
  have X20 := X8.trans E15
  obtain ⟨w21, N22, M23, p24, l25, e26, E27, hM28, Q29, G30⟩ := call_t (P := Tryd.prog) (GL := [0]) (f := 13) hM16 (Con.gl (con13 (MemOk.log hM16) (hr.Ext X20).log))
  have g31 := E27.old g19
  have ew21 := Qfew.val (hr.Ext X20).log Q29
  subst ew21
  have X32 := X20.trans E27
  have hraw := w3_1_raw a1 c1 a2 c2 l1 l2 x a c ns y w v j e M b1 M2 M11 M23
  have hE := Ev.told_tmp noNumP mixedP Tryd.func3 q3_ok (by kernel_rfl) rK3 (fun B => specsB_ok (k := []) (hS3_12_13 B) (fun p hp => by cases hp)) (fun _ _ => rfl) hraw (hk (q_eq (by rw [← eb3, ← em4]; kernel_rfl) Nat.one_ne_zero) (hk (q_call rfl p12 l13 e14) (hk (lA ⟨dA25, dS25⟩ g19 rfl) (hk (q_call rfl p24 l25 e26) (hk (bT (by rw [cc0]; rfl)) hn)))))
  exact ⟨_, hE⟩
end Go.Proofs.YtepgijgmnijdpaaDoor
