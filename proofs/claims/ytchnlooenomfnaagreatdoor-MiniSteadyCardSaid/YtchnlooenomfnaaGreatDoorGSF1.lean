/-
  What is proved: MiniSteady: a machine of Make's is steady just if a letter twice is a letter once: for every x, y, every word. For every argument; one laid table (math/bits) is tied by the card.
-/
import Derived.Test.YtchnlooenomfnaaGreatDoorGSE4
set_option linter.unusedVariables false
set_option linter.unusedSimpArgs false
open Go Go.Am Go.Proofs
namespace Go.Proofs.YtchnlooenomfnaaGreatDoor
set_option maxRecDepth 100000
theorem load_at {M : Mem} {b o c : Nat} {l1 : List (List Int)} {st : Int} (h : FlatAt 5 M (.slice (some ⟨b, o, none⟩) l1.length c) l1) (h1 : noneB st ((l1.length : Nat) : Int) = false) (j : Nat) (hj : j < 5) :
    aload Tryz.prog 3 ⟨b, o + st.toNat * 5 + j, none⟩ M = some (i64 (cellAt l1 st ((j : Nat) : Int))) := by
  have h2 : noneB ((j : Nat) : Int) (5 : Int) = false := by simp [noneB]; omega
  have := load_dfa h h1 h2
  rwa [Int.toNat_natCast, Nat.mul_one] at this
theorem rK47 : Tryz.f47.results = #[.cell 4 62] := by kernel_rfl
theorem w47_0_raw (bb o c1 : Nat) (a2 : Option Addr) (c2 : Nat) (l1 : List (List Int)) (l2 : List Bool) (x y z u t : Int)  (M : Mem) (b1 : Nat) (M2 : Mem) (b9 : Nat) (M10 : Mem) (b18 : Nat) (M19 : Mem) (M28 : Mem) (M37 : Mem) (M46 : Mem) (M55 : Mem) (M64 : Mem) (M73 : Mem) : oT Tryz.prog [] 60 Tryz.f47 q47 [(.agg ⟨[(sli bb o l1.length c1), (.slice a2 l2.length c2)]⟩), (.agg ⟨[(i64 x), (i64 y), (i64 z), (i64 u), (i64 t)]⟩)] M [ttV 1 (pt b1 0) M2, ttV 3 (pt b9 0) M10, ttV 5 (pt b18 0) M19, ttL 7 (.agg ⟨[(i64 x), (i64 y), (i64 z), (i64 u), (i64 t)]⟩), ttL 26 (sli bb o l1.length c1), ttT 32, ttL 36 (i64 (cellAt l1 x 0)), ttS 40 M28, ttL 61 (sli bb o l1.length c1), ttT 67, ttL 71 (i64 (cellAt l1 y 1)), ttS 75 M37, ttL 96 (sli bb o l1.length c1), ttT 102, ttL 106 (i64 (cellAt l1 z 2)), ttS 110 M46, ttL 131 (sli bb o l1.length c1), ttT 137, ttL 141 (i64 (cellAt l1 u 3)), ttS 145 M55, ttL 166 (sli bb o l1.length c1), ttT 172, ttL 176 (i64 (cellAt l1 t 4)), ttS 180 M64, ttL 189 (.agg ⟨[(i64 (cellAt l1 x 0)), (i64 (cellAt l1 y 1)), (i64 (cellAt l1 z 2)), (i64 (cellAt l1 u 3)), (i64 (cellAt l1 t 4))]⟩), ttS 191 M73] 4 = some (.ret, some (pt b18 0), M73, [.eq (abox Tryz.prog 27 (.agg ⟨[(sli bb o l1.length c1), (.slice a2 l2.length c2)]⟩) M) (1, .val (pt b1 0), M2), .eq (abox Tryz.prog 62 (.agg ⟨[(i64 x), (i64 y), (i64 z), (i64 u), (i64 t)]⟩) M2) (1, .val (pt b9 0), M10), .eq (aalloc Tryz.prog 62 M10) (1, .val (pt b18 0), M19), qL 62 b9 0 M19 (.agg ⟨[(i64 x), (i64 y), (i64 z), (i64 u), (i64 t)]⟩), qL 24 b1 0 M19 (sli bb o l1.length c1), .q (.inb x l1.length) (ansB true), qL 3 bb (o + (x : Int).toNat * 5 + 0) M19 (i64 (cellAt l1 x 0)), qS 3 b9 0 (i64 (cellAt l1 x 0)) M19 M28, qL 24 b1 0 M28 (sli bb o l1.length c1), .q (.inb y l1.length) (ansB true), qL 3 bb (o + (y : Int).toNat * 5 + 1) M28 (i64 (cellAt l1 y 1)), qS 3 b9 1 (i64 (cellAt l1 y 1)) M28 M37, qL 24 b1 0 M37 (sli bb o l1.length c1), .q (.inb z l1.length) (ansB true), qL 3 bb (o + (z : Int).toNat * 5 + 2) M37 (i64 (cellAt l1 z 2)), qS 3 b9 2 (i64 (cellAt l1 z 2)) M37 M46, qL 24 b1 0 M46 (sli bb o l1.length c1), .q (.inb u l1.length) (ansB true), qL 3 bb (o + (u : Int).toNat * 5 + 3) M46 (i64 (cellAt l1 u 3)), qS 3 b9 3 (i64 (cellAt l1 u 3)) M46 M55, qL 24 b1 0 M55 (sli bb o l1.length c1), .q (.inb t l1.length) (ansB true), qL 3 bb (o + (t : Int).toNat * 5 + 4) M55 (i64 (cellAt l1 t 4)), qS 3 b9 4 (i64 (cellAt l1 t 4)) M55 M64, qL 62 b9 0 M64 (.agg ⟨[(i64 (cellAt l1 x 0)), (i64 (cellAt l1 y 1)), (i64 (cellAt l1 z 2)), (i64 (cellAt l1 u 3)), (i64 (cellAt l1 t 4))]⟩), qS 62 b18 0 (.agg ⟨[(i64 (cellAt l1 x 0)), (i64 (cellAt l1 y 1)), (i64 (cellAt l1 z 2)), (i64 (cellAt l1 u 3)), (i64 (cellAt l1 t 4))]⟩) M64 M73]) := by kernel_rfl
theorem w47_0 (bb o c1 : Nat) (a2 : Option Addr) (c2 : Nat) (l1 : List (List Int)) (l2 : List Bool) (x y z u t : Int)  {M : Mem} (hM : MemOk M) (hs1 : FlatAt 5 M (.slice (some ⟨bb, o, none⟩) l1.length c1) l1) (hx : noneB x ((l1.length : Nat) : Int) = false) (hy : noneB y ((l1.length : Nat) : Int) = false) (hz : noneB z ((l1.length : Nat) : Int) = false) (hu : noneB u ((l1.length : Nat) : Int) = false) (ht : noneB t ((l1.length : Nat) : Int) = false) : ∃ M', Ev Tryz.prog [] 47 [(.agg ⟨[(sli bb o l1.length c1), (.slice a2 l2.length c2)]⟩), (.agg ⟨[(i64 x), (i64 y), (i64 z), (i64 u), (i64 t)]⟩)] M (.agg ⟨[(i64 (cellAt l1 x 0)), (i64 (cellAt l1 y 1)), (i64 (cellAt l1 z 2)), (i64 (cellAt l1 u 3)), (i64 (cellAt l1 t 4))]⟩) M' ∧ Ext M M' := by
  obtain ⟨b1, M2, eb3, em4, g5, E6, hM7⟩ := new_t hM ⟨[(sli bb o l1.length c1), (.slice a2 l2.length c2)], 27, 2, 0, true⟩
  have nb1 : M.next ≤ b1 := by rw [← eb3]; exact (Ext.refl M).next
  have X8 := (Ext.refl M).trans E6
  obtain ⟨b9, M10, eb11, em12, g13, E14, hM15⟩ := new_t hM7 ⟨[(i64 x), (i64 y), (i64 z), (i64 u), (i64 t)], 62, 1, 0, true⟩
  have nb9 : M.next ≤ b9 := by rw [← eb11]; exact X8.next
  have db1b9 : b1 ≠ b9 := by have := Mem.lt_of_get g5; omega
  have g16 := E14.old g5
  have X17 := X8.trans E14
  obtain ⟨b18, M19, eb20, em21, g22, E23, hM24⟩ := new_t hM15 ⟨[(i64 0), (i64 0), (i64 0), (i64 0), (i64 0)], 62, 1, 0, true⟩
  have nb18 : M.next ≤ b18 := by rw [← eb20]; exact X17.next
  have db1b18 : b1 ≠ b18 := by have := Mem.lt_of_get g16; omega
  have db9b18 : b9 ≠ b18 := by have := Mem.lt_of_get g13; omega
  have g25 := E23.old g16
  have g26 := E23.old g13
  have X27 := X17.trans E23
  obtain ⟨M28, q29, g30, kp31, X32, hM33, nx34⟩ := store_t (o := 0) (v := (i64 (cellAt l1 x 0))) (new := [(i64 (cellAt l1 x 0)), (i64 y), (i64 z), (i64 u), (i64 t)]) X27 nb9 hM24 dS3 g26 rfl rfl (Nat.zero_le _) (Nat.le_of_ble_eq_true rfl) rfl
  replace g30 : M28.get b9 = some ⟨[(i64 (cellAt l1 x 0)), (i64 y), (i64 z), (i64 u), (i64 t)], 62, 1, 0, true⟩ := g30
  have g35 := (kp31 _ db1b9).trans g25
  have g36 := (kp31 _ (Ne.symm db9b18)).trans g22
  obtain ⟨M37, q38, g39, kp40, X41, hM42, nx43⟩ := store_t (o := 1) (v := (i64 (cellAt l1 y 1))) (new := [(i64 (cellAt l1 x 0)), (i64 (cellAt l1 y 1)), (i64 z), (i64 u), (i64 t)]) X32 nb9 hM33 dS3 g30 rfl rfl (Nat.zero_le _) (Nat.le_of_ble_eq_true rfl) rfl
  replace g39 : M37.get b9 = some ⟨[(i64 (cellAt l1 x 0)), (i64 (cellAt l1 y 1)), (i64 z), (i64 u), (i64 t)], 62, 1, 0, true⟩ := g39
  have g44 := (kp40 _ db1b9).trans g35
  have g45 := (kp40 _ (Ne.symm db9b18)).trans g36
  obtain ⟨M46, q47, g48, kp49, X50, hM51, nx52⟩ := store_t (o := 2) (v := (i64 (cellAt l1 z 2))) (new := [(i64 (cellAt l1 x 0)), (i64 (cellAt l1 y 1)), (i64 (cellAt l1 z 2)), (i64 u), (i64 t)]) X41 nb9 hM42 dS3 g39 rfl rfl (Nat.zero_le _) (Nat.le_of_ble_eq_true rfl) rfl
  replace g48 : M46.get b9 = some ⟨[(i64 (cellAt l1 x 0)), (i64 (cellAt l1 y 1)), (i64 (cellAt l1 z 2)), (i64 u), (i64 t)], 62, 1, 0, true⟩ := g48
  have g53 := (kp49 _ db1b9).trans g44
  have g54 := (kp49 _ (Ne.symm db9b18)).trans g45
  obtain ⟨M55, q56, g57, kp58, X59, hM60, nx61⟩ := store_t (o := 3) (v := (i64 (cellAt l1 u 3))) (new := [(i64 (cellAt l1 x 0)), (i64 (cellAt l1 y 1)), (i64 (cellAt l1 z 2)), (i64 (cellAt l1 u 3)), (i64 t)]) X50 nb9 hM51 dS3 g48 rfl rfl (Nat.zero_le _) (Nat.le_of_ble_eq_true rfl) rfl
  replace g57 : M55.get b9 = some ⟨[(i64 (cellAt l1 x 0)), (i64 (cellAt l1 y 1)), (i64 (cellAt l1 z 2)), (i64 (cellAt l1 u 3)), (i64 t)], 62, 1, 0, true⟩ := g57
  have g62 := (kp58 _ db1b9).trans g53
  have g63 := (kp58 _ (Ne.symm db9b18)).trans g54
  obtain ⟨M64, q65, g66, kp67, X68, hM69, nx70⟩ := store_t (o := 4) (v := (i64 (cellAt l1 t 4))) (new := [(i64 (cellAt l1 x 0)), (i64 (cellAt l1 y 1)), (i64 (cellAt l1 z 2)), (i64 (cellAt l1 u 3)), (i64 (cellAt l1 t 4))]) X59 nb9 hM60 dS3 g57 rfl rfl (Nat.zero_le _) (Nat.le_of_ble_eq_true rfl) rfl
  replace g66 : M64.get b9 = some ⟨[(i64 (cellAt l1 x 0)), (i64 (cellAt l1 y 1)), (i64 (cellAt l1 z 2)), (i64 (cellAt l1 u 3)), (i64 (cellAt l1 t 4))], 62, 1, 0, true⟩ := g66
  have g71 := (kp67 _ db1b9).trans g62
  have g72 := (kp67 _ (Ne.symm db9b18)).trans g63
  obtain ⟨M73, q74, g75, kp76, X77, hM78, nx79⟩ := store_t (o := 0) (v := (.agg ⟨[(i64 (cellAt l1 x 0)), (i64 (cellAt l1 y 1)), (i64 (cellAt l1 z 2)), (i64 (cellAt l1 u 3)), (i64 (cellAt l1 t 4))]⟩)) (new := [(i64 (cellAt l1 x 0)), (i64 (cellAt l1 y 1)), (i64 (cellAt l1 z 2)), (i64 (cellAt l1 u 3)), (i64 (cellAt l1 t 4))]) X68 nb18 hM69 dS62 g72 rfl rfl (Nat.zero_le _) (Nat.le_of_ble_eq_true rfl) rfl
  replace g75 : M73.get b18 = some ⟨[(i64 (cellAt l1 x 0)), (i64 (cellAt l1 y 1)), (i64 (cellAt l1 z 2)), (i64 (cellAt l1 u 3)), (i64 (cellAt l1 t 4))], 62, 1, 0, true⟩ := g75
  have g80 := (kp76 _ db1b18).trans g71
  have g81 := (kp76 _ db9b18).trans g66
  exact ⟨M73, Ev.told_cell noNumP mixedP Tryz.func47 q47_ok (by kernel_rfl) rK47 (specs_none Tryz.prog) (fun _ _ => rfl) (w47_0_raw bb o c1 a2 c2 l1 l2 x y z u t M b1 M2 b9 M10 b18 M19 M28 M37 M46 M55 M64 M73) (aload_agg (a := ⟨b18, 0, none⟩) dA62 dS62 g75 rfl) (hk (q_eq (by rw [← eb3, ← em4]; kernel_rfl) Nat.one_ne_zero) (hk (q_eq (by rw [← eb11, ← em12]; kernel_rfl) Nat.one_ne_zero) (hk (q_eq (by rw [← eb20, ← em21]; kernel_rfl) Nat.one_ne_zero) (hk (lA ⟨dA62, dS62⟩ g26 rfl) (hk (lC dC24 g25 rfl) (hk (q_inb (noneB_false hx).1 (noneB_false hx).2) (hk (q_ld (aload_ext X27 (load_at hs1 hx 0 (by decide)))) (hk (q_st q29) (hk (lC dC24 g35 rfl) (hk (q_inb (noneB_false hy).1 (noneB_false hy).2) (hk (q_ld (aload_ext X32 (load_at hs1 hy 1 (by decide)))) (hk (q_st q38) (hk (lC dC24 g44 rfl) (hk (q_inb (noneB_false hz).1 (noneB_false hz).2) (hk (q_ld (aload_ext X41 (load_at hs1 hz 2 (by decide)))) (hk (q_st q47) (hk (lC dC24 g53 rfl) (hk (q_inb (noneB_false hu).1 (noneB_false hu).2) (hk (q_ld (aload_ext X50 (load_at hs1 hu 3 (by decide)))) (hk (q_st q56) (hk (lC dC24 g62 rfl) (hk (q_inb (noneB_false ht).1 (noneB_false ht).2) (hk (q_ld (aload_ext X59 (load_at hs1 ht 4 (by decide)))) (hk (q_st q65) (hk (lA ⟨dA62, dS62⟩ g66 rfl) (hk (q_st q74) hn)))))))))))))))))))))))))), X77⟩
end Go.Proofs.YtchnlooenomfnaaGreatDoor

set_option linter.unusedVariables false
set_option linter.unusedSimpArgs false
open Go Go.Am Go.Proofs
namespace Go.Proofs.YtchnlooenomfnaaGreatDoor
set_option maxRecDepth 100000
def onceV (l1 : List (List Int)) (x y z u t : Int) : Value := .agg ⟨[i64 (cellAt l1 x 0), i64 (cellAt l1 y 1), i64 (cellAt l1 z 2), i64 (cellAt l1 u 3), i64 (cellAt l1 t 4)]⟩
def row5 (x y z u t : Int) : Value := .agg ⟨[i64 x, i64 y, i64 z, i64 u, i64 t]⟩
theorem row5_inj {x y z u t x' y' z' u' t' : Int} (h : row5 x y z u t = row5 x' y' z' u' t') : x = x' ∧ y = y' ∧ z = z' ∧ u = u' ∧ t = t' := by
  simpa [row5, i64] using h
def Q47 : List Value → Mem → Value → Mem → Prop := fun args M v _ => ∃ X l1 l2 x y z u t, args = [X, row5 x y z u t] ∧ DfaAt M X l1 l2 ∧ v = onceV l1 x y z u t
theorem Q47.val {X : Value} {l1 : List (List Int)} {l2 : List Bool} {x y z u t : Int} {M M' : Mem} {v : Value} (h : DfaAt M X l1 l2) (hq : Q47 [X, row5 x y z u t] M v M') : v = onceV l1 x y z u t := by
  obtain ⟨X', l1', l2', x', y', z', u', t', h1, h2, rfl⟩ := hq
  simp only [List.cons.injEq, and_true] at h1
  obtain ⟨rfl, h1⟩ := h1
  obtain ⟨rfl, rfl, rfl, rfl, rfl⟩ := row5_inj h1
  obtain ⟨rfl, rfl⟩ := h.unique h2
  rfl
theorem con47 {X : Value} {l1 : List (List Int)} {l2 : List Bool} (x y z u t : Int) {M : Mem} (hM : MemOk M) (h : DfaAt M X l1 l2) (hx : noneB x ((l1.length : Nat) : Int) = false) (hy : noneB y ((l1.length : Nat) : Int) = false) (hz : noneB z ((l1.length : Nat) : Int) = false) (hu : noneB u ((l1.length : Nat) : Int) = false) (ht : noneB t ((l1.length : Nat) : Int) = false) : ∃ v M', Con Tryz.prog [] 47 Q47 [X, row5 x y z u t] M v M' := by
  have h0 := h
  obtain ⟨L1, L2, rfl, h2, h3⟩ := h.at_
  obtain ⟨a1, c1, rfl⟩ := h2.form
  obtain ⟨a2, c2, rfl⟩ := h3.form
  have hr := noneB_false hx
  obtain ⟨bb, o, rfl⟩ := some_of h2 (by omega)
  obtain ⟨M', k1, k2⟩ := w47_0 bb o c1 a2 c2 l1 l2 x y z u t hM h2 hx hy hz hu ht
  exact ⟨_, M', k1, k2, _, l1, l2, x, y, z, u, t, rfl, h0, rfl⟩
end Go.Proofs.YtchnlooenomfnaaGreatDoor

set_option linter.unusedVariables false
set_option linter.unusedSimpArgs false
open Go Go.Am Go.Proofs
namespace Go.Proofs.YtchnlooenomfnaaGreatDoor
set_option maxRecDepth 100000
theorem hS20_47 (B : Bd) : ∀ p ∈ ([(47, pick (Con Tryz.prog [] 47 Q47))] : List (FuncId × (List Value → Mem → Option (Value × Mem)))), SpecOk Tryz.prog [] B p.1 p.2 := (fun p hp => by simp only [List.mem_cons, List.not_mem_nil, or_false] at hp; rcases hp with rfl <;> first | exact Con.ok _)
theorem rd20n_raw (b bb o c1 i : Nat) (a2 : Option Addr) (c2 : Nat) (l1 : List (List Int)) (l2 : List Bool) (x y z u t : Int) (M : Mem) (b1 : Nat) (M2 : Mem) (M10 : Mem) (M27 : Mem) : oR Tryz.prog [] 40 Tryz.f20 (q20.loopAt 0) [(1, (pt b 0)), (9, (sli bb o l1.length c1)), (10, (i64 (((l1.length : Nat) : Int)))), (11, (i64 (((i : Nat) : Int))))] M [ttT 2, ttT 4, ttL 6 (.agg ⟨[(i64 x), (i64 y), (i64 z), (i64 u), (i64 t)]⟩), ttV 8 (pt b1 0) M2, ttS 10 M10, ttL 12 (.agg ⟨[(sli bb o l1.length c1), (.slice a2 l2.length c2)]⟩), ttL 14 (.agg ⟨[(i64 x), (i64 y), (i64 z), (i64 u), (i64 t)]⟩), ttV 16 (.agg ⟨[(i64 (cellAt l1 x 0)), (i64 (cellAt l1 y 1)), (i64 (cellAt l1 z 2)), (i64 (cellAt l1 u 3)), (i64 (cellAt l1 t 4))]⟩) M27, ttL 18 (.agg ⟨[(i64 x), (i64 y), (i64 z), (i64 u), (i64 t)]⟩), ttF 20] [1, 9, 10, 11] = some (.normal, [some (pt b 0), some (sli bb o l1.length c1), some (i64 (((l1.length : Nat) : Int))), some (i64 (IntKind.wrap .i64 ((((i : Nat) : Int)) + (1 : Int))))], (Mem.mk M27.blks M27.next M10.hide (M27.log ++ M10.log)), [qT (decide ((((i : Nat) : Int)) < (((l1.length : Nat) : Int)))), .q (.inb (((i : Nat) : Int)) l1.length) (ansB true), qL 62 bb (o + (((i : Nat) : Int) : Int).toNat * 5) M (.agg ⟨[(i64 x), (i64 y), (i64 z), (i64 u), (i64 t)]⟩), .eq (aalloc Tryz.prog 62 M) (1, .val (pt b1 0), M2), qS 62 b1 0 (.agg ⟨[(i64 x), (i64 y), (i64 z), (i64 u), (i64 t)]⟩) M2 M10, qL 27 b 0 (Mem.mk M10.blks M10.next M10.hide []) (.agg ⟨[(sli bb o l1.length c1), (.slice a2 l2.length c2)]⟩), qL 62 b1 0 (Mem.mk M10.blks M10.next (hides 0 [⟨0, 1, M10.next, M10.next⟩] ++ M10.hide) []) (.agg ⟨[(i64 x), (i64 y), (i64 z), (i64 u), (i64 t)]⟩), qC 47 [(.agg ⟨[(sli bb o l1.length c1), (.slice a2 l2.length c2)]⟩), (.agg ⟨[(i64 x), (i64 y), (i64 z), (i64 u), (i64 t)]⟩)] (Mem.mk M10.blks M10.next M10.hide []) (.agg ⟨[(i64 (cellAt l1 x 0)), (i64 (cellAt l1 y 1)), (i64 (cellAt l1 z 2)), (i64 (cellAt l1 u 3)), (i64 (cellAt l1 t 4))]⟩) M27, qL 62 b1 0 (Mem.mk M27.blks M27.next (hides 0 [⟨2, 1, M10.next, M27.next⟩, ⟨1, 1, M10.next, M10.next⟩, ⟨0, 1, M10.next, M10.next⟩] ++ M10.hide) M27.log) (.agg ⟨[(i64 x), (i64 y), (i64 z), (i64 u), (i64 t)]⟩), qT (Nat.blt b1 M10.next), qF (!(eq5 (cellAt l1 x 0) (cellAt l1 y 1) (cellAt l1 z 2) (cellAt l1 u 3) (cellAt l1 t 4) (x) (y) (z) (u) (t))), qT (apartN [b1] M27.log)]) := by kernel_rfl
theorem rd20n (b bb o c1 i : Nat) (a2 : Option Addr) (c2 : Nat) (l1 : List (List Int)) (l2 : List Bool) (x y z u t : Int) {M : Mem} (hM : MemOk M) (hd : DfaAt M (.agg ⟨[(sli bb o l1.length c1), (.slice a2 l2.length c2)]⟩) l1 l2) (hb : M.get b = some ⟨[(sli bb o l1.length c1), (.slice a2 l2.length c2)], 27, 2, 0, true⟩) (hld : aload Tryz.prog 62 ⟨bb, o + i * 5, none⟩ M = some (.agg ⟨[(i64 x), (i64 y), (i64 z), (i64 u), (i64 t)]⟩)) (hx : noneB x ((l1.length : Nat) : Int) = false) (hy : noneB y ((l1.length : Nat) : Int) = false) (hz : noneB z ((l1.length : Nat) : Int) = false) (hu : noneB u ((l1.length : Nat) : Int) = false) (ht : noneB t ((l1.length : Nat) : Int) = false) (cc0 : (decide ((((i : Nat) : Int)) < (((l1.length : Nat) : Int)))) = true) (cc1 : (eq5 (cellAt l1 x 0) (cellAt l1 y 1) (cellAt l1 z 2) (cellAt l1 u 3) (cellAt l1 t 4) (x) (y) (z) (u) (t)) = true) : ∃ T1 M', Rd Tryz.prog [] (q20.loopAt 0) Tryz.f20.ntmps (fr [(1, (pt b 0)), (9, (sli bb o l1.length c1)), (10, (i64 (((l1.length : Nat) : Int)))), (11, (i64 (((i : Nat) : Int))))]) M .normal T1 M' ∧ [1, 9, 10, 11].map T1.get = [some (pt b 0), some (sli bb o l1.length c1), some (i64 (((l1.length : Nat) : Int))), some (i64 (IntKind.wrap .i64 ((((i : Nat) : Int)) + (1 : Int))))] ∧ Ext M M' ∧ MemOk M' := by
  obtain ⟨b1, M2, eb3, em4, g5, E6, hM7⟩ := new_t hM ⟨[(i64 0), (i64 0), (i64 0), (i64 0), (i64 0)], 62, 1, 0, true⟩
  have nb1 : M.next ≤ b1 := by rw [← eb3]; exact (Ext.refl M).next
  have dbb1 : b ≠ b1 := by have := Mem.lt_of_get hb; omega
  have g8 := E6.old hb
  have X9 := (Ext.refl M).trans E6
  obtain ⟨M10, q11, g12, kp13, X14, hM15, nx16⟩ := store_t (o := 0) (v := (.agg ⟨[(i64 x), (i64 y), (i64 z), (i64 u), (i64 t)]⟩)) (new := [(i64 x), (i64 y), (i64 z), (i64 u), (i64 t)]) X9 nb1 hM7 dS62 g5 rfl rfl (Nat.zero_le _) (Nat.le_of_ble_eq_true rfl) rfl
  replace g12 : M10.get b1 = some ⟨[(i64 x), (i64 y), (i64 z), (i64 u), (i64 t)], 62, 1, 0, true⟩ := g12
  have g17 := (kp13 _ dbb1).trans g8
  obtain ⟨R18, eR19⟩ : ∃ m : Mem, m = Mem.mk M10.blks M10.next M10.hide [] := ⟨_, rfl⟩
  have X20 : Ext (Mem.mk M.blks M.next M.hide []) R18 := by rw [eR19]; exact Ext.aside (X14)
  have lg21 : R18.log = [] := by rw [eR19]
  have hM22 : MemOk R18 := by rw [eR19]; exact MemOk.log hM15
  have ltbM10 : b < M10.next := by have h := Mem.lt_of_get g17; exact h
  have g23 : R18.get b = some ⟨[(sli bb o l1.length c1), (.slice a2 l2.length c2)], 27, 2, 0, true⟩ := by rw [eR19]; exact g17
  have ltb1M10 : b1 < M10.next := by have h := Mem.lt_of_get g12; exact h
  have g24 : R18.get b1 = some ⟨[(i64 x), (i64 y), (i64 z), (i64 u), (i64 t)], 62, 1, 0, true⟩ := by rw [eR19]; exact g12
  obtain ⟨w25, N26, M27, p28, l29, e30, E31, hM32, Q33, G34⟩ := call_t (P := Tryz.prog) (GL := []) (f := 47) hM22 (con47 x y z u t (MemOk.log hM22) ((DfaAt.log hd).Ext X20).log hx hy hz hu ht)
  have g35 := E31.old g23
  have g36 := E31.old g24
  have ew25 := Q47.val ((DfaAt.log hd).Ext X20).log Q33
  subst ew25
  have lg37 : M27.log = [] := by rw [← e30]; exact lg21
  have X38 := X20.trans E31
  obtain ⟨M39, ef40⟩ : ∃ m : Mem, m = (Mem.mk M27.blks M27.next M27.hide (M27.log ++ M10.log)) := ⟨_, rfl⟩
  have X41 : Ext M M39 := by rw [ef40]; exact Ext.join (X14) (X38)
  have hM42 : MemOk M39 := by rw [ef40]; exact hM32
  have g43 : M39.get b = some ⟨[(sli bb o l1.length c1), (.slice a2 l2.length c2)], 27, 2, 0, true⟩ := by rw [ef40]; exact g35
  have g44 : M39.get b1 = some ⟨[(i64 x), (i64 y), (i64 z), (i64 u), (i64 t)], 62, 1, 0, true⟩ := by rw [ef40]; exact g36
  have hraw := rd20n_raw b bb o c1 i a2 c2 l1 l2 x y z u t M b1 M2 M10 M27
  have rw0 : Mem.mk M10.blks M10.next M10.hide [] = R18 := eR19.symm
  have rw1 : Mem.mk M10.blks M10.next (hides 0 [⟨0, 1, M10.next, M10.next⟩] ++ M10.hide) [] = R18 := by rw [show hides 0 [⟨0, 1, M10.next, M10.next⟩] = [] from by simp [hides, Nat.beq_refl, show Nat.beq 1 0 = false from rfl, show Nat.beq 2 0 = false from rfl]]; exact eR19.symm
  have rw2 : Mem.mk M27.blks M27.next M10.hide M27.log = M27 := by rw [(show M10.hide = M27.hide from ((X14).hide.trans (X38).hide.symm))]
  have rw3 : Mem.mk M27.blks M27.next (hides 0 [⟨2, 1, M10.next, M27.next⟩, ⟨1, 1, M10.next, M10.next⟩, ⟨0, 1, M10.next, M10.next⟩] ++ M10.hide) M27.log = hidx (hides 0 [⟨2, 1, M10.next, M27.next⟩, ⟨1, 1, M10.next, M10.next⟩, ⟨0, 1, M10.next, M10.next⟩]) M27 := by rw [(show M10.hide = M27.hide from ((X14).hide.trans (X38).hide.symm))]; rfl
  have rw4 : (Mem.mk M27.blks M27.next M10.hide (M27.log ++ M10.log)) = (Mem.mk M27.blks M27.next M27.hide (M27.log ++ M10.log)) := by rw [(show M10.hide = M27.hide from ((X14).hide.trans (X38).hide.symm))]
  have rw5 : (Mem.mk M27.blks M27.next M27.hide (M27.log ++ M10.log)) = M39 := ef40.symm
  try rw [rw0] at hraw
  try rw [rw1] at hraw
  try rw [rw2] at hraw
  try rw [rw3] at hraw
  try rw [rw4] at hraw
  try rw [rw5] at hraw
  obtain ⟨T1, h1, h2⟩ := Rd.told noNumP mixedP (fun B => specsB_ok (k := []) (hS20_47 B) (fun p hp => by cases hp)) (fun _ _ => rfl) hraw (hk (bT cc0) (hk (q_inb (by omega) (by simp at cc0; omega)) (hk (q_ld (aload_ext (Ext.refl M) hld)) (hk (q_eq (by rw [← eb3, ← em4]; kernel_rfl) Nat.one_ne_zero) (hk (q_st q11) (hk (lA ⟨dA27, dS27⟩ g23 rfl) (hk (lA ⟨dA62, dS62⟩ g24 rfl) (hk (q_call rfl p28 l29 e30) (hk (lA ⟨dA62, dS62⟩ (hidx_get.2 ⟨hides_low (by simp; omega), g36⟩) rfl) (hk (q_lt ltb1M10) (hk (bF (by rw [cc1]; rfl)) (hk (q_apart (by rw [lg37]; simp <;> omega)) hn))))))))))))
  exact ⟨T1, M39, h1, h2, X41, hM42⟩
theorem rd20r_raw (b bb o c1 i : Nat) (a2 : Option Addr) (c2 : Nat) (l1 : List (List Int)) (l2 : List Bool) (x y z u t : Int) (M : Mem) (b1 : Nat) (M2 : Mem) (M10 : Mem) (M27 : Mem) : oR Tryz.prog [] 40 Tryz.f20 (q20.loopAt 0) [(1, (pt b 0)), (9, (sli bb o l1.length c1)), (10, (i64 (((l1.length : Nat) : Int)))), (11, (i64 (((i : Nat) : Int))))] M [ttT 2, ttT 4, ttL 6 (.agg ⟨[(i64 x), (i64 y), (i64 z), (i64 u), (i64 t)]⟩), ttV 8 (pt b1 0) M2, ttS 10 M10, ttL 12 (.agg ⟨[(sli bb o l1.length c1), (.slice a2 l2.length c2)]⟩), ttL 14 (.agg ⟨[(i64 x), (i64 y), (i64 z), (i64 u), (i64 t)]⟩), ttV 16 (.agg ⟨[(i64 (cellAt l1 x 0)), (i64 (cellAt l1 y 1)), (i64 (cellAt l1 z 2)), (i64 (cellAt l1 u 3)), (i64 (cellAt l1 t 4))]⟩) M27, ttL 18 (.agg ⟨[(i64 x), (i64 y), (i64 z), (i64 u), (i64 t)]⟩), ttT 20] [2] = some (.ret, [some (.bool false)], (Mem.mk M27.blks M27.next M10.hide (M27.log ++ M10.log)), [qT (decide ((((i : Nat) : Int)) < (((l1.length : Nat) : Int)))), .q (.inb (((i : Nat) : Int)) l1.length) (ansB true), qL 62 bb (o + (((i : Nat) : Int) : Int).toNat * 5) M (.agg ⟨[(i64 x), (i64 y), (i64 z), (i64 u), (i64 t)]⟩), .eq (aalloc Tryz.prog 62 M) (1, .val (pt b1 0), M2), qS 62 b1 0 (.agg ⟨[(i64 x), (i64 y), (i64 z), (i64 u), (i64 t)]⟩) M2 M10, qL 27 b 0 (Mem.mk M10.blks M10.next M10.hide []) (.agg ⟨[(sli bb o l1.length c1), (.slice a2 l2.length c2)]⟩), qL 62 b1 0 (Mem.mk M10.blks M10.next (hides 0 [⟨0, 1, M10.next, M10.next⟩] ++ M10.hide) []) (.agg ⟨[(i64 x), (i64 y), (i64 z), (i64 u), (i64 t)]⟩), qC 47 [(.agg ⟨[(sli bb o l1.length c1), (.slice a2 l2.length c2)]⟩), (.agg ⟨[(i64 x), (i64 y), (i64 z), (i64 u), (i64 t)]⟩)] (Mem.mk M10.blks M10.next M10.hide []) (.agg ⟨[(i64 (cellAt l1 x 0)), (i64 (cellAt l1 y 1)), (i64 (cellAt l1 z 2)), (i64 (cellAt l1 u 3)), (i64 (cellAt l1 t 4))]⟩) M27, qL 62 b1 0 (Mem.mk M27.blks M27.next (hides 0 [⟨2, 1, M10.next, M27.next⟩, ⟨1, 1, M10.next, M10.next⟩, ⟨0, 1, M10.next, M10.next⟩] ++ M10.hide) M27.log) (.agg ⟨[(i64 x), (i64 y), (i64 z), (i64 u), (i64 t)]⟩), qT (Nat.blt b1 M10.next), qT (!(eq5 (cellAt l1 x 0) (cellAt l1 y 1) (cellAt l1 z 2) (cellAt l1 u 3) (cellAt l1 t 4) (x) (y) (z) (u) (t))), qT (apartN [b1] M27.log)]) := by kernel_rfl
theorem rd20r (b bb o c1 i : Nat) (a2 : Option Addr) (c2 : Nat) (l1 : List (List Int)) (l2 : List Bool) (x y z u t : Int) {M : Mem} (hM : MemOk M) (hd : DfaAt M (.agg ⟨[(sli bb o l1.length c1), (.slice a2 l2.length c2)]⟩) l1 l2) (hb : M.get b = some ⟨[(sli bb o l1.length c1), (.slice a2 l2.length c2)], 27, 2, 0, true⟩) (hld : aload Tryz.prog 62 ⟨bb, o + i * 5, none⟩ M = some (.agg ⟨[(i64 x), (i64 y), (i64 z), (i64 u), (i64 t)]⟩)) (hx : noneB x ((l1.length : Nat) : Int) = false) (hy : noneB y ((l1.length : Nat) : Int) = false) (hz : noneB z ((l1.length : Nat) : Int) = false) (hu : noneB u ((l1.length : Nat) : Int) = false) (ht : noneB t ((l1.length : Nat) : Int) = false) (cc0 : (decide ((((i : Nat) : Int)) < (((l1.length : Nat) : Int)))) = true) (cc1 : (eq5 (cellAt l1 x 0) (cellAt l1 y 1) (cellAt l1 z 2) (cellAt l1 u 3) (cellAt l1 t 4) (x) (y) (z) (u) (t)) = false) : ∃ T1 M', Rd Tryz.prog [] (q20.loopAt 0) Tryz.f20.ntmps (fr [(1, (pt b 0)), (9, (sli bb o l1.length c1)), (10, (i64 (((l1.length : Nat) : Int)))), (11, (i64 (((i : Nat) : Int))))]) M .ret T1 M' ∧ [2].map T1.get = [some (.bool false)] ∧ Ext M M' ∧ MemOk M' := by
  obtain ⟨b1, M2, eb3, em4, g5, E6, hM7⟩ := new_t hM ⟨[(i64 0), (i64 0), (i64 0), (i64 0), (i64 0)], 62, 1, 0, true⟩
  have nb1 : M.next ≤ b1 := by rw [← eb3]; exact (Ext.refl M).next
  have dbb1 : b ≠ b1 := by have := Mem.lt_of_get hb; omega
  have g8 := E6.old hb
  have X9 := (Ext.refl M).trans E6
  obtain ⟨M10, q11, g12, kp13, X14, hM15, nx16⟩ := store_t (o := 0) (v := (.agg ⟨[(i64 x), (i64 y), (i64 z), (i64 u), (i64 t)]⟩)) (new := [(i64 x), (i64 y), (i64 z), (i64 u), (i64 t)]) X9 nb1 hM7 dS62 g5 rfl rfl (Nat.zero_le _) (Nat.le_of_ble_eq_true rfl) rfl
  replace g12 : M10.get b1 = some ⟨[(i64 x), (i64 y), (i64 z), (i64 u), (i64 t)], 62, 1, 0, true⟩ := g12
  have g17 := (kp13 _ dbb1).trans g8
  obtain ⟨R18, eR19⟩ : ∃ m : Mem, m = Mem.mk M10.blks M10.next M10.hide [] := ⟨_, rfl⟩
  have X20 : Ext (Mem.mk M.blks M.next M.hide []) R18 := by rw [eR19]; exact Ext.aside (X14)
  have lg21 : R18.log = [] := by rw [eR19]
  have hM22 : MemOk R18 := by rw [eR19]; exact MemOk.log hM15
  have ltbM10 : b < M10.next := by have h := Mem.lt_of_get g17; exact h
  have g23 : R18.get b = some ⟨[(sli bb o l1.length c1), (.slice a2 l2.length c2)], 27, 2, 0, true⟩ := by rw [eR19]; exact g17
  have ltb1M10 : b1 < M10.next := by have h := Mem.lt_of_get g12; exact h
  have g24 : R18.get b1 = some ⟨[(i64 x), (i64 y), (i64 z), (i64 u), (i64 t)], 62, 1, 0, true⟩ := by rw [eR19]; exact g12
  obtain ⟨w25, N26, M27, p28, l29, e30, E31, hM32, Q33, G34⟩ := call_t (P := Tryz.prog) (GL := []) (f := 47) hM22 (con47 x y z u t (MemOk.log hM22) ((DfaAt.log hd).Ext X20).log hx hy hz hu ht)
  have g35 := E31.old g23
  have g36 := E31.old g24
  have ew25 := Q47.val ((DfaAt.log hd).Ext X20).log Q33
  subst ew25
  have lg37 : M27.log = [] := by rw [← e30]; exact lg21
  have X38 := X20.trans E31
  obtain ⟨M39, ef40⟩ : ∃ m : Mem, m = (Mem.mk M27.blks M27.next M27.hide (M27.log ++ M10.log)) := ⟨_, rfl⟩
  have X41 : Ext M M39 := by rw [ef40]; exact Ext.join (X14) (X38)
  have hM42 : MemOk M39 := by rw [ef40]; exact hM32
  have g43 : M39.get b = some ⟨[(sli bb o l1.length c1), (.slice a2 l2.length c2)], 27, 2, 0, true⟩ := by rw [ef40]; exact g35
  have g44 : M39.get b1 = some ⟨[(i64 x), (i64 y), (i64 z), (i64 u), (i64 t)], 62, 1, 0, true⟩ := by rw [ef40]; exact g36
  have hraw := rd20r_raw b bb o c1 i a2 c2 l1 l2 x y z u t M b1 M2 M10 M27
  have rw0 : Mem.mk M10.blks M10.next M10.hide [] = R18 := eR19.symm
  have rw1 : Mem.mk M10.blks M10.next (hides 0 [⟨0, 1, M10.next, M10.next⟩] ++ M10.hide) [] = R18 := by rw [show hides 0 [⟨0, 1, M10.next, M10.next⟩] = [] from by simp [hides, Nat.beq_refl, show Nat.beq 1 0 = false from rfl, show Nat.beq 2 0 = false from rfl]]; exact eR19.symm
  have rw2 : Mem.mk M27.blks M27.next M10.hide M27.log = M27 := by rw [(show M10.hide = M27.hide from ((X14).hide.trans (X38).hide.symm))]
  have rw3 : Mem.mk M27.blks M27.next (hides 0 [⟨2, 1, M10.next, M27.next⟩, ⟨1, 1, M10.next, M10.next⟩, ⟨0, 1, M10.next, M10.next⟩] ++ M10.hide) M27.log = hidx (hides 0 [⟨2, 1, M10.next, M27.next⟩, ⟨1, 1, M10.next, M10.next⟩, ⟨0, 1, M10.next, M10.next⟩]) M27 := by rw [(show M10.hide = M27.hide from ((X14).hide.trans (X38).hide.symm))]; rfl
  have rw4 : (Mem.mk M27.blks M27.next M10.hide (M27.log ++ M10.log)) = (Mem.mk M27.blks M27.next M27.hide (M27.log ++ M10.log)) := by rw [(show M10.hide = M27.hide from ((X14).hide.trans (X38).hide.symm))]
  have rw5 : (Mem.mk M27.blks M27.next M27.hide (M27.log ++ M10.log)) = M39 := ef40.symm
  try rw [rw0] at hraw
  try rw [rw1] at hraw
  try rw [rw2] at hraw
  try rw [rw3] at hraw
  try rw [rw4] at hraw
  try rw [rw5] at hraw
  obtain ⟨T1, h1, h2⟩ := Rd.told noNumP mixedP (fun B => specsB_ok (k := []) (hS20_47 B) (fun p hp => by cases hp)) (fun _ _ => rfl) hraw (hk (bT cc0) (hk (q_inb (by omega) (by simp at cc0; omega)) (hk (q_ld (aload_ext (Ext.refl M) hld)) (hk (q_eq (by rw [← eb3, ← em4]; kernel_rfl) Nat.one_ne_zero) (hk (q_st q11) (hk (lA ⟨dA27, dS27⟩ g23 rfl) (hk (lA ⟨dA62, dS62⟩ g24 rfl) (hk (q_call rfl p28 l29 e30) (hk (lA ⟨dA62, dS62⟩ (hidx_get.2 ⟨hides_low (by simp; omega), g36⟩) rfl) (hk (q_lt ltb1M10) (hk (bT (by rw [cc1]; rfl)) (hk (q_apart (by rw [lg37]; simp <;> omega)) hn))))))))))))
  exact ⟨T1, M39, h1, h2, X41, hM42⟩
theorem rd20x_raw (b : Nat) (a1 : Option Addr) (c1 i : Nat) (l1 : List (List Int)) (M : Mem)  : oR Tryz.prog [] 40 Tryz.f20 (q20.loopAt 0) [(1, (pt b 0)), (9, (.slice a1 l1.length c1)), (10, (i64 (((l1.length : Nat) : Int)))), (11, (i64 (((i : Nat) : Int))))] M [ttF 2] [1] = some ((.exit 0), [some (pt b 0)], M, [qF (decide ((((i : Nat) : Int)) < (((l1.length : Nat) : Int))))]) := by kernel_rfl
theorem rd20x (b : Nat) (a1 : Option Addr) (c1 i : Nat) (l1 : List (List Int)) {M : Mem} (hM : MemOk M) (cc0 : (decide ((((i : Nat) : Int)) < (((l1.length : Nat) : Int)))) = false) : ∃ T1 M', Rd Tryz.prog [] (q20.loopAt 0) Tryz.f20.ntmps (fr [(1, (pt b 0)), (9, (.slice a1 l1.length c1)), (10, (i64 (((l1.length : Nat) : Int)))), (11, (i64 (((i : Nat) : Int))))]) M (.exit 0) T1 M' ∧ [1].map T1.get = [some (pt b 0)] ∧ Ext M M' ∧ MemOk M' := by
  have hraw := rd20x_raw b a1 c1 i l1 M 
  obtain ⟨T1, h1, h2⟩ := Rd.told noNumP mixedP (specs_none Tryz.prog) (fun _ _ => rfl) hraw (hk (bF cc0) hn)
  exact ⟨T1, M, h1, h2, (Ext.refl M), hM⟩
end Go.Proofs.YtchnlooenomfnaaGreatDoor

set_option linter.unusedVariables false
set_option linter.unusedSimpArgs false
open Go Go.Am Go.Proofs
namespace Go.Proofs.YtchnlooenomfnaaGreatDoor
set_option maxRecDepth 100000
def stRow (l1 : List (List Int)) : List Int → Bool
  | [x, y, z, u, t] => eq5 (cellAt l1 x 0) (cellAt l1 y 1) (cellAt l1 z 2) (cellAt l1 u 3) (cellAt l1 t 4) x y z u t
  | _ => false
def stdB (l1 : List (List Int)) (l2 : List Bool) : Bool := chkB l1 l2 && l1.all (stRow l1)
theorem chk_good {l1 : List (List Int)} {l2 : List Bool} (h : chkB l1 l2 = true) : l1.any (badR ((l1.length : Nat) : Int)) = false := by
  unfold chkB at h
  simp only [Bool.and_eq_true, Bool.not_eq_true'] at h
  exact h.2
theorem loopSt {l1 : List (List Int)} {l2 : List Bool} {a : Option Addr} {c : Nat} (b : Nat) (a2 : Option Addr) (c2 : Nat) (hg : l1.any (badR ((l1.length : Nat) : Int)) = false) : ∀ (k i : Nat), i + k = l1.length → ∀ {M : Mem}, MemOk M → FlatAt 5 M (.slice a l1.length c) l1 → DfaAt M (.agg ⟨[.slice a l1.length c, .slice a2 l2.length c2]⟩) l1 l2 → M.get b = some ⟨[.slice a l1.length c, .slice a2 l2.length c2], 27, 2, 0, true⟩ →
    ∃ M' e T', Go.Am.Ext M M' ∧ LoopR Tryz.prog [] (q20.loopAt 0) Tryz.f20.ntmps (fr [(1, pt b 0), (9, .slice a l1.length c), (10, i64 ((l1.length : Nat) : Int)), (11, i64 ((i : Nat) : Int))]) M e T' M' ∧
      (((l1.drop i).all (stRow l1) = true ∧ e = .exit 0 ∧ T' = fr [(1, pt b 0)]) ∨ ((l1.drop i).all (stRow l1) = false ∧ e = .ret ∧ T' = fr [(2, .bool false)])) := by
  intro k
  induction k with
  | zero =>
    intro i hi M hM hs hd hb
    obtain ⟨T1, M1, h1, h2, h3, h4⟩ := rd20x b a c i l1 hM (decide_eq_false (by omega))
    refine ⟨M1, _, _, h3, LoopR.stop h1 (by simp) (TSub.fr (l := [(1, pt b 0)]) h2), .inl ⟨?_, rfl, rfl⟩⟩
    rw [List.drop_eq_nil_of_le (by omega)]; rfl
  | succ k ih =>
    intro i hi M hM hs hd hb
    have hlen := hs.len
    have hlt : i < l1.length := by omega
    rcases id hs.at_ with ⟨_, _, h0⟩ | ⟨bb, o, c', blk, pre, post, h1, h2⟩
    · omega
    cases h1
    obtain ⟨r, ht⟩ : ∃ r, l1[i]? = some r := ⟨l1[i], List.getElem?_eq_getElem hlt⟩
    have hdrop : l1.drop i = r :: l1.drop (i + 1) := by
      rw [List.drop_eq_getElem_cons hlt]
      rw [List.getElem?_eq_getElem hlt] at ht
      rw [Option.some.inj ht]
    have hmem := List.mem_of_getElem? ht
    obtain ⟨x, y, z, u, t, rfl⟩ := five_of (hs.wide _ hmem)
    have hld := load_flat (P := Tryz.prog) (ty := 62) hs ht dA62 dS62
    have hgr : badR ((l1.length : Nat) : Int) [x, y, z, u, t] = false := by simpa using List.any_eq_false.1 hg _ hmem
    have hv : ∀ v ∈ [x, y, z, u, t], noneB v ((l1.length : Nat) : Int) = false := fun v hv => by simpa using List.any_eq_false.1 hgr v hv
    have hx := hv x (by simp)
    have hy := hv y (by simp)
    have hz := hv z (by simp)
    have hu := hv u (by simp)
    have ht' := hv t (by simp)
    have hc : decide ((((i : Nat) : Int)) < (((l1.length : Nat) : Int))) = true := decide_eq_true (by omega)
    rw [hdrop]
    cases hq : eq5 (cellAt l1 x 0) (cellAt l1 y 1) (cellAt l1 z 2) (cellAt l1 u 3) (cellAt l1 t 4) x y z u t with
    | true =>
      obtain ⟨T1, M1, h1, h2, h3, h4⟩ := rd20n b bb o c i a2 c2 l1 l2 x y z u t hM hd hb hld hx hy hz hu ht' hc hq
      rw [wrap_succ (by omega)] at h2
      obtain ⟨M2, e, T', q1, q2, q3⟩ := ih (i + 1) (by omega) h4 (hs.Ext h3) (hd.Ext h3) (h3.old hb)
      refine ⟨M2, e, T', h3.trans q1, LoopR.step h1 (TSub.fr (l := [(1, pt b 0), (9, sli bb o l1.length c), (10, i64 ((l1.length : Nat) : Int)), (11, i64 ((i + 1 : Nat) : Int))]) h2) q2, ?_⟩
      simp only [List.all_cons, stRow, hq, Bool.true_and]
      exact q3
    | false =>
      obtain ⟨T1, M1, h1, h2, h3, h4⟩ := rd20r b bb o c i a2 c2 l1 l2 x y z u t hM hd hb hld hx hy hz hu ht' hc hq
      refine ⟨M1, _, _, h3, LoopR.stop h1 (by simp) (TSub.fr (l := [(2, .bool false)]) h2), .inr ⟨?_, rfl, rfl⟩⟩
      simp only [List.all_cons, stRow, hq, Bool.false_and]
theorem loopSt_w {l1 : List (List Int)} {l2 : List Bool} {a : Option Addr} {c : Nat} (b : Nat) (a2 : Option Addr) (c2 : Nat) (hg : l1.any (badR ((l1.length : Nat) : Int)) = false) {M : Mem} (hM : MemOk M) (hs : FlatAt 5 M (.slice a l1.length c) l1) (hd : DfaAt M (.agg ⟨[.slice a l1.length c, .slice a2 l2.length c2]⟩) l1 l2) (hb : M.get b = some ⟨[.slice a l1.length c, .slice a2 l2.length c2], 27, 2, 0, true⟩) :
    (l1.all (stRow l1) = false → ∃ M', LoopR Tryz.prog [] (q20.loopAt 0) Tryz.f20.ntmps (fr [(1, pt b 0), (9, .slice a l1.length c), (10, i64 ((l1.length : Nat) : Int)), (11, i64 0)]) M .ret (fr [(2, .bool false)]) M' ∧ Go.Am.Ext M M' ∧ MemOk M') ∧
    (l1.all (stRow l1) = true → ∃ M', LoopR Tryz.prog [] (q20.loopAt 0) Tryz.f20.ntmps (fr [(1, pt b 0), (9, .slice a l1.length c), (10, i64 ((l1.length : Nat) : Int)), (11, i64 0)]) M (.exit 0) (fr [(1, pt b 0)]) M' ∧ Go.Am.Ext M M' ∧ MemOk M') := by
  obtain ⟨M', e, T', h1, h2, h3⟩ := loopSt b a2 c2 hg l1.length 0 (by omega) hM hs hd hb
  rw [List.drop_zero] at h3
  rcases h3 with ⟨h3, rfl, rfl⟩ | ⟨h3, rfl, rfl⟩ <;> rw [h3]
  · exact ⟨fun h => by simp at h, fun _ => ⟨M', h2, h1, hM.ext h1⟩⟩
  · exact ⟨fun _ => ⟨M', h2, h1, hM.ext h1⟩, fun h => by simp at h⟩
theorem rK20s : Tryz.f20.results = #[.tmp 2] := by kernel_rfl
theorem hS20_41 (B : Bd) : ∀ p ∈ ([(41, pick (Con Tryz.prog [] 41 Qchk))] : List (FuncId × (List Value → Mem → Option (Value × Mem)))), SpecOk Tryz.prog [] B p.1 p.2 := (fun p hp => by simp only [List.mem_cons, List.not_mem_nil, or_false] at hp; rcases hp with rfl <;> first | exact Con.ok _)
theorem wS_0_raw (a1 : Option Addr) (c1 : Nat) (a2 : Option Addr) (c2 : Nat) (l1 : List (List Int)) (l2 : List Bool)  (M : Mem) (b1 : Nat) (M2 : Mem) (M11 : Mem) (M21 : Mem) : oT Tryz.prog [0] 40 Tryz.f20 q20 [(.agg ⟨[(.slice a1 l1.length c1), (.slice a2 l2.length c2)]⟩)] M [ttV 1 (pt b1 0) M2, ttL 5 (.agg ⟨[(.slice a1 l1.length c1), (.slice a2 l2.length c2)]⟩), ttV 7 (.bool (chkB l1 l2)) M11, ttF 10, ttL 14 (.slice a1 l1.length c1), ttT 16, .blk 19 [1, 9, 10, 11] .normal (fr [(1, (pt b1 0))]) M21] 2 = some (.ret, some (.bool true), M21, [.eq (abox Tryz.prog 27 (.agg ⟨[(.slice a1 l1.length c1), (.slice a2 l2.length c2)]⟩) M) (1, .val (pt b1 0), M2), qL 27 b1 0 M2 (.agg ⟨[(.slice a1 l1.length c1), (.slice a2 l2.length c2)]⟩), qC 41 [(.agg ⟨[(.slice a1 l1.length c1), (.slice a2 l2.length c2)]⟩)] M2 (.bool (chkB l1 l2)) M11, qF (!(chkB l1 l2)), qL 24 b1 0 M11 (.slice a1 l1.length c1), .ln a1 l1.length c1, .blk 0 (.loop (q20.loopAt 0)) Tryz.f20.ntmps [1, 9, 10, 11] [some (pt b1 0), some (.slice a1 l1.length c1), some (i64 (((l1.length : Nat) : Int))), some (i64 0)] M11 .normal (fr [(1, (pt b1 0))]) M21]) := by kernel_rfl
theorem wS_0 (a1 : Option Addr) (c1 : Nat) (a2 : Option Addr) (c2 : Nat) (l1 : List (List Int)) (l2 : List Bool)  {M : Mem} (hM : MemOk M) (hs1 : FlatAt 5 M (.slice a1 l1.length c1) l1) (hd : DfaAt M (.agg ⟨[(.slice a1 l1.length c1), (.slice a2 l2.length c2)]⟩) l1 l2) (cc0 : (chkB l1 l2) = true) (cc1 : (l1.all (stRow l1)) = true) : ∃ M', Ev Tryz.prog [] 20 [(.agg ⟨[(.slice a1 l1.length c1), (.slice a2 l2.length c2)]⟩)] M (.bool true) M' ∧ Ext M M' := by
  obtain ⟨b1, M2, eb3, em4, g5, E6, hM7⟩ := new_t hM ⟨[(.slice a1 l1.length c1), (.slice a2 l2.length c2)], 27, 2, 0, true⟩
  have nb1 : M.next ≤ b1 := by rw [← eb3]; exact (Ext.refl M).next
  have X8 := (Ext.refl M).trans E6
  obtain ⟨w9, N10, M11, p12, l13, e14, E15, hM16, Q17, G18⟩ := call_t (P := Tryz.prog) (GL := []) (f := 41) hM7 (con41 (MemOk.log hM7) (hd.Ext X8).log)
  have g19 := E15.old g5
  have ew9 := Qchk.val (hd.Ext X8).log Q17
  subst ew9
  have X20 := X8.trans E15
  obtain ⟨M21, hL22, E23, hM24⟩ := (loopSt_w b1 a2 c2 (chk_good cc0) hM16 (hs1.Ext X20) (hd.Ext X20) g19).2 cc1
  have g25 := E23.old g19
  have X26 := X20.trans E23
  exact ⟨M21, Ev.told_tmp noNumP mixedP Tryz.func20 q20_ok (by kernel_rfl) rK20s (fun B => specsB_ok (hS20_41 B) (k := [(0, bone (.loop (q20.loopAt 0)) Tryz.f20.ntmps [1, 9, 10, 11] [some (pt b1 0), some (.slice a1 l1.length c1), some (i64 (((l1.length : Nat) : Int))), some (i64 0)] M11 .normal (fr [(1, (pt b1 0))]) M21)]) (fun p hp => by simp only [List.mem_cons, List.not_mem_nil, or_false] at hp; rcases hp with rfl <;> first | exact BlkOk.loop noNumP mixedP hL22)) (fun _ h => blksF_one h) (wS_0_raw a1 c1 a2 c2 l1 l2 M b1 M2 M11 M21) (hk (q_eq (by rw [← eb3, ← em4]; kernel_rfl) Nat.one_ne_zero) (hk (lA ⟨dA27, dS27⟩ g5 rfl) (hk (q_call rfl p12 l13 e14) (hk (bF (by rw [cc0]; rfl)) (hk (lC dC24 g19 rfl) (hk (lN hs1.ln) (hk (q_blk rfl) hn))))))), X26⟩
theorem wS_1_raw (a1 : Option Addr) (c1 : Nat) (a2 : Option Addr) (c2 : Nat) (l1 : List (List Int)) (l2 : List Bool)  (M : Mem) (b1 : Nat) (M2 : Mem) (M11 : Mem) (M21 : Mem) : oT Tryz.prog [0] 40 Tryz.f20 q20 [(.agg ⟨[(.slice a1 l1.length c1), (.slice a2 l2.length c2)]⟩)] M [ttV 1 (pt b1 0) M2, ttL 5 (.agg ⟨[(.slice a1 l1.length c1), (.slice a2 l2.length c2)]⟩), ttV 7 (.bool (chkB l1 l2)) M11, ttF 10, ttL 14 (.slice a1 l1.length c1), ttT 16, .blk 19 [1, 9, 10, 11] .ret (fr [(2, .bool false)]) M21] 2 = some (.ret, some (.bool false), M21, [.eq (abox Tryz.prog 27 (.agg ⟨[(.slice a1 l1.length c1), (.slice a2 l2.length c2)]⟩) M) (1, .val (pt b1 0), M2), qL 27 b1 0 M2 (.agg ⟨[(.slice a1 l1.length c1), (.slice a2 l2.length c2)]⟩), qC 41 [(.agg ⟨[(.slice a1 l1.length c1), (.slice a2 l2.length c2)]⟩)] M2 (.bool (chkB l1 l2)) M11, qF (!(chkB l1 l2)), qL 24 b1 0 M11 (.slice a1 l1.length c1), .ln a1 l1.length c1, .blk 0 (.loop (q20.loopAt 0)) Tryz.f20.ntmps [1, 9, 10, 11] [some (pt b1 0), some (.slice a1 l1.length c1), some (i64 (((l1.length : Nat) : Int))), some (i64 0)] M11 .ret (fr [(2, .bool false)]) M21]) := by kernel_rfl
theorem wS_1 (a1 : Option Addr) (c1 : Nat) (a2 : Option Addr) (c2 : Nat) (l1 : List (List Int)) (l2 : List Bool)  {M : Mem} (hM : MemOk M) (hs1 : FlatAt 5 M (.slice a1 l1.length c1) l1) (hd : DfaAt M (.agg ⟨[(.slice a1 l1.length c1), (.slice a2 l2.length c2)]⟩) l1 l2) (cc0 : (chkB l1 l2) = true) (cc1 : (l1.all (stRow l1)) = false) : ∃ M', Ev Tryz.prog [] 20 [(.agg ⟨[(.slice a1 l1.length c1), (.slice a2 l2.length c2)]⟩)] M (.bool false) M' ∧ Ext M M' := by
  obtain ⟨b1, M2, eb3, em4, g5, E6, hM7⟩ := new_t hM ⟨[(.slice a1 l1.length c1), (.slice a2 l2.length c2)], 27, 2, 0, true⟩
  have nb1 : M.next ≤ b1 := by rw [← eb3]; exact (Ext.refl M).next
  have X8 := (Ext.refl M).trans E6
  obtain ⟨w9, N10, M11, p12, l13, e14, E15, hM16, Q17, G18⟩ := call_t (P := Tryz.prog) (GL := []) (f := 41) hM7 (con41 (MemOk.log hM7) (hd.Ext X8).log)
  have g19 := E15.old g5
  have ew9 := Qchk.val (hd.Ext X8).log Q17
  subst ew9
  have X20 := X8.trans E15
  obtain ⟨M21, hL22, E23, hM24⟩ := (loopSt_w b1 a2 c2 (chk_good cc0) hM16 (hs1.Ext X20) (hd.Ext X20) g19).1 cc1
  have g25 := E23.old g19
  have X26 := X20.trans E23
  exact ⟨M21, Ev.told_tmp noNumP mixedP Tryz.func20 q20_ok (by kernel_rfl) rK20s (fun B => specsB_ok (hS20_41 B) (k := [(0, bone (.loop (q20.loopAt 0)) Tryz.f20.ntmps [1, 9, 10, 11] [some (pt b1 0), some (.slice a1 l1.length c1), some (i64 (((l1.length : Nat) : Int))), some (i64 0)] M11 .ret (fr [(2, .bool false)]) M21)]) (fun p hp => by simp only [List.mem_cons, List.not_mem_nil, or_false] at hp; rcases hp with rfl <;> first | exact BlkOk.loop noNumP mixedP hL22)) (fun _ h => blksF_one h) (wS_1_raw a1 c1 a2 c2 l1 l2 M b1 M2 M11 M21) (hk (q_eq (by rw [← eb3, ← em4]; kernel_rfl) Nat.one_ne_zero) (hk (lA ⟨dA27, dS27⟩ g5 rfl) (hk (q_call rfl p12 l13 e14) (hk (bF (by rw [cc0]; rfl)) (hk (lC dC24 g19 rfl) (hk (lN hs1.ln) (hk (q_blk rfl) hn))))))), X26⟩
theorem wS_2_raw (a1 : Option Addr) (c1 : Nat) (a2 : Option Addr) (c2 : Nat) (l1 : List (List Int)) (l2 : List Bool)  (M : Mem) (b1 : Nat) (M2 : Mem) (M11 : Mem) : oT Tryz.prog [] 40 Tryz.f20 q20 [(.agg ⟨[(.slice a1 l1.length c1), (.slice a2 l2.length c2)]⟩)] M [ttV 1 (pt b1 0) M2, ttL 5 (.agg ⟨[(.slice a1 l1.length c1), (.slice a2 l2.length c2)]⟩), ttV 7 (.bool (chkB l1 l2)) M11, ttT 10] 2 = some (.ret, some (.bool false), M11, [.eq (abox Tryz.prog 27 (.agg ⟨[(.slice a1 l1.length c1), (.slice a2 l2.length c2)]⟩) M) (1, .val (pt b1 0), M2), qL 27 b1 0 M2 (.agg ⟨[(.slice a1 l1.length c1), (.slice a2 l2.length c2)]⟩), qC 41 [(.agg ⟨[(.slice a1 l1.length c1), (.slice a2 l2.length c2)]⟩)] M2 (.bool (chkB l1 l2)) M11, qT (!(chkB l1 l2))]) := by kernel_rfl
theorem wS_2 (a1 : Option Addr) (c1 : Nat) (a2 : Option Addr) (c2 : Nat) (l1 : List (List Int)) (l2 : List Bool)  {M : Mem} (hM : MemOk M) (hs1 : FlatAt 5 M (.slice a1 l1.length c1) l1) (hd : DfaAt M (.agg ⟨[(.slice a1 l1.length c1), (.slice a2 l2.length c2)]⟩) l1 l2) (cc0 : (chkB l1 l2) = false) : ∃ M', Ev Tryz.prog [] 20 [(.agg ⟨[(.slice a1 l1.length c1), (.slice a2 l2.length c2)]⟩)] M (.bool false) M' ∧ Ext M M' := by
  obtain ⟨b1, M2, eb3, em4, g5, E6, hM7⟩ := new_t hM ⟨[(.slice a1 l1.length c1), (.slice a2 l2.length c2)], 27, 2, 0, true⟩
  have nb1 : M.next ≤ b1 := by rw [← eb3]; exact (Ext.refl M).next
  have X8 := (Ext.refl M).trans E6
  obtain ⟨w9, N10, M11, p12, l13, e14, E15, hM16, Q17, G18⟩ := call_t (P := Tryz.prog) (GL := []) (f := 41) hM7 (con41 (MemOk.log hM7) (hd.Ext X8).log)
  have g19 := E15.old g5
  have ew9 := Qchk.val (hd.Ext X8).log Q17
  subst ew9
  have X20 := X8.trans E15
  exact ⟨M11, Ev.told_tmp noNumP mixedP Tryz.func20 q20_ok (by kernel_rfl) rK20s (fun B => specsB_ok (k := []) (hS20_41 B) (fun p hp => by cases hp)) (fun _ _ => rfl) (wS_2_raw a1 c1 a2 c2 l1 l2 M b1 M2 M11) (hk (q_eq (by rw [← eb3, ← em4]; kernel_rfl) Nat.one_ne_zero) (hk (lA ⟨dA27, dS27⟩ g5 rfl) (hk (q_call rfl p12 l13 e14) (hk (bT (by rw [cc0]; rfl)) hn)))), X20⟩
theorem wS_all (a1 : Option Addr) (c1 : Nat) (a2 : Option Addr) (c2 : Nat) (l1 : List (List Int)) (l2 : List Bool) {M : Mem} (hM : MemOk M) (hs1 : FlatAt 5 M (.slice a1 l1.length c1) l1) (hd : DfaAt M (.agg ⟨[(.slice a1 l1.length c1), (.slice a2 l2.length c2)]⟩) l1 l2) : ∃ M', Ev Tryz.prog [] 20 [(.agg ⟨[(.slice a1 l1.length c1), (.slice a2 l2.length c2)]⟩)] M (.bool (stdB l1 l2)) M' ∧ Ext M M' := by
  cases cc0 : (chkB l1 l2) with
  | true =>
    cases cc1 : (l1.all (stRow l1)) with
    | true =>
      have h := wS_0 a1 c1 a2 c2 l1 l2 hM hs1 hd cc0 cc1
      first | exact h | (have e : ((.bool (stdB l1 l2)) : Value) = (.bool true) := (by simp only [stdB, cc0, cc1, cond_true, cond_false, Bool.true_and, Bool.false_and, Bool.and_true, Bool.and_false, Bool.true_or, Bool.false_or, Bool.or_true, Bool.or_false, Bool.not_true, Bool.not_false] <;> rfl); rw [e]; exact h)
    | false =>
      have h := wS_1 a1 c1 a2 c2 l1 l2 hM hs1 hd cc0 cc1
      first | exact h | (have e : ((.bool (stdB l1 l2)) : Value) = (.bool false) := (by simp only [stdB, cc0, cc1, cond_true, cond_false, Bool.true_and, Bool.false_and, Bool.and_true, Bool.and_false, Bool.true_or, Bool.false_or, Bool.or_true, Bool.or_false, Bool.not_true, Bool.not_false] <;> rfl); rw [e]; exact h)
  | false =>
    have h := wS_2 a1 c1 a2 c2 l1 l2 hM hs1 hd cc0
    first | exact h | (have e : ((.bool (stdB l1 l2)) : Value) = (.bool false) := (by simp only [stdB, cc0, cond_true, cond_false, Bool.true_and, Bool.false_and, Bool.and_true, Bool.and_false, Bool.true_or, Bool.false_or, Bool.or_true, Bool.or_false, Bool.not_true, Bool.not_false] <;> rfl); rw [e]; exact h)
def Qstd : List Value → Mem → Value → Mem → Prop := fun args M v _ => ∃ x l1 l2, args = [x] ∧ DfaAt M x l1 l2 ∧ v = .bool (stdB l1 l2)
theorem Qstd.val {x : Value} {l1 : List (List Int)} {l2 : List Bool} {M M' : Mem} {v : Value} (h : DfaAt M x l1 l2) (hq : Qstd [x] M v M') : v = .bool (stdB l1 l2) := by
  obtain ⟨x', l1', l2', h1, h2, rfl⟩ := hq
  simp only [List.cons.injEq, and_true] at h1
  subst h1
  obtain ⟨rfl, rfl⟩ := h.unique h2
  rfl
theorem con20 {x : Value} {l1 : List (List Int)} {l2 : List Bool} {M : Mem} (hM : MemOk M) (h : DfaAt M x l1 l2) : ∃ v M', Con Tryz.prog [] 20 Qstd [x] M v M' := by
  have h0 := h
  obtain ⟨L1, L2, rfl, h2, h3⟩ := h.at_
  obtain ⟨a1, c1, rfl⟩ := h2.form
  obtain ⟨a2, c2, rfl⟩ := h3.form
  obtain ⟨M', k1, k2⟩ := wS_all a1 c1 a2 c2 l1 l2 hM h2 h0
  exact ⟨_, M', k1, k2, _, l1, l2, rfl, h0, rfl⟩
end Go.Proofs.YtchnlooenomfnaaGreatDoor
