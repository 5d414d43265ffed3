/-
  What is proved: RegexRight: whether any expression is right is what the document's own reading says, and so is one of which one thing was turned. For every argument; the tables are as the program lays them.
-/
import Derived.Test.YtlgkpnlppgihcaaDoorGTA8
import Derived.Test.YtlgkpnlppgihcaaDoorAmNt
import Derived.Test.YtlgkpnlppgihcaaDoorAmTree3
import Derived.Test.YtlgkpnlppgihcaaDoorAmQ
import Derived.KernelRfl
import Derived.Test.YtlgkpnlppgihcaaDoorProg
import Derived.Test.YtlgkpnlppgihcaaDoorGTA4
import Derived.Test.YtlgkpnlppgihcaaDoorGRB4
open Go Go.Am Go.Proofs
namespace Go.Proofs.YtlgkpnlppgihcaaDoor
set_option maxRecDepth 100000
theorem mk1_all {k n : Int} {ba bb bc c : Nat} {a : Option Addr} {l : List DT} {M Ms : Mem} {rows : List (List Value)} (ih : IH29 l) (hr : RowsAt 3 M l rows) (hs : SlAt M (.slice a l.length c) l.length rows)
    (X0 : Ext M Ms) (hM0 : MemOk Ms) (nba : M.next ≤ ba) (nbb : M.next ≤ bb) (nbc : M.next ≤ bc) (dbabb : ba ≠ bb) (dbabc : ba ≠ bc) (dbbbc : bb ≠ bc) (ga : Ms.get ba = some ⟨[i64 k, i64 n, .slice a l.length c], 54, 3, 0, true⟩) (gb : Ms.get bb = some ⟨[i64 0, i64 0, i64 0, i64 0, sln], 27, 5, 0, true⟩) (gc : Ms.get bc = some ⟨[i64 4, i64 0, i64 0, i64 0, sln], 27, 5, 0, true⟩) : mkR 1 3 4 4 k n (.slice a l.length c) ba bb bc M Ms := by
  by_cases h2 : 2 < l.length
  · have e2 : decide ((2 : Int) < (((l.length : Nat) : Int))) = true := by simp; omega
    by_cases h3 : 3 < l.length
    · have e3 : decide ((3 : Int) < (((l.length : Nat) : Int))) = true := by simp; omega
      by_cases h4 : 4 < l.length
      · have e4 : decide ((4 : Int) < (((l.length : Nat) : Int))) = true := by simp; omega
        exact mk1_0 k n ba bb bc a c l ih hr hs X0 hM0 nba nbb nbc dbabb dbabc dbbbc ga gb gc e2 e3 e4
      · have e4 : decide ((4 : Int) < (((l.length : Nat) : Int))) = false := by simp; omega
        exact mk1_1 k n ba bb bc a c l ih hr hs X0 hM0 nba nbb nbc dbabb dbabc dbbbc ga gb gc e2 e3 e4
    · have e3 : decide ((3 : Int) < (((l.length : Nat) : Int))) = false := by simp; omega
      exact mk1_2 k n ba bb bc a c l ih hr hs X0 hM0 nba nbb nbc dbabb dbabc dbbbc ga gb gc e2 e3
  · have e2 : decide ((2 : Int) < (((l.length : Nat) : Int))) = false := by simp; omega
    exact mk1_3 k n ba bb bc a c l ih hr hs X0 hM0 nba nbb nbc dbabb dbabc dbbbc ga gb gc e2
theorem mk3_all {k n : Int} {ba bb bc c : Nat} {a : Option Addr} {l : List DT} {M Ms : Mem} {rows : List (List Value)} (ih : IH29 l) (hr : RowsAt 3 M l rows) (hs : SlAt M (.slice a l.length c) l.length rows)
    (X0 : Ext M Ms) (hM0 : MemOk Ms) (nba : M.next ≤ ba) (nbb : M.next ≤ bb) (nbc : M.next ≤ bc) (dbabb : ba ≠ bb) (dbabc : ba ≠ bc) (dbbbc : bb ≠ bc) (ga : Ms.get ba = some ⟨[i64 k, i64 n, .slice a l.length c], 54, 3, 0, true⟩) (gb : Ms.get bb = some ⟨[i64 0, i64 0, i64 0, i64 0, sln], 27, 5, 0, true⟩) (gc : Ms.get bc = some ⟨[i64 5, i64 0, i64 0, i64 0, sln], 27, 5, 0, true⟩) : mkR 3 5 6 5 k n (.slice a l.length c) ba bb bc M Ms := by
  by_cases h2 : 2 < l.length
  · have e2 : decide ((2 : Int) < (((l.length : Nat) : Int))) = true := by simp; omega
    by_cases h3 : 3 < l.length
    · have e3 : decide ((3 : Int) < (((l.length : Nat) : Int))) = true := by simp; omega
      by_cases h4 : 4 < l.length
      · have e4 : decide ((4 : Int) < (((l.length : Nat) : Int))) = true := by simp; omega
        exact mk3_0 k n ba bb bc a c l ih hr hs X0 hM0 nba nbb nbc dbabb dbabc dbbbc ga gb gc e2 e3 e4
      · have e4 : decide ((4 : Int) < (((l.length : Nat) : Int))) = false := by simp; omega
        exact mk3_1 k n ba bb bc a c l ih hr hs X0 hM0 nba nbb nbc dbabb dbabc dbbbc ga gb gc e2 e3 e4
    · have e3 : decide ((3 : Int) < (((l.length : Nat) : Int))) = false := by simp; omega
      exact mk3_2 k n ba bb bc a c l ih hr hs X0 hM0 nba nbb nbc dbabb dbabc dbbbc ga gb gc e2 e3
  · have e2 : decide ((2 : Int) < (((l.length : Nat) : Int))) = false := by simp; omega
    exact mk3_3 k n ba bb bc a c l ih hr hs X0 hM0 nba nbb nbc dbabb dbabc dbbbc ga gb gc e2
theorem hS29_23 (B : Nat) : ∀ p ∈ ([(23, pick (Con Tryd.prog [] 23 (Fl g23)))] : List (FuncId × (List Value → Mem → Option (Value × Mem)))), SpecOk Tryd.prog [] B p.1 p.2 := (fun p hp => by simp only [List.mem_cons, List.not_mem_nil, or_false] at hp; rcases hp with rfl <;> first | exact Con.ok _)
theorem w29_0_raw (k n : Int) (a : Option Addr) (c : Nat) (l : List DT) (M : Mem) (b1 : Nat) (M2 : Mem) (b9 : Nat) (M10 M20 M33 M44 : Mem) : oT Tryd.prog [] 60 Tryd.f29 q29 [(nd3 k n (.slice a l.length c))] M [ttV 1 (pt b1 0) M2, ttV 3 (pt b9 0) M10, ttL 7 (i64 k), ttV 9 (i64 0) M20, ttL 19 (i64 n), ttV 21 (i64 (modI n 31)) M33, ttS 27 M44] 2 = some (.ret, some (pt b9 0), M44, [.eq (abox Tryd.prog 54 (nd3 k n (.slice a l.length c)) M) (1, .val (pt b1 0), M2), .eq (aalloc Tryd.prog 27 M2) (1, .val (pt b9 0), M10), qL 3 b1 0 M10 (i64 k), qC 23 [i64 k, i64 14] M10 (i64 0) M20, qL 3 b1 1 M20 (i64 n), qC 23 [i64 n, i64 31] M20 (i64 (modI n 31)) M33, qS 27 b9 0 (nd5 1 (IntKind.wrap .i64 ((1 : Int) + (modI n 31))) 0 0 sln) M33 M44]) := by kernel_rfl
theorem w29_0 (k n : Int) (a : Option Addr) (c : Nat) (l : List DT) {M : Mem} (hM : MemOk M) {rows : List (List Value)} (_ : IH29 l) (_ : RowsAt 3 M l rows) (_ : SlAt M (.slice a l.length c) l.length rows) (cc0 : modI k 14 = 0) : ∃ v M', Con Tryd.prog [] 29 (Qn 5) [(nd3 k n (.slice a l.length c))] M v M' := by
  obtain ⟨b1, M2, eb3, em4, g5, E6, hM7⟩ := new_t hM ⟨[i64 k, i64 n, (.slice a l.length c)], 54, 3, 0, true⟩
  have nb1 : M.next ≤ b1 := by rw [← eb3]; exact (Ext.refl M).next
  have X8 := (Ext.refl M).trans E6
  obtain ⟨b9, M10, eb11, em12, g13, E14, hM15⟩ := new_t hM7 ⟨[i64 0, i64 0, i64 0, i64 0, sln], 27, 5, 0, true⟩
  have nb9 := nb_of eb11 X8
  have db1b9 := ne_new g5 eb11
  have g16 := E14.old g5
  have X17 := X8.trans E14
  obtain ⟨w18, N19, M20, p21, l22, e23, E24, hM25, Q26, G27⟩ := call_t hM15 (con23 k 14 (by decide))
  have g28 := E24.old g16
  have g29 := E24.old g13
  have ew18 : w18 = i64 0 := by
    have h : i64 (modI k 14) = w18 := Option.some.inj Q26
    rw [← h, cc0]
  subst ew18
  have X30 := X17.trans E24
  obtain ⟨w31, N32, M33, p34, l35, e36, E37, hM38, Q39, G40⟩ := call_t hM25 (con23 n 31 (by decide))
  have g41 := E37.old g28
  have g42 := E37.old g29
  have ew31 : w31 = i64 (modI n 31) := (Option.some.inj Q39).symm
  subst ew31
  have X43 := X30.trans E37
  obtain ⟨M44, q45, g46, kp47, X48, hM49, nx50⟩ := store_t (o := 0) (v := (nd5 1 (IntKind.wrap .i64 ((1 : Int) + (modI n 31))) 0 0 sln)) (new := [i64 1, (i64 (IntKind.wrap .i64 ((1 : Int) + (modI n 31)))), i64 0, i64 0, sln]) X43 nb9 hM38 dS27 g42 rfl rfl (Nat.zero_le _) (Nat.le_of_ble_eq_true rfl) rfl
  replace g46 : M44.get b9 = some ⟨[i64 1, (i64 (IntKind.wrap .i64 ((1 : Int) + (modI n 31)))), i64 0, i64 0, sln], 27, 5, 0, true⟩ := g46
  have g51 := (kp47 _ db1b9).trans g41
  have hraw := w29_0_raw k n a c l M b1 M2 b9 M10 M20 M33 M44
  have hres := aload_agg (a := ⟨b9, 0, none⟩) dA27 dS27 g46 rfl
  exact Con.qn (Ev.told_cell noNumP mixedP Tryd.func29 q29_ok (by kernel_rfl) rK29 (sK hS29_23) (fun _ _ => rfl) hraw hres (hk (q_eq (by rw [← eb3, ← em4]; kernel_rfl) Nat.one_ne_zero) (hk (q_eq (by rw [← eb11, ← em12]; kernel_rfl) Nat.one_ne_zero) (hk (lC dC3 g16 rfl) (hk (q_call rfl p21 l22 e23) (hk (lC dC3 g28 rfl) (hk (q_call rfl p34 l35 e36) (hk (q_st q45) hn)))))))) X48 (NodeAt.flat5 1 (IntKind.wrap .i64 ((1 : Int) + (modI n 31))) 0 0) (by first | assumption | exact Small.mk (by simp) (by repeat' first | exact Small.n0 | assumption | refine Small.c ?_ ?_))
theorem w29_1_raw (k n : Int) (a : Option Addr) (c : Nat) (l : List DT) (M : Mem) (b1 : Nat) (M2 : Mem) (b9 : Nat) (M10 M20 M33 M44 : Mem) : oT Tryd.prog [] 60 Tryd.f29 q29 [(nd3 k n (.slice a l.length c))] M [ttV 1 (pt b1 0) M2, ttV 3 (pt b9 0) M10, ttL 7 (i64 k), ttV 9 (i64 1) M20, ttL 23 (i64 n), ttV 25 (i64 (modI n 31)) M33, ttS 31 M44] 2 = some (.ret, some (pt b9 0), M44, [.eq (abox Tryd.prog 54 (nd3 k n (.slice a l.length c)) M) (1, .val (pt b1 0), M2), .eq (aalloc Tryd.prog 27 M2) (1, .val (pt b9 0), M10), qL 3 b1 0 M10 (i64 k), qC 23 [i64 k, i64 14] M10 (i64 1) M20, qL 3 b1 1 M20 (i64 n), qC 23 [i64 n, i64 31] M20 (i64 (modI n 31)) M33, qS 27 b9 0 (nd5 1 (IntKind.wrap .i64 ((1 : Int) + (modI n 31))) 0 0 sln) M33 M44]) := by kernel_rfl
theorem w29_1 (k n : Int) (a : Option Addr) (c : Nat) (l : List DT) {M : Mem} (hM : MemOk M) {rows : List (List Value)} (_ : IH29 l) (_ : RowsAt 3 M l rows) (_ : SlAt M (.slice a l.length c) l.length rows) (cc0 : modI k 14 = 1) : ∃ v M', Con Tryd.prog [] 29 (Qn 5) [(nd3 k n (.slice a l.length c))] M v M' := by
  obtain ⟨b1, M2, eb3, em4, g5, E6, hM7⟩ := new_t hM ⟨[i64 k, i64 n, (.slice a l.length c)], 54, 3, 0, true⟩
  have nb1 : M.next ≤ b1 := by rw [← eb3]; exact (Ext.refl M).next
  have X8 := (Ext.refl M).trans E6
  obtain ⟨b9, M10, eb11, em12, g13, E14, hM15⟩ := new_t hM7 ⟨[i64 0, i64 0, i64 0, i64 0, sln], 27, 5, 0, true⟩
  have nb9 := nb_of eb11 X8
  have db1b9 := ne_new g5 eb11
  have g16 := E14.old g5
  have X17 := X8.trans E14
  obtain ⟨w18, N19, M20, p21, l22, e23, E24, hM25, Q26, G27⟩ := call_t hM15 (con23 k 14 (by decide))
  have g28 := E24.old g16
  have g29 := E24.old g13
  have ew18 : w18 = i64 1 := by
    have h : i64 (modI k 14) = w18 := Option.some.inj Q26
    rw [← h, cc0]
  subst ew18
  have X30 := X17.trans E24
  obtain ⟨w31, N32, M33, p34, l35, e36, E37, hM38, Q39, G40⟩ := call_t hM25 (con23 n 31 (by decide))
  have g41 := E37.old g28
  have g42 := E37.old g29
  have ew31 : w31 = i64 (modI n 31) := (Option.some.inj Q39).symm
  subst ew31
  have X43 := X30.trans E37
  obtain ⟨M44, q45, g46, kp47, X48, hM49, nx50⟩ := store_t (o := 0) (v := (nd5 1 (IntKind.wrap .i64 ((1 : Int) + (modI n 31))) 0 0 sln)) (new := [i64 1, (i64 (IntKind.wrap .i64 ((1 : Int) + (modI n 31)))), i64 0, i64 0, sln]) X43 nb9 hM38 dS27 g42 rfl rfl (Nat.zero_le _) (Nat.le_of_ble_eq_true rfl) rfl
  replace g46 : M44.get b9 = some ⟨[i64 1, (i64 (IntKind.wrap .i64 ((1 : Int) + (modI n 31)))), i64 0, i64 0, sln], 27, 5, 0, true⟩ := g46
  have g51 := (kp47 _ db1b9).trans g41
  have hraw := w29_1_raw k n a c l M b1 M2 b9 M10 M20 M33 M44
  have hres := aload_agg (a := ⟨b9, 0, none⟩) dA27 dS27 g46 rfl
  exact Con.qn (Ev.told_cell noNumP mixedP Tryd.func29 q29_ok (by kernel_rfl) rK29 (sK hS29_23) (fun _ _ => rfl) hraw hres (hk (q_eq (by rw [← eb3, ← em4]; kernel_rfl) Nat.one_ne_zero) (hk (q_eq (by rw [← eb11, ← em12]; kernel_rfl) Nat.one_ne_zero) (hk (lC dC3 g16 rfl) (hk (q_call rfl p21 l22 e23) (hk (lC dC3 g28 rfl) (hk (q_call rfl p34 l35 e36) (hk (q_st q45) hn)))))))) X48 (NodeAt.flat5 1 (IntKind.wrap .i64 ((1 : Int) + (modI n 31))) 0 0) (by first | assumption | exact Small.mk (by simp) (by repeat' first | exact Small.n0 | assumption | refine Small.c ?_ ?_))
theorem w29_2_raw (k n : Int) (a : Option Addr) (c : Nat) (l : List DT) (M : Mem) (b1 : Nat) (M2 : Mem) (b9 : Nat) (M10 M20 M33 M44 : Mem) : oT Tryd.prog [] 60 Tryd.f29 q29 [(nd3 k n (.slice a l.length c))] M [ttV 1 (pt b1 0) M2, ttV 3 (pt b9 0) M10, ttL 7 (i64 k), ttV 9 (i64 2) M20, ttL 29 (i64 n), ttV 31 (i64 0) M33, ttS 39 M44] 2 = some (.ret, some (pt b9 0), M44, [.eq (abox Tryd.prog 54 (nd3 k n (.slice a l.length c)) M) (1, .val (pt b1 0), M2), .eq (aalloc Tryd.prog 27 M2) (1, .val (pt b9 0), M10), qL 3 b1 0 M10 (i64 k), qC 23 [i64 k, i64 14] M10 (i64 2) M20, qL 3 b1 1 M20 (i64 n), qC 23 [i64 n, i64 5] M20 (i64 0) M33, qS 27 b9 0 (nd5 1 1 0 0 sln) M33 M44]) := by kernel_rfl
theorem w29_2 (k n : Int) (a : Option Addr) (c : Nat) (l : List DT) {M : Mem} (hM : MemOk M) {rows : List (List Value)} (_ : IH29 l) (_ : RowsAt 3 M l rows) (_ : SlAt M (.slice a l.length c) l.length rows) (cc0 : modI k 14 = 2) (cc1 : modI n 5 = 0) : ∃ v M', Con Tryd.prog [] 29 (Qn 5) [(nd3 k n (.slice a l.length c))] M v M' := by
  obtain ⟨b1, M2, eb3, em4, g5, E6, hM7⟩ := new_t hM ⟨[i64 k, i64 n, (.slice a l.length c)], 54, 3, 0, true⟩
  have nb1 : M.next ≤ b1 := by rw [← eb3]; exact (Ext.refl M).next
  have X8 := (Ext.refl M).trans E6
  obtain ⟨b9, M10, eb11, em12, g13, E14, hM15⟩ := new_t hM7 ⟨[i64 0, i64 0, i64 0, i64 0, sln], 27, 5, 0, true⟩
  have nb9 := nb_of eb11 X8
  have db1b9 := ne_new g5 eb11
  have g16 := E14.old g5
  have X17 := X8.trans E14
  obtain ⟨w18, N19, M20, p21, l22, e23, E24, hM25, Q26, G27⟩ := call_t hM15 (con23 k 14 (by decide))
  have g28 := E24.old g16
  have g29 := E24.old g13
  have ew18 : w18 = i64 2 := by
    have h : i64 (modI k 14) = w18 := Option.some.inj Q26
    rw [← h, cc0]
  subst ew18
  have X30 := X17.trans E24
  obtain ⟨w31, N32, M33, p34, l35, e36, E37, hM38, Q39, G40⟩ := call_t hM25 (con23 n 5 (by decide))
  have g41 := E37.old g28
  have g42 := E37.old g29
  have ew31 : w31 = i64 0 := by
    have h : i64 (modI n 5) = w31 := Option.some.inj Q39
    rw [← h, cc1]
  subst ew31
  have X43 := X30.trans E37
  obtain ⟨M44, q45, g46, kp47, X48, hM49, nx50⟩ := store_t (o := 0) (v := (nd5 1 1 0 0 sln)) (new := [i64 1, i64 1, i64 0, i64 0, sln]) X43 nb9 hM38 dS27 g42 rfl rfl (Nat.zero_le _) (Nat.le_of_ble_eq_true rfl) rfl
  replace g46 : M44.get b9 = some ⟨[i64 1, i64 1, i64 0, i64 0, sln], 27, 5, 0, true⟩ := g46
  have g51 := (kp47 _ db1b9).trans g41
  have hraw := w29_2_raw k n a c l M b1 M2 b9 M10 M20 M33 M44
  have hres := aload_agg (a := ⟨b9, 0, none⟩) dA27 dS27 g46 rfl
  exact Con.qn (Ev.told_cell noNumP mixedP Tryd.func29 q29_ok (by kernel_rfl) rK29 (sK hS29_23) (fun _ _ => rfl) hraw hres (hk (q_eq (by rw [← eb3, ← em4]; kernel_rfl) Nat.one_ne_zero) (hk (q_eq (by rw [← eb11, ← em12]; kernel_rfl) Nat.one_ne_zero) (hk (lC dC3 g16 rfl) (hk (q_call rfl p21 l22 e23) (hk (lC dC3 g28 rfl) (hk (q_call rfl p34 l35 e36) (hk (q_st q45) hn)))))))) X48 (NodeAt.flat5 1 1 0 0) (by first | assumption | exact Small.mk (by simp) (by repeat' first | exact Small.n0 | assumption | refine Small.c ?_ ?_))
theorem w29_3_raw (k n : Int) (a : Option Addr) (c : Nat) (l : List DT) (M : Mem) (b1 : Nat) (M2 : Mem) (b9 : Nat) (M10 M20 M33 M44 : Mem) : oT Tryd.prog [] 60 Tryd.f29 q29 [(nd3 k n (.slice a l.length c))] M [ttV 1 (pt b1 0) M2, ttV 3 (pt b9 0) M10, ttL 7 (i64 k), ttV 9 (i64 2) M20, ttL 29 (i64 n), ttV 31 (i64 1) M33, ttS 39 M44] 2 = some (.ret, some (pt b9 0), M44, [.eq (abox Tryd.prog 54 (nd3 k n (.slice a l.length c)) M) (1, .val (pt b1 0), M2), .eq (aalloc Tryd.prog 27 M2) (1, .val (pt b9 0), M10), qL 3 b1 0 M10 (i64 k), qC 23 [i64 k, i64 14] M10 (i64 2) M20, qL 3 b1 1 M20 (i64 n), qC 23 [i64 n, i64 5] M20 (i64 1) M33, qS 27 b9 0 (nd5 1 2 0 0 sln) M33 M44]) := by kernel_rfl
theorem w29_3 (k n : Int) (a : Option Addr) (c : Nat) (l : List DT) {M : Mem} (hM : MemOk M) {rows : List (List Value)} (_ : IH29 l) (_ : RowsAt 3 M l rows) (_ : SlAt M (.slice a l.length c) l.length rows) (cc0 : modI k 14 = 2) (cc1 : modI n 5 = 1) : ∃ v M', Con Tryd.prog [] 29 (Qn 5) [(nd3 k n (.slice a l.length c))] M v M' := by
  obtain ⟨b1, M2, eb3, em4, g5, E6, hM7⟩ := new_t hM ⟨[i64 k, i64 n, (.slice a l.length c)], 54, 3, 0, true⟩
  have nb1 : M.next ≤ b1 := by rw [← eb3]; exact (Ext.refl M).next
  have X8 := (Ext.refl M).trans E6
  obtain ⟨b9, M10, eb11, em12, g13, E14, hM15⟩ := new_t hM7 ⟨[i64 0, i64 0, i64 0, i64 0, sln], 27, 5, 0, true⟩
  have nb9 := nb_of eb11 X8
  have db1b9 := ne_new g5 eb11
  have g16 := E14.old g5
  have X17 := X8.trans E14
  obtain ⟨w18, N19, M20, p21, l22, e23, E24, hM25, Q26, G27⟩ := call_t hM15 (con23 k 14 (by decide))
  have g28 := E24.old g16
  have g29 := E24.old g13
  have ew18 : w18 = i64 2 := by
    have h : i64 (modI k 14) = w18 := Option.some.inj Q26
    rw [← h, cc0]
  subst ew18
  have X30 := X17.trans E24
  obtain ⟨w31, N32, M33, p34, l35, e36, E37, hM38, Q39, G40⟩ := call_t hM25 (con23 n 5 (by decide))
  have g41 := E37.old g28
  have g42 := E37.old g29
  have ew31 : w31 = i64 1 := by
    have h : i64 (modI n 5) = w31 := Option.some.inj Q39
    rw [← h, cc1]
  subst ew31
  have X43 := X30.trans E37
  obtain ⟨M44, q45, g46, kp47, X48, hM49, nx50⟩ := store_t (o := 0) (v := (nd5 1 2 0 0 sln)) (new := [i64 1, i64 2, i64 0, i64 0, sln]) X43 nb9 hM38 dS27 g42 rfl rfl (Nat.zero_le _) (Nat.le_of_ble_eq_true rfl) rfl
  replace g46 : M44.get b9 = some ⟨[i64 1, i64 2, i64 0, i64 0, sln], 27, 5, 0, true⟩ := g46
  have g51 := (kp47 _ db1b9).trans g41
  have hraw := w29_3_raw k n a c l M b1 M2 b9 M10 M20 M33 M44
  have hres := aload_agg (a := ⟨b9, 0, none⟩) dA27 dS27 g46 rfl
  exact Con.qn (Ev.told_cell noNumP mixedP Tryd.func29 q29_ok (by kernel_rfl) rK29 (sK hS29_23) (fun _ _ => rfl) hraw hres (hk (q_eq (by rw [← eb3, ← em4]; kernel_rfl) Nat.one_ne_zero) (hk (q_eq (by rw [← eb11, ← em12]; kernel_rfl) Nat.one_ne_zero) (hk (lC dC3 g16 rfl) (hk (q_call rfl p21 l22 e23) (hk (lC dC3 g28 rfl) (hk (q_call rfl p34 l35 e36) (hk (q_st q45) hn)))))))) X48 (NodeAt.flat5 1 2 0 0) (by first | assumption | exact Small.mk (by simp) (by repeat' first | exact Small.n0 | assumption | refine Small.c ?_ ?_))
theorem w29_4_raw (k n : Int) (a : Option Addr) (c : Nat) (l : List DT) (M : Mem) (b1 : Nat) (M2 : Mem) (b9 : Nat) (M10 M20 M33 M44 : Mem) : oT Tryd.prog [] 60 Tryd.f29 q29 [(nd3 k n (.slice a l.length c))] M [ttV 1 (pt b1 0) M2, ttV 3 (pt b9 0) M10, ttL 7 (i64 k), ttV 9 (i64 2) M20, ttL 29 (i64 n), ttV 31 (i64 2) M33, ttS 39 M44] 2 = some (.ret, some (pt b9 0), M44, [.eq (abox Tryd.prog 54 (nd3 k n (.slice a l.length c)) M) (1, .val (pt b1 0), M2), .eq (aalloc Tryd.prog 27 M2) (1, .val (pt b9 0), M10), qL 3 b1 0 M10 (i64 k), qC 23 [i64 k, i64 14] M10 (i64 2) M20, qL 3 b1 1 M20 (i64 n), qC 23 [i64 n, i64 5] M20 (i64 2) M33, qS 27 b9 0 (nd5 1 4 0 0 sln) M33 M44]) := by kernel_rfl
theorem w29_4 (k n : Int) (a : Option Addr) (c : Nat) (l : List DT) {M : Mem} (hM : MemOk M) {rows : List (List Value)} (_ : IH29 l) (_ : RowsAt 3 M l rows) (_ : SlAt M (.slice a l.length c) l.length rows) (cc0 : modI k 14 = 2) (cc1 : modI n 5 = 2) : ∃ v M', Con Tryd.prog [] 29 (Qn 5) [(nd3 k n (.slice a l.length c))] M v M' := by
  obtain ⟨b1, M2, eb3, em4, g5, E6, hM7⟩ := new_t hM ⟨[i64 k, i64 n, (.slice a l.length c)], 54, 3, 0, true⟩
  have nb1 : M.next ≤ b1 := by rw [← eb3]; exact (Ext.refl M).next
  have X8 := (Ext.refl M).trans E6
  obtain ⟨b9, M10, eb11, em12, g13, E14, hM15⟩ := new_t hM7 ⟨[i64 0, i64 0, i64 0, i64 0, sln], 27, 5, 0, true⟩
  have nb9 := nb_of eb11 X8
  have db1b9 := ne_new g5 eb11
  have g16 := E14.old g5
  have X17 := X8.trans E14
  obtain ⟨w18, N19, M20, p21, l22, e23, E24, hM25, Q26, G27⟩ := call_t hM15 (con23 k 14 (by decide))
  have g28 := E24.old g16
  have g29 := E24.old g13
  have ew18 : w18 = i64 2 := by
    have h : i64 (modI k 14) = w18 := Option.some.inj Q26
    rw [← h, cc0]
  subst ew18
  have X30 := X17.trans E24
  obtain ⟨w31, N32, M33, p34, l35, e36, E37, hM38, Q39, G40⟩ := call_t hM25 (con23 n 5 (by decide))
  have g41 := E37.old g28
  have g42 := E37.old g29
  have ew31 : w31 = i64 2 := by
    have h : i64 (modI n 5) = w31 := Option.some.inj Q39
    rw [← h, cc1]
  subst ew31
  have X43 := X30.trans E37
  obtain ⟨M44, q45, g46, kp47, X48, hM49, nx50⟩ := store_t (o := 0) (v := (nd5 1 4 0 0 sln)) (new := [i64 1, i64 4, i64 0, i64 0, sln]) X43 nb9 hM38 dS27 g42 rfl rfl (Nat.zero_le _) (Nat.le_of_ble_eq_true rfl) rfl
  replace g46 : M44.get b9 = some ⟨[i64 1, i64 4, i64 0, i64 0, sln], 27, 5, 0, true⟩ := g46
  have g51 := (kp47 _ db1b9).trans g41
  have hraw := w29_4_raw k n a c l M b1 M2 b9 M10 M20 M33 M44
  have hres := aload_agg (a := ⟨b9, 0, none⟩) dA27 dS27 g46 rfl
  exact Con.qn (Ev.told_cell noNumP mixedP Tryd.func29 q29_ok (by kernel_rfl) rK29 (sK hS29_23) (fun _ _ => rfl) hraw hres (hk (q_eq (by rw [← eb3, ← em4]; kernel_rfl) Nat.one_ne_zero) (hk (q_eq (by rw [← eb11, ← em12]; kernel_rfl) Nat.one_ne_zero) (hk (lC dC3 g16 rfl) (hk (q_call rfl p21 l22 e23) (hk (lC dC3 g28 rfl) (hk (q_call rfl p34 l35 e36) (hk (q_st q45) hn)))))))) X48 (NodeAt.flat5 1 4 0 0) (by first | assumption | exact Small.mk (by simp) (by repeat' first | exact Small.n0 | assumption | refine Small.c ?_ ?_))
theorem w29_5_raw (k n : Int) (a : Option Addr) (c : Nat) (l : List DT) (M : Mem) (b1 : Nat) (M2 : Mem) (b9 : Nat) (M10 M20 M33 M44 : Mem) : oT Tryd.prog [] 60 Tryd.f29 q29 [(nd3 k n (.slice a l.length c))] M [ttV 1 (pt b1 0) M2, ttV 3 (pt b9 0) M10, ttL 7 (i64 k), ttV 9 (i64 2) M20, ttL 29 (i64 n), ttV 31 (i64 3) M33, ttS 39 M44] 2 = some (.ret, some (pt b9 0), M44, [.eq (abox Tryd.prog 54 (nd3 k n (.slice a l.length c)) M) (1, .val (pt b1 0), M2), .eq (aalloc Tryd.prog 27 M2) (1, .val (pt b9 0), M10), qL 3 b1 0 M10 (i64 k), qC 23 [i64 k, i64 14] M10 (i64 2) M20, qL 3 b1 1 M20 (i64 n), qC 23 [i64 n, i64 5] M20 (i64 3) M33, qS 27 b9 0 (nd5 1 8 0 0 sln) M33 M44]) := by kernel_rfl
theorem w29_5 (k n : Int) (a : Option Addr) (c : Nat) (l : List DT) {M : Mem} (hM : MemOk M) {rows : List (List Value)} (_ : IH29 l) (_ : RowsAt 3 M l rows) (_ : SlAt M (.slice a l.length c) l.length rows) (cc0 : modI k 14 = 2) (cc1 : modI n 5 = 3) : ∃ v M', Con Tryd.prog [] 29 (Qn 5) [(nd3 k n (.slice a l.length c))] M v M' := by
  obtain ⟨b1, M2, eb3, em4, g5, E6, hM7⟩ := new_t hM ⟨[i64 k, i64 n, (.slice a l.length c)], 54, 3, 0, true⟩
  have nb1 : M.next ≤ b1 := by rw [← eb3]; exact (Ext.refl M).next
  have X8 := (Ext.refl M).trans E6
  obtain ⟨b9, M10, eb11, em12, g13, E14, hM15⟩ := new_t hM7 ⟨[i64 0, i64 0, i64 0, i64 0, sln], 27, 5, 0, true⟩
  have nb9 := nb_of eb11 X8
  have db1b9 := ne_new g5 eb11
  have g16 := E14.old g5
  have X17 := X8.trans E14
  obtain ⟨w18, N19, M20, p21, l22, e23, E24, hM25, Q26, G27⟩ := call_t hM15 (con23 k 14 (by decide))
  have g28 := E24.old g16
  have g29 := E24.old g13
  have ew18 : w18 = i64 2 := by
    have h : i64 (modI k 14) = w18 := Option.some.inj Q26
    rw [← h, cc0]
  subst ew18
  have X30 := X17.trans E24
  obtain ⟨w31, N32, M33, p34, l35, e36, E37, hM38, Q39, G40⟩ := call_t hM25 (con23 n 5 (by decide))
  have g41 := E37.old g28
  have g42 := E37.old g29
  have ew31 : w31 = i64 3 := by
    have h : i64 (modI n 5) = w31 := Option.some.inj Q39
    rw [← h, cc1]
  subst ew31
  have X43 := X30.trans E37
  obtain ⟨M44, q45, g46, kp47, X48, hM49, nx50⟩ := store_t (o := 0) (v := (nd5 1 8 0 0 sln)) (new := [i64 1, i64 8, i64 0, i64 0, sln]) X43 nb9 hM38 dS27 g42 rfl rfl (Nat.zero_le _) (Nat.le_of_ble_eq_true rfl) rfl
  replace g46 : M44.get b9 = some ⟨[i64 1, i64 8, i64 0, i64 0, sln], 27, 5, 0, true⟩ := g46
  have g51 := (kp47 _ db1b9).trans g41
  have hraw := w29_5_raw k n a c l M b1 M2 b9 M10 M20 M33 M44
  have hres := aload_agg (a := ⟨b9, 0, none⟩) dA27 dS27 g46 rfl
  exact Con.qn (Ev.told_cell noNumP mixedP Tryd.func29 q29_ok (by kernel_rfl) rK29 (sK hS29_23) (fun _ _ => rfl) hraw hres (hk (q_eq (by rw [← eb3, ← em4]; kernel_rfl) Nat.one_ne_zero) (hk (q_eq (by rw [← eb11, ← em12]; kernel_rfl) Nat.one_ne_zero) (hk (lC dC3 g16 rfl) (hk (q_call rfl p21 l22 e23) (hk (lC dC3 g28 rfl) (hk (q_call rfl p34 l35 e36) (hk (q_st q45) hn)))))))) X48 (NodeAt.flat5 1 8 0 0) (by first | assumption | exact Small.mk (by simp) (by repeat' first | exact Small.n0 | assumption | refine Small.c ?_ ?_))
theorem w29_6_raw (k n : Int) (a : Option Addr) (c : Nat) (l : List DT) (M : Mem) (b1 : Nat) (M2 : Mem) (b9 : Nat) (M10 M20 M33 M44 : Mem) : oT Tryd.prog [] 60 Tryd.f29 q29 [(nd3 k n (.slice a l.length c))] M [ttV 1 (pt b1 0) M2, ttV 3 (pt b9 0) M10, ttL 7 (i64 k), ttV 9 (i64 2) M20, ttL 29 (i64 n), ttV 31 (i64 4) M33, ttS 39 M44] 2 = some (.ret, some (pt b9 0), M44, [.eq (abox Tryd.prog 54 (nd3 k n (.slice a l.length c)) M) (1, .val (pt b1 0), M2), .eq (aalloc Tryd.prog 27 M2) (1, .val (pt b9 0), M10), qL 3 b1 0 M10 (i64 k), qC 23 [i64 k, i64 14] M10 (i64 2) M20, qL 3 b1 1 M20 (i64 n), qC 23 [i64 n, i64 5] M20 (i64 4) M33, qS 27 b9 0 (nd5 1 16 0 0 sln) M33 M44]) := by kernel_rfl
theorem w29_6 (k n : Int) (a : Option Addr) (c : Nat) (l : List DT) {M : Mem} (hM : MemOk M) {rows : List (List Value)} (_ : IH29 l) (_ : RowsAt 3 M l rows) (_ : SlAt M (.slice a l.length c) l.length rows) (cc0 : modI k 14 = 2) (cc1 : modI n 5 = 4) : ∃ v M', Con Tryd.prog [] 29 (Qn 5) [(nd3 k n (.slice a l.length c))] M v M' := by
  obtain ⟨b1, M2, eb3, em4, g5, E6, hM7⟩ := new_t hM ⟨[i64 k, i64 n, (.slice a l.length c)], 54, 3, 0, true⟩
  have nb1 : M.next ≤ b1 := by rw [← eb3]; exact (Ext.refl M).next
  have X8 := (Ext.refl M).trans E6
  obtain ⟨b9, M10, eb11, em12, g13, E14, hM15⟩ := new_t hM7 ⟨[i64 0, i64 0, i64 0, i64 0, sln], 27, 5, 0, true⟩
  have nb9 := nb_of eb11 X8
  have db1b9 := ne_new g5 eb11
  have g16 := E14.old g5
  have X17 := X8.trans E14
  obtain ⟨w18, N19, M20, p21, l22, e23, E24, hM25, Q26, G27⟩ := call_t hM15 (con23 k 14 (by decide))
  have g28 := E24.old g16
  have g29 := E24.old g13
  have ew18 : w18 = i64 2 := by
    have h : i64 (modI k 14) = w18 := Option.some.inj Q26
    rw [← h, cc0]
  subst ew18
  have X30 := X17.trans E24
  obtain ⟨w31, N32, M33, p34, l35, e36, E37, hM38, Q39, G40⟩ := call_t hM25 (con23 n 5 (by decide))
  have g41 := E37.old g28
  have g42 := E37.old g29
  have ew31 : w31 = i64 4 := by
    have h : i64 (modI n 5) = w31 := Option.some.inj Q39
    rw [← h, cc1]
  subst ew31
  have X43 := X30.trans E37
  obtain ⟨M44, q45, g46, kp47, X48, hM49, nx50⟩ := store_t (o := 0) (v := (nd5 1 16 0 0 sln)) (new := [i64 1, i64 16, i64 0, i64 0, sln]) X43 nb9 hM38 dS27 g42 rfl rfl (Nat.zero_le _) (Nat.le_of_ble_eq_true rfl) rfl
  replace g46 : M44.get b9 = some ⟨[i64 1, i64 16, i64 0, i64 0, sln], 27, 5, 0, true⟩ := g46
  have g51 := (kp47 _ db1b9).trans g41
  have hraw := w29_6_raw k n a c l M b1 M2 b9 M10 M20 M33 M44
  have hres := aload_agg (a := ⟨b9, 0, none⟩) dA27 dS27 g46 rfl
  exact Con.qn (Ev.told_cell noNumP mixedP Tryd.func29 q29_ok (by kernel_rfl) rK29 (sK hS29_23) (fun _ _ => rfl) hraw hres (hk (q_eq (by rw [← eb3, ← em4]; kernel_rfl) Nat.one_ne_zero) (hk (q_eq (by rw [← eb11, ← em12]; kernel_rfl) Nat.one_ne_zero) (hk (lC dC3 g16 rfl) (hk (q_call rfl p21 l22 e23) (hk (lC dC3 g28 rfl) (hk (q_call rfl p34 l35 e36) (hk (q_st q45) hn)))))))) X48 (NodeAt.flat5 1 16 0 0) (by first | assumption | exact Small.mk (by simp) (by repeat' first | exact Small.n0 | assumption | refine Small.c ?_ ?_))
theorem w29_7_raw (k n : Int) (a : Option Addr) (c : Nat) (l : List DT) (M : Mem) (b1 : Nat) (M2 : Mem) (b9 : Nat) (M10 M20 M33 M44 : Mem) : oT Tryd.prog [] 60 Tryd.f29 q29 [(nd3 k n (.slice a l.length c))] M [ttV 1 (pt b1 0) M2, ttV 3 (pt b9 0) M10, ttL 7 (i64 k), ttV 9 (i64 3) M20, ttL 33 (i64 n), ttV 35 (i64 0) M33, ttS 43 M44] 2 = some (.ret, some (pt b9 0), M44, [.eq (abox Tryd.prog 54 (nd3 k n (.slice a l.length c)) M) (1, .val (pt b1 0), M2), .eq (aalloc Tryd.prog 27 M2) (1, .val (pt b9 0), M10), qL 3 b1 0 M10 (i64 k), qC 23 [i64 k, i64 14] M10 (i64 3) M20, qL 3 b1 1 M20 (i64 n), qC 23 [i64 n, i64 5] M20 (i64 0) M33, qS 27 b9 0 (nd5 1 1 0 0 sln) M33 M44]) := by kernel_rfl
theorem w29_7 (k n : Int) (a : Option Addr) (c : Nat) (l : List DT) {M : Mem} (hM : MemOk M) {rows : List (List Value)} (_ : IH29 l) (_ : RowsAt 3 M l rows) (_ : SlAt M (.slice a l.length c) l.length rows) (cc0 : modI k 14 = 3) (cc1 : modI n 5 = 0) : ∃ v M', Con Tryd.prog [] 29 (Qn 5) [(nd3 k n (.slice a l.length c))] M v M' := by
  obtain ⟨b1, M2, eb3, em4, g5, E6, hM7⟩ := new_t hM ⟨[i64 k, i64 n, (.slice a l.length c)], 54, 3, 0, true⟩
  have nb1 : M.next ≤ b1 := by rw [← eb3]; exact (Ext.refl M).next
  have X8 := (Ext.refl M).trans E6
  obtain ⟨b9, M10, eb11, em12, g13, E14, hM15⟩ := new_t hM7 ⟨[i64 0, i64 0, i64 0, i64 0, sln], 27, 5, 0, true⟩
  have nb9 := nb_of eb11 X8
  have db1b9 := ne_new g5 eb11
  have g16 := E14.old g5
  have X17 := X8.trans E14
  obtain ⟨w18, N19, M20, p21, l22, e23, E24, hM25, Q26, G27⟩ := call_t hM15 (con23 k 14 (by decide))
  have g28 := E24.old g16
  have g29 := E24.old g13
  have ew18 : w18 = i64 3 := by
    have h : i64 (modI k 14) = w18 := Option.some.inj Q26
    rw [← h, cc0]
  subst ew18
  have X30 := X17.trans E24
  obtain ⟨w31, N32, M33, p34, l35, e36, E37, hM38, Q39, G40⟩ := call_t hM25 (con23 n 5 (by decide))
  have g41 := E37.old g28
  have g42 := E37.old g29
  have ew31 : w31 = i64 0 := by
    have h : i64 (modI n 5) = w31 := Option.some.inj Q39
    rw [← h, cc1]
  subst ew31
  have X43 := X30.trans E37
  obtain ⟨M44, q45, g46, kp47, X48, hM49, nx50⟩ := store_t (o := 0) (v := (nd5 1 1 0 0 sln)) (new := [i64 1, i64 1, i64 0, i64 0, sln]) X43 nb9 hM38 dS27 g42 rfl rfl (Nat.zero_le _) (Nat.le_of_ble_eq_true rfl) rfl
  replace g46 : M44.get b9 = some ⟨[i64 1, i64 1, i64 0, i64 0, sln], 27, 5, 0, true⟩ := g46
  have g51 := (kp47 _ db1b9).trans g41
  have hraw := w29_7_raw k n a c l M b1 M2 b9 M10 M20 M33 M44
  have hres := aload_agg (a := ⟨b9, 0, none⟩) dA27 dS27 g46 rfl
  exact Con.qn (Ev.told_cell noNumP mixedP Tryd.func29 q29_ok (by kernel_rfl) rK29 (sK hS29_23) (fun _ _ => rfl) hraw hres (hk (q_eq (by rw [← eb3, ← em4]; kernel_rfl) Nat.one_ne_zero) (hk (q_eq (by rw [← eb11, ← em12]; kernel_rfl) Nat.one_ne_zero) (hk (lC dC3 g16 rfl) (hk (q_call rfl p21 l22 e23) (hk (lC dC3 g28 rfl) (hk (q_call rfl p34 l35 e36) (hk (q_st q45) hn)))))))) X48 (NodeAt.flat5 1 1 0 0) (by first | assumption | exact Small.mk (by simp) (by repeat' first | exact Small.n0 | assumption | refine Small.c ?_ ?_))
theorem w29_8_raw (k n : Int) (a : Option Addr) (c : Nat) (l : List DT) (M : Mem) (b1 : Nat) (M2 : Mem) (b9 : Nat) (M10 M20 M33 M44 : Mem) : oT Tryd.prog [] 60 Tryd.f29 q29 [(nd3 k n (.slice a l.length c))] M [ttV 1 (pt b1 0) M2, ttV 3 (pt b9 0) M10, ttL 7 (i64 k), ttV 9 (i64 3) M20, ttL 33 (i64 n), ttV 35 (i64 1) M33, ttS 43 M44] 2 = some (.ret, some (pt b9 0), M44, [.eq (abox Tryd.prog 54 (nd3 k n (.slice a l.length c)) M) (1, .val (pt b1 0), M2), .eq (aalloc Tryd.prog 27 M2) (1, .val (pt b9 0), M10), qL 3 b1 0 M10 (i64 k), qC 23 [i64 k, i64 14] M10 (i64 3) M20, qL 3 b1 1 M20 (i64 n), qC 23 [i64 n, i64 5] M20 (i64 1) M33, qS 27 b9 0 (nd5 1 2 0 0 sln) M33 M44]) := by kernel_rfl
theorem w29_8 (k n : Int) (a : Option Addr) (c : Nat) (l : List DT) {M : Mem} (hM : MemOk M) {rows : List (List Value)} (_ : IH29 l) (_ : RowsAt 3 M l rows) (_ : SlAt M (.slice a l.length c) l.length rows) (cc0 : modI k 14 = 3) (cc1 : modI n 5 = 1) : ∃ v M', Con Tryd.prog [] 29 (Qn 5) [(nd3 k n (.slice a l.length c))] M v M' := by
  obtain ⟨b1, M2, eb3, em4, g5, E6, hM7⟩ := new_t hM ⟨[i64 k, i64 n, (.slice a l.length c)], 54, 3, 0, true⟩
  have nb1 : M.next ≤ b1 := by rw [← eb3]; exact (Ext.refl M).next
  have X8 := (Ext.refl M).trans E6
  obtain ⟨b9, M10, eb11, em12, g13, E14, hM15⟩ := new_t hM7 ⟨[i64 0, i64 0, i64 0, i64 0, sln], 27, 5, 0, true⟩
  have nb9 := nb_of eb11 X8
  have db1b9 := ne_new g5 eb11
  have g16 := E14.old g5
  have X17 := X8.trans E14
  obtain ⟨w18, N19, M20, p21, l22, e23, E24, hM25, Q26, G27⟩ := call_t hM15 (con23 k 14 (by decide))
  have g28 := E24.old g16
  have g29 := E24.old g13
  have ew18 : w18 = i64 3 := by
    have h : i64 (modI k 14) = w18 := Option.some.inj Q26
    rw [← h, cc0]
  subst ew18
  have X30 := X17.trans E24
  obtain ⟨w31, N32, M33, p34, l35, e36, E37, hM38, Q39, G40⟩ := call_t hM25 (con23 n 5 (by decide))
  have g41 := E37.old g28
  have g42 := E37.old g29
  have ew31 : w31 = i64 1 := by
    have h : i64 (modI n 5) = w31 := Option.some.inj Q39
    rw [← h, cc1]
  subst ew31
  have X43 := X30.trans E37
  obtain ⟨M44, q45, g46, kp47, X48, hM49, nx50⟩ := store_t (o := 0) (v := (nd5 1 2 0 0 sln)) (new := [i64 1, i64 2, i64 0, i64 0, sln]) X43 nb9 hM38 dS27 g42 rfl rfl (Nat.zero_le _) (Nat.le_of_ble_eq_true rfl) rfl
  replace g46 : M44.get b9 = some ⟨[i64 1, i64 2, i64 0, i64 0, sln], 27, 5, 0, true⟩ := g46
  have g51 := (kp47 _ db1b9).trans g41
  have hraw := w29_8_raw k n a c l M b1 M2 b9 M10 M20 M33 M44
  have hres := aload_agg (a := ⟨b9, 0, none⟩) dA27 dS27 g46 rfl
  exact Con.qn (Ev.told_cell noNumP mixedP Tryd.func29 q29_ok (by kernel_rfl) rK29 (sK hS29_23) (fun _ _ => rfl) hraw hres (hk (q_eq (by rw [← eb3, ← em4]; kernel_rfl) Nat.one_ne_zero) (hk (q_eq (by rw [← eb11, ← em12]; kernel_rfl) Nat.one_ne_zero) (hk (lC dC3 g16 rfl) (hk (q_call rfl p21 l22 e23) (hk (lC dC3 g28 rfl) (hk (q_call rfl p34 l35 e36) (hk (q_st q45) hn)))))))) X48 (NodeAt.flat5 1 2 0 0) (by first | assumption | exact Small.mk (by simp) (by repeat' first | exact Small.n0 | assumption | refine Small.c ?_ ?_))
theorem w29_9_raw (k n : Int) (a : Option Addr) (c : Nat) (l : List DT) (M : Mem) (b1 : Nat) (M2 : Mem) (b9 : Nat) (M10 M20 M33 M44 : Mem) : oT Tryd.prog [] 60 Tryd.f29 q29 [(nd3 k n (.slice a l.length c))] M [ttV 1 (pt b1 0) M2, ttV 3 (pt b9 0) M10, ttL 7 (i64 k), ttV 9 (i64 3) M20, ttL 33 (i64 n), ttV 35 (i64 2) M33, ttS 43 M44] 2 = some (.ret, some (pt b9 0), M44, [.eq (abox Tryd.prog 54 (nd3 k n (.slice a l.length c)) M) (1, .val (pt b1 0), M2), .eq (aalloc Tryd.prog 27 M2) (1, .val (pt b9 0), M10), qL 3 b1 0 M10 (i64 k), qC 23 [i64 k, i64 14] M10 (i64 3) M20, qL 3 b1 1 M20 (i64 n), qC 23 [i64 n, i64 5] M20 (i64 2) M33, qS 27 b9 0 (nd5 1 4 0 0 sln) M33 M44]) := by kernel_rfl
theorem w29_9 (k n : Int) (a : Option Addr) (c : Nat) (l : List DT) {M : Mem} (hM : MemOk M) {rows : List (List Value)} (_ : IH29 l) (_ : RowsAt 3 M l rows) (_ : SlAt M (.slice a l.length c) l.length rows) (cc0 : modI k 14 = 3) (cc1 : modI n 5 = 2) : ∃ v M', Con Tryd.prog [] 29 (Qn 5) [(nd3 k n (.slice a l.length c))] M v M' := by
  obtain ⟨b1, M2, eb3, em4, g5, E6, hM7⟩ := new_t hM ⟨[i64 k, i64 n, (.slice a l.length c)], 54, 3, 0, true⟩
  have nb1 : M.next ≤ b1 := by rw [← eb3]; exact (Ext.refl M).next
  have X8 := (Ext.refl M).trans E6
  obtain ⟨b9, M10, eb11, em12, g13, E14, hM15⟩ := new_t hM7 ⟨[i64 0, i64 0, i64 0, i64 0, sln], 27, 5, 0, true⟩
  have nb9 := nb_of eb11 X8
  have db1b9 := ne_new g5 eb11
  have g16 := E14.old g5
  have X17 := X8.trans E14
  obtain ⟨w18, N19, M20, p21, l22, e23, E24, hM25, Q26, G27⟩ := call_t hM15 (con23 k 14 (by decide))
  have g28 := E24.old g16
  have g29 := E24.old g13
  have ew18 : w18 = i64 3 := by
    have h : i64 (modI k 14) = w18 := Option.some.inj Q26
    rw [← h, cc0]
  subst ew18
  have X30 := X17.trans E24
  obtain ⟨w31, N32, M33, p34, l35, e36, E37, hM38, Q39, G40⟩ := call_t hM25 (con23 n 5 (by decide))
  have g41 := E37.old g28
  have g42 := E37.old g29
  have ew31 : w31 = i64 2 := by
    have h : i64 (modI n 5) = w31 := Option.some.inj Q39
    rw [← h, cc1]
  subst ew31
  have X43 := X30.trans E37
  obtain ⟨M44, q45, g46, kp47, X48, hM49, nx50⟩ := store_t (o := 0) (v := (nd5 1 4 0 0 sln)) (new := [i64 1, i64 4, i64 0, i64 0, sln]) X43 nb9 hM38 dS27 g42 rfl rfl (Nat.zero_le _) (Nat.le_of_ble_eq_true rfl) rfl
  replace g46 : M44.get b9 = some ⟨[i64 1, i64 4, i64 0, i64 0, sln], 27, 5, 0, true⟩ := g46
  have g51 := (kp47 _ db1b9).trans g41
  have hraw := w29_9_raw k n a c l M b1 M2 b9 M10 M20 M33 M44
  have hres := aload_agg (a := ⟨b9, 0, none⟩) dA27 dS27 g46 rfl
  exact Con.qn (Ev.told_cell noNumP mixedP Tryd.func29 q29_ok (by kernel_rfl) rK29 (sK hS29_23) (fun _ _ => rfl) hraw hres (hk (q_eq (by rw [← eb3, ← em4]; kernel_rfl) Nat.one_ne_zero) (hk (q_eq (by rw [← eb11, ← em12]; kernel_rfl) Nat.one_ne_zero) (hk (lC dC3 g16 rfl) (hk (q_call rfl p21 l22 e23) (hk (lC dC3 g28 rfl) (hk (q_call rfl p34 l35 e36) (hk (q_st q45) hn)))))))) X48 (NodeAt.flat5 1 4 0 0) (by first | assumption | exact Small.mk (by simp) (by repeat' first | exact Small.n0 | assumption | refine Small.c ?_ ?_))
theorem w29_10_raw (k n : Int) (a : Option Addr) (c : Nat) (l : List DT) (M : Mem) (b1 : Nat) (M2 : Mem) (b9 : Nat) (M10 M20 M33 M44 : Mem) : oT Tryd.prog [] 60 Tryd.f29 q29 [(nd3 k n (.slice a l.length c))] M [ttV 1 (pt b1 0) M2, ttV 3 (pt b9 0) M10, ttL 7 (i64 k), ttV 9 (i64 3) M20, ttL 33 (i64 n), ttV 35 (i64 3) M33, ttS 43 M44] 2 = some (.ret, some (pt b9 0), M44, [.eq (abox Tryd.prog 54 (nd3 k n (.slice a l.length c)) M) (1, .val (pt b1 0), M2), .eq (aalloc Tryd.prog 27 M2) (1, .val (pt b9 0), M10), qL 3 b1 0 M10 (i64 k), qC 23 [i64 k, i64 14] M10 (i64 3) M20, qL 3 b1 1 M20 (i64 n), qC 23 [i64 n, i64 5] M20 (i64 3) M33, qS 27 b9 0 (nd5 1 8 0 0 sln) M33 M44]) := by kernel_rfl
theorem w29_10 (k n : Int) (a : Option Addr) (c : Nat) (l : List DT) {M : Mem} (hM : MemOk M) {rows : List (List Value)} (_ : IH29 l) (_ : RowsAt 3 M l rows) (_ : SlAt M (.slice a l.length c) l.length rows) (cc0 : modI k 14 = 3) (cc1 : modI n 5 = 3) : ∃ v M', Con Tryd.prog [] 29 (Qn 5) [(nd3 k n (.slice a l.length c))] M v M' := by
  obtain ⟨b1, M2, eb3, em4, g5, E6, hM7⟩ := new_t hM ⟨[i64 k, i64 n, (.slice a l.length c)], 54, 3, 0, true⟩
  have nb1 : M.next ≤ b1 := by rw [← eb3]; exact (Ext.refl M).next
  have X8 := (Ext.refl M).trans E6
  obtain ⟨b9, M10, eb11, em12, g13, E14, hM15⟩ := new_t hM7 ⟨[i64 0, i64 0, i64 0, i64 0, sln], 27, 5, 0, true⟩
  have nb9 := nb_of eb11 X8
  have db1b9 := ne_new g5 eb11
  have g16 := E14.old g5
  have X17 := X8.trans E14
  obtain ⟨w18, N19, M20, p21, l22, e23, E24, hM25, Q26, G27⟩ := call_t hM15 (con23 k 14 (by decide))
  have g28 := E24.old g16
  have g29 := E24.old g13
  have ew18 : w18 = i64 3 := by
    have h : i64 (modI k 14) = w18 := Option.some.inj Q26
    rw [← h, cc0]
  subst ew18
  have X30 := X17.trans E24
  obtain ⟨w31, N32, M33, p34, l35, e36, E37, hM38, Q39, G40⟩ := call_t hM25 (con23 n 5 (by decide))
  have g41 := E37.old g28
  have g42 := E37.old g29
  have ew31 : w31 = i64 3 := by
    have h : i64 (modI n 5) = w31 := Option.some.inj Q39
    rw [← h, cc1]
  subst ew31
  have X43 := X30.trans E37
  obtain ⟨M44, q45, g46, kp47, X48, hM49, nx50⟩ := store_t (o := 0) (v := (nd5 1 8 0 0 sln)) (new := [i64 1, i64 8, i64 0, i64 0, sln]) X43 nb9 hM38 dS27 g42 rfl rfl (Nat.zero_le _) (Nat.le_of_ble_eq_true rfl) rfl
  replace g46 : M44.get b9 = some ⟨[i64 1, i64 8, i64 0, i64 0, sln], 27, 5, 0, true⟩ := g46
  have g51 := (kp47 _ db1b9).trans g41
  have hraw := w29_10_raw k n a c l M b1 M2 b9 M10 M20 M33 M44
  have hres := aload_agg (a := ⟨b9, 0, none⟩) dA27 dS27 g46 rfl
  exact Con.qn (Ev.told_cell noNumP mixedP Tryd.func29 q29_ok (by kernel_rfl) rK29 (sK hS29_23) (fun _ _ => rfl) hraw hres (hk (q_eq (by rw [← eb3, ← em4]; kernel_rfl) Nat.one_ne_zero) (hk (q_eq (by rw [← eb11, ← em12]; kernel_rfl) Nat.one_ne_zero) (hk (lC dC3 g16 rfl) (hk (q_call rfl p21 l22 e23) (hk (lC dC3 g28 rfl) (hk (q_call rfl p34 l35 e36) (hk (q_st q45) hn)))))))) X48 (NodeAt.flat5 1 8 0 0) (by first | assumption | exact Small.mk (by simp) (by repeat' first | exact Small.n0 | assumption | refine Small.c ?_ ?_))
theorem w29_11_raw (k n : Int) (a : Option Addr) (c : Nat) (l : List DT) (M : Mem) (b1 : Nat) (M2 : Mem) (b9 : Nat) (M10 M20 M33 M44 : Mem) : oT Tryd.prog [] 60 Tryd.f29 q29 [(nd3 k n (.slice a l.length c))] M [ttV 1 (pt b1 0) M2, ttV 3 (pt b9 0) M10, ttL 7 (i64 k), ttV 9 (i64 3) M20, ttL 33 (i64 n), ttV 35 (i64 4) M33, ttS 43 M44] 2 = some (.ret, some (pt b9 0), M44, [.eq (abox Tryd.prog 54 (nd3 k n (.slice a l.length c)) M) (1, .val (pt b1 0), M2), .eq (aalloc Tryd.prog 27 M2) (1, .val (pt b9 0), M10), qL 3 b1 0 M10 (i64 k), qC 23 [i64 k, i64 14] M10 (i64 3) M20, qL 3 b1 1 M20 (i64 n), qC 23 [i64 n, i64 5] M20 (i64 4) M33, qS 27 b9 0 (nd5 1 16 0 0 sln) M33 M44]) := by kernel_rfl
theorem w29_11 (k n : Int) (a : Option Addr) (c : Nat) (l : List DT) {M : Mem} (hM : MemOk M) {rows : List (List Value)} (_ : IH29 l) (_ : RowsAt 3 M l rows) (_ : SlAt M (.slice a l.length c) l.length rows) (cc0 : modI k 14 = 3) (cc1 : modI n 5 = 4) : ∃ v M', Con Tryd.prog [] 29 (Qn 5) [(nd3 k n (.slice a l.length c))] M v M' := by
  obtain ⟨b1, M2, eb3, em4, g5, E6, hM7⟩ := new_t hM ⟨[i64 k, i64 n, (.slice a l.length c)], 54, 3, 0, true⟩
  have nb1 : M.next ≤ b1 := by rw [← eb3]; exact (Ext.refl M).next
  have X8 := (Ext.refl M).trans E6
  obtain ⟨b9, M10, eb11, em12, g13, E14, hM15⟩ := new_t hM7 ⟨[i64 0, i64 0, i64 0, i64 0, sln], 27, 5, 0, true⟩
  have nb9 := nb_of eb11 X8
  have db1b9 := ne_new g5 eb11
  have g16 := E14.old g5
  have X17 := X8.trans E14
  obtain ⟨w18, N19, M20, p21, l22, e23, E24, hM25, Q26, G27⟩ := call_t hM15 (con23 k 14 (by decide))
  have g28 := E24.old g16
  have g29 := E24.old g13
  have ew18 : w18 = i64 3 := by
    have h : i64 (modI k 14) = w18 := Option.some.inj Q26
    rw [← h, cc0]
  subst ew18
  have X30 := X17.trans E24
  obtain ⟨w31, N32, M33, p34, l35, e36, E37, hM38, Q39, G40⟩ := call_t hM25 (con23 n 5 (by decide))
  have g41 := E37.old g28
  have g42 := E37.old g29
  have ew31 : w31 = i64 4 := by
    have h : i64 (modI n 5) = w31 := Option.some.inj Q39
    rw [← h, cc1]
  subst ew31
  have X43 := X30.trans E37
  obtain ⟨M44, q45, g46, kp47, X48, hM49, nx50⟩ := store_t (o := 0) (v := (nd5 1 16 0 0 sln)) (new := [i64 1, i64 16, i64 0, i64 0, sln]) X43 nb9 hM38 dS27 g42 rfl rfl (Nat.zero_le _) (Nat.le_of_ble_eq_true rfl) rfl
  replace g46 : M44.get b9 = some ⟨[i64 1, i64 16, i64 0, i64 0, sln], 27, 5, 0, true⟩ := g46
  have g51 := (kp47 _ db1b9).trans g41
  have hraw := w29_11_raw k n a c l M b1 M2 b9 M10 M20 M33 M44
  have hres := aload_agg (a := ⟨b9, 0, none⟩) dA27 dS27 g46 rfl
  exact Con.qn (Ev.told_cell noNumP mixedP Tryd.func29 q29_ok (by kernel_rfl) rK29 (sK hS29_23) (fun _ _ => rfl) hraw hres (hk (q_eq (by rw [← eb3, ← em4]; kernel_rfl) Nat.one_ne_zero) (hk (q_eq (by rw [← eb11, ← em12]; kernel_rfl) Nat.one_ne_zero) (hk (lC dC3 g16 rfl) (hk (q_call rfl p21 l22 e23) (hk (lC dC3 g28 rfl) (hk (q_call rfl p34 l35 e36) (hk (q_st q45) hn)))))))) X48 (NodeAt.flat5 1 16 0 0) (by first | assumption | exact Small.mk (by simp) (by repeat' first | exact Small.n0 | assumption | refine Small.c ?_ ?_))
theorem w29_12_raw (k n : Int) (a : Option Addr) (c : Nat) (l : List DT) (M : Mem) (b1 : Nat) (M2 : Mem) (b9 : Nat) (M10 M20 : Mem) (b31 : Nat) (M32 M43 M55 : Mem) : oT Tryd.prog [] 60 Tryd.f29 q29 [(nd3 k n (.slice a l.length c))] M [ttV 1 (pt b1 0) M2, ttV 3 (pt b9 0) M10, ttL 7 (i64 k), ttV 9 (i64 4) M20, ttV 36 (sli b31 0 3 4) M32, ttL 40 (i64 n), ttV 42 (i64 0) M43, ttL 46 (i64 2), ttS 50 M55] 2 = some (.ret, some (pt b9 0), M55, [.eq (abox Tryd.prog 54 (nd3 k n (.slice a l.length c)) M) (1, .val (pt b1 0), M2), .eq (aalloc Tryd.prog 27 M2) (1, .val (pt b9 0), M10), qL 3 b1 0 M10 (i64 k), qC 23 [i64 k, i64 14] M10 (i64 4) M20, .eq (abuildSlice Tryd.prog 36 3 [(0, (i64 2)), (1, (i64 3)), (2, (i64 3))] M20) (1, .val (sli b31 0 3 4), M32), qL 3 b1 1 M32 (i64 n), qC 23 [i64 n, i64 3] M32 (i64 0) M43, qL 3 b31 0 M43 (i64 2), qS 27 b9 0 (nd5 2 0 0 0 sln) M43 M55]) := by kernel_rfl
theorem w29_12 (k n : Int) (a : Option Addr) (c : Nat) (l : List DT) {M : Mem} (hM : MemOk M) {rows : List (List Value)} (_ : IH29 l) (_ : RowsAt 3 M l rows) (_ : SlAt M (.slice a l.length c) l.length rows) (cc0 : modI k 14 = 4) (cc1 : modI n 3 = 0) : ∃ v M', Con Tryd.prog [] 29 (Qn 5) [(nd3 k n (.slice a l.length c))] M v M' := by
  obtain ⟨b1, M2, eb3, em4, g5, E6, hM7⟩ := new_t hM ⟨[i64 k, i64 n, (.slice a l.length c)], 54, 3, 0, true⟩
  have nb1 : M.next ≤ b1 := by rw [← eb3]; exact (Ext.refl M).next
  have X8 := (Ext.refl M).trans E6
  obtain ⟨b9, M10, eb11, em12, g13, E14, hM15⟩ := new_t hM7 ⟨[i64 0, i64 0, i64 0, i64 0, sln], 27, 5, 0, true⟩
  have nb9 := nb_of eb11 X8
  have db1b9 := ne_new g5 eb11
  have g16 := E14.old g5
  have X17 := X8.trans E14
  obtain ⟨w18, N19, M20, p21, l22, e23, E24, hM25, Q26, G27⟩ := call_t hM15 (con23 k 14 (by decide))
  have g28 := E24.old g16
  have g29 := E24.old g13
  have ew18 : w18 = i64 4 := by
    have h : i64 (modI k 14) = w18 := Option.some.inj Q26
    rw [← h, cc0]
  subst ew18
  have X30 := X17.trans E24
  obtain ⟨b31, M32, eb33, em34, g35, E36, hM37⟩ := new_t hM25 ⟨[i64 2, i64 3, i64 3], 3, 1, 0, true⟩
  have nb31 := nb_of eb33 X30
  have db1b31 := ne_new g28 eb33
  have db9b31 := ne_new g29 eb33
  have g38 := E36.old g28
  have g39 := E36.old g29
  have X40 := X30.trans E36
  obtain ⟨w41, N42, M43, p44, l45, e46, E47, hM48, Q49, G50⟩ := call_t hM37 (con23 n 3 (by decide))
  have g51 := E47.old g38
  have g52 := E47.old g39
  have g53 := E47.old g35
  have ew41 : w41 = i64 0 := by
    have h : i64 (modI n 3) = w41 := Option.some.inj Q49
    rw [← h, cc1]
  subst ew41
  have X54 := X40.trans E47
  obtain ⟨M55, q56, g57, kp58, X59, hM60, nx61⟩ := store_t (o := 0) (v := (nd5 2 0 0 0 sln)) (new := [i64 2, i64 0, i64 0, i64 0, sln]) X54 nb9 hM48 dS27 g52 rfl rfl (Nat.zero_le _) (Nat.le_of_ble_eq_true rfl) rfl
  replace g57 : M55.get b9 = some ⟨[i64 2, i64 0, i64 0, i64 0, sln], 27, 5, 0, true⟩ := g57
  have g62 := (kp58 _ db1b9).trans g51
  have g63 := (kp58 _ (Ne.symm db9b31)).trans g53
  have hraw := w29_12_raw k n a c l M b1 M2 b9 M10 M20 b31 M32 M43 M55
  have hres := aload_agg (a := ⟨b9, 0, none⟩) dA27 dS27 g57 rfl
  exact Con.qn (Ev.told_cell noNumP mixedP Tryd.func29 q29_ok (by kernel_rfl) rK29 (sK hS29_23) (fun _ _ => rfl) hraw hres (hk (q_eq (by rw [← eb3, ← em4]; kernel_rfl) Nat.one_ne_zero) (hk (q_eq (by rw [← eb11, ← em12]; kernel_rfl) Nat.one_ne_zero) (hk (lC dC3 g16 rfl) (hk (q_call rfl p21 l22 e23) (hk (q_eq (by rw [← eb33, ← em34]; kernel_rfl) Nat.one_ne_zero) (hk (lC dC3 g38 rfl) (hk (q_call rfl p44 l45 e46) (hk (lC dC3 g53 rfl) (hk (q_st q56) hn)))))))))) X59 (NodeAt.flat5 2 0 0 0) (by first | assumption | exact Small.mk (by simp) (by repeat' first | exact Small.n0 | assumption | refine Small.c ?_ ?_))
theorem w29_13_raw (k n : Int) (a : Option Addr) (c : Nat) (l : List DT) (M : Mem) (b1 : Nat) (M2 : Mem) (b9 : Nat) (M10 M20 : Mem) (b31 : Nat) (M32 M43 M55 : Mem) : oT Tryd.prog [] 60 Tryd.f29 q29 [(nd3 k n (.slice a l.length c))] M [ttV 1 (pt b1 0) M2, ttV 3 (pt b9 0) M10, ttL 7 (i64 k), ttV 9 (i64 4) M20, ttV 36 (sli b31 0 3 4) M32, ttL 40 (i64 n), ttV 42 (i64 1) M43, ttL 46 (i64 3), ttS 50 M55] 2 = some (.ret, some (pt b9 0), M55, [.eq (abox Tryd.prog 54 (nd3 k n (.slice a l.length c)) M) (1, .val (pt b1 0), M2), .eq (aalloc Tryd.prog 27 M2) (1, .val (pt b9 0), M10), qL 3 b1 0 M10 (i64 k), qC 23 [i64 k, i64 14] M10 (i64 4) M20, .eq (abuildSlice Tryd.prog 36 3 [(0, (i64 2)), (1, (i64 3)), (2, (i64 3))] M20) (1, .val (sli b31 0 3 4), M32), qL 3 b1 1 M32 (i64 n), qC 23 [i64 n, i64 3] M32 (i64 1) M43, qL 3 b31 1 M43 (i64 3), qS 27 b9 0 (nd5 3 0 0 0 sln) M43 M55]) := by kernel_rfl
theorem w29_13 (k n : Int) (a : Option Addr) (c : Nat) (l : List DT) {M : Mem} (hM : MemOk M) {rows : List (List Value)} (_ : IH29 l) (_ : RowsAt 3 M l rows) (_ : SlAt M (.slice a l.length c) l.length rows) (cc0 : modI k 14 = 4) (cc1 : modI n 3 = 1) : ∃ v M', Con Tryd.prog [] 29 (Qn 5) [(nd3 k n (.slice a l.length c))] M v M' := by
  obtain ⟨b1, M2, eb3, em4, g5, E6, hM7⟩ := new_t hM ⟨[i64 k, i64 n, (.slice a l.length c)], 54, 3, 0, true⟩
  have nb1 : M.next ≤ b1 := by rw [← eb3]; exact (Ext.refl M).next
  have X8 := (Ext.refl M).trans E6
  obtain ⟨b9, M10, eb11, em12, g13, E14, hM15⟩ := new_t hM7 ⟨[i64 0, i64 0, i64 0, i64 0, sln], 27, 5, 0, true⟩
  have nb9 := nb_of eb11 X8
  have db1b9 := ne_new g5 eb11
  have g16 := E14.old g5
  have X17 := X8.trans E14
  obtain ⟨w18, N19, M20, p21, l22, e23, E24, hM25, Q26, G27⟩ := call_t hM15 (con23 k 14 (by decide))
  have g28 := E24.old g16
  have g29 := E24.old g13
  have ew18 : w18 = i64 4 := by
    have h : i64 (modI k 14) = w18 := Option.some.inj Q26
    rw [← h, cc0]
  subst ew18
  have X30 := X17.trans E24
  obtain ⟨b31, M32, eb33, em34, g35, E36, hM37⟩ := new_t hM25 ⟨[i64 2, i64 3, i64 3], 3, 1, 0, true⟩
  have nb31 := nb_of eb33 X30
  have db1b31 := ne_new g28 eb33
  have db9b31 := ne_new g29 eb33
  have g38 := E36.old g28
  have g39 := E36.old g29
  have X40 := X30.trans E36
  obtain ⟨w41, N42, M43, p44, l45, e46, E47, hM48, Q49, G50⟩ := call_t hM37 (con23 n 3 (by decide))
  have g51 := E47.old g38
  have g52 := E47.old g39
  have g53 := E47.old g35
  have ew41 : w41 = i64 1 := by
    have h : i64 (modI n 3) = w41 := Option.some.inj Q49
    rw [← h, cc1]
  subst ew41
  have X54 := X40.trans E47
  obtain ⟨M55, q56, g57, kp58, X59, hM60, nx61⟩ := store_t (o := 0) (v := (nd5 3 0 0 0 sln)) (new := [i64 3, i64 0, i64 0, i64 0, sln]) X54 nb9 hM48 dS27 g52 rfl rfl (Nat.zero_le _) (Nat.le_of_ble_eq_true rfl) rfl
  replace g57 : M55.get b9 = some ⟨[i64 3, i64 0, i64 0, i64 0, sln], 27, 5, 0, true⟩ := g57
  have g62 := (kp58 _ db1b9).trans g51
  have g63 := (kp58 _ (Ne.symm db9b31)).trans g53
  have hraw := w29_13_raw k n a c l M b1 M2 b9 M10 M20 b31 M32 M43 M55
  have hres := aload_agg (a := ⟨b9, 0, none⟩) dA27 dS27 g57 rfl
  exact Con.qn (Ev.told_cell noNumP mixedP Tryd.func29 q29_ok (by kernel_rfl) rK29 (sK hS29_23) (fun _ _ => rfl) hraw hres (hk (q_eq (by rw [← eb3, ← em4]; kernel_rfl) Nat.one_ne_zero) (hk (q_eq (by rw [← eb11, ← em12]; kernel_rfl) Nat.one_ne_zero) (hk (lC dC3 g16 rfl) (hk (q_call rfl p21 l22 e23) (hk (q_eq (by rw [← eb33, ← em34]; kernel_rfl) Nat.one_ne_zero) (hk (lC dC3 g38 rfl) (hk (q_call rfl p44 l45 e46) (hk (lC dC3 g53 rfl) (hk (q_st q56) hn)))))))))) X59 (NodeAt.flat5 3 0 0 0) (by first | assumption | exact Small.mk (by simp) (by repeat' first | exact Small.n0 | assumption | refine Small.c ?_ ?_))
theorem w29_14_raw (k n : Int) (a : Option Addr) (c : Nat) (l : List DT) (M : Mem) (b1 : Nat) (M2 : Mem) (b9 : Nat) (M10 M20 : Mem) (b31 : Nat) (M32 M43 M55 : Mem) : oT Tryd.prog [] 60 Tryd.f29 q29 [(nd3 k n (.slice a l.length c))] M [ttV 1 (pt b1 0) M2, ttV 3 (pt b9 0) M10, ttL 7 (i64 k), ttV 9 (i64 4) M20, ttV 36 (sli b31 0 3 4) M32, ttL 40 (i64 n), ttV 42 (i64 2) M43, ttL 46 (i64 3), ttS 50 M55] 2 = some (.ret, some (pt b9 0), M55, [.eq (abox Tryd.prog 54 (nd3 k n (.slice a l.length c)) M) (1, .val (pt b1 0), M2), .eq (aalloc Tryd.prog 27 M2) (1, .val (pt b9 0), M10), qL 3 b1 0 M10 (i64 k), qC 23 [i64 k, i64 14] M10 (i64 4) M20, .eq (abuildSlice Tryd.prog 36 3 [(0, (i64 2)), (1, (i64 3)), (2, (i64 3))] M20) (1, .val (sli b31 0 3 4), M32), qL 3 b1 1 M32 (i64 n), qC 23 [i64 n, i64 3] M32 (i64 2) M43, qL 3 b31 2 M43 (i64 3), qS 27 b9 0 (nd5 3 0 0 0 sln) M43 M55]) := by kernel_rfl
theorem w29_14 (k n : Int) (a : Option Addr) (c : Nat) (l : List DT) {M : Mem} (hM : MemOk M) {rows : List (List Value)} (_ : IH29 l) (_ : RowsAt 3 M l rows) (_ : SlAt M (.slice a l.length c) l.length rows) (cc0 : modI k 14 = 4) (cc1 : modI n 3 = 2) : ∃ v M', Con Tryd.prog [] 29 (Qn 5) [(nd3 k n (.slice a l.length c))] M v M' := by
  obtain ⟨b1, M2, eb3, em4, g5, E6, hM7⟩ := new_t hM ⟨[i64 k, i64 n, (.slice a l.length c)], 54, 3, 0, true⟩
  have nb1 : M.next ≤ b1 := by rw [← eb3]; exact (Ext.refl M).next
  have X8 := (Ext.refl M).trans E6
  obtain ⟨b9, M10, eb11, em12, g13, E14, hM15⟩ := new_t hM7 ⟨[i64 0, i64 0, i64 0, i64 0, sln], 27, 5, 0, true⟩
  have nb9 := nb_of eb11 X8
  have db1b9 := ne_new g5 eb11
  have g16 := E14.old g5
  have X17 := X8.trans E14
  obtain ⟨w18, N19, M20, p21, l22, e23, E24, hM25, Q26, G27⟩ := call_t hM15 (con23 k 14 (by decide))
  have g28 := E24.old g16
  have g29 := E24.old g13
  have ew18 : w18 = i64 4 := by
    have h : i64 (modI k 14) = w18 := Option.some.inj Q26
    rw [← h, cc0]
  subst ew18
  have X30 := X17.trans E24
  obtain ⟨b31, M32, eb33, em34, g35, E36, hM37⟩ := new_t hM25 ⟨[i64 2, i64 3, i64 3], 3, 1, 0, true⟩
  have nb31 := nb_of eb33 X30
  have db1b31 := ne_new g28 eb33
  have db9b31 := ne_new g29 eb33
  have g38 := E36.old g28
  have g39 := E36.old g29
  have X40 := X30.trans E36
  obtain ⟨w41, N42, M43, p44, l45, e46, E47, hM48, Q49, G50⟩ := call_t hM37 (con23 n 3 (by decide))
  have g51 := E47.old g38
  have g52 := E47.old g39
  have g53 := E47.old g35
  have ew41 : w41 = i64 2 := by
    have h : i64 (modI n 3) = w41 := Option.some.inj Q49
    rw [← h, cc1]
  subst ew41
  have X54 := X40.trans E47
  obtain ⟨M55, q56, g57, kp58, X59, hM60, nx61⟩ := store_t (o := 0) (v := (nd5 3 0 0 0 sln)) (new := [i64 3, i64 0, i64 0, i64 0, sln]) X54 nb9 hM48 dS27 g52 rfl rfl (Nat.zero_le _) (Nat.le_of_ble_eq_true rfl) rfl
  replace g57 : M55.get b9 = some ⟨[i64 3, i64 0, i64 0, i64 0, sln], 27, 5, 0, true⟩ := g57
  have g62 := (kp58 _ db1b9).trans g51
  have g63 := (kp58 _ (Ne.symm db9b31)).trans g53
  have hraw := w29_14_raw k n a c l M b1 M2 b9 M10 M20 b31 M32 M43 M55
  have hres := aload_agg (a := ⟨b9, 0, none⟩) dA27 dS27 g57 rfl
  exact Con.qn (Ev.told_cell noNumP mixedP Tryd.func29 q29_ok (by kernel_rfl) rK29 (sK hS29_23) (fun _ _ => rfl) hraw hres (hk (q_eq (by rw [← eb3, ← em4]; kernel_rfl) Nat.one_ne_zero) (hk (q_eq (by rw [← eb11, ← em12]; kernel_rfl) Nat.one_ne_zero) (hk (lC dC3 g16 rfl) (hk (q_call rfl p21 l22 e23) (hk (q_eq (by rw [← eb33, ← em34]; kernel_rfl) Nat.one_ne_zero) (hk (lC dC3 g38 rfl) (hk (q_call rfl p44 l45 e46) (hk (lC dC3 g53 rfl) (hk (q_st q56) hn)))))))))) X59 (NodeAt.flat5 3 0 0 0) (by first | assumption | exact Small.mk (by simp) (by repeat' first | exact Small.n0 | assumption | refine Small.c ?_ ?_))
theorem w29_15_raw (k n : Int) (a : Option Addr) (c : Nat) (l : List DT) (M : Mem) (b1 : Nat) (M2 : Mem) (b9 : Nat) (M10 M20 : Mem) (b31 : Nat) (M32 M41 : Mem) (z50a : Option Addr) (z50l : List DT) (z50c : Nat) (M51 M56 : Mem) : oT Tryd.prog [1] 60 Tryd.f29 q29 [(nd3 k n (.slice a l.length c))] M [ttV 1 (pt b1 0) M2, ttV 3 (pt b9 0) M10, ttL 7 (i64 k), ttV 9 (i64 5) M20, ttV 44 (pt b31 0) M32, ttS 46 M41, .blk 49 [1, 2, 3, 4] .normal (fr [(2, pt b9 0), (3, pt b31 0)]) M51, ttL 51 (nd5 4 0 0 0 (.slice z50a z50l.length z50c)), ttS 53 M56] 2 = some (.ret, some (pt b9 0), M56, [.eq (abox Tryd.prog 54 (nd3 k n (.slice a l.length c)) M) (1, .val (pt b1 0), M2), .eq (aalloc Tryd.prog 27 M2) (1, .val (pt b9 0), M10), qL 3 b1 0 M10 (i64 k), qC 23 [i64 k, i64 14] M10 (i64 5) M20, .eq (aalloc Tryd.prog 27 M20) (1, .val (pt b31 0), M32), qS 27 b31 0 (nd5 4 0 0 0 sln) M32 M41, .blk 1 (.loop (q29.loopAt 1)) Tryd.f29.ntmps [1, 2, 3, 4] [some (pt b1 0), some (pt b9 0), some (pt b31 0), some (i64 0)] M41 .normal (fr [(2, pt b9 0), (3, pt b31 0)]) M51, qL 27 b31 0 M51 (nd5 4 0 0 0 (.slice z50a z50l.length z50c)), qS 27 b9 0 (nd5 4 0 0 0 (.slice z50a z50l.length z50c)) M51 M56]) := by kernel_rfl
theorem w29_15 (k n : Int) (a : Option Addr) (c : Nat) (l : List DT) {M : Mem} (hM : MemOk M) {rows : List (List Value)} (ih : IH29 l) (hr : RowsAt 3 M l rows) (hs : SlAt M (.slice a l.length c) l.length rows) (cc0 : modI k 14 = 5) : ∃ v M', Con Tryd.prog [] 29 (Qn 5) [(nd3 k n (.slice a l.length c))] M v M' := by
  obtain ⟨b1, M2, eb3, em4, g5, E6, hM7⟩ := new_t hM ⟨[i64 k, i64 n, (.slice a l.length c)], 54, 3, 0, true⟩
  have nb1 : M.next ≤ b1 := by rw [← eb3]; exact (Ext.refl M).next
  have X8 := (Ext.refl M).trans E6
  obtain ⟨b9, M10, eb11, em12, g13, E14, hM15⟩ := new_t hM7 ⟨[i64 0, i64 0, i64 0, i64 0, sln], 27, 5, 0, true⟩
  have nb9 := nb_of eb11 X8
  have db1b9 := ne_new g5 eb11
  have g16 := E14.old g5
  have X17 := X8.trans E14
  obtain ⟨w18, N19, M20, p21, l22, e23, E24, hM25, Q26, G27⟩ := call_t hM15 (con23 k 14 (by decide))
  have g28 := E24.old g16
  have g29 := E24.old g13
  have ew18 : w18 = i64 5 := by
    have h : i64 (modI k 14) = w18 := Option.some.inj Q26
    rw [← h, cc0]
  subst ew18
  have X30 := X17.trans E24
  obtain ⟨b31, M32, eb33, em34, g35, E36, hM37⟩ := new_t hM25 ⟨[i64 0, i64 0, i64 0, i64 0, sln], 27, 5, 0, true⟩
  have nb31 := nb_of eb33 X30
  have db1b31 := ne_new g28 eb33
  have db9b31 := ne_new g29 eb33
  have g38 := E36.old g28
  have g39 := E36.old g29
  have X40 := X30.trans E36
  obtain ⟨M41, q42, g43, kp44, X45, hM46, nx47⟩ := store_t (o := 0) (v := (nd5 4 0 0 0 sln)) (new := [i64 4, i64 0, i64 0, i64 0, sln]) X40 nb31 hM37 dS27 g35 rfl rfl (Nat.zero_le _) (Nat.le_of_ble_eq_true rfl) rfl
  replace g43 : M41.get b31 = some ⟨[i64 4, i64 0, i64 0, i64 0, sln], 27, 5, 0, true⟩ := g43
  have g48 := (kp44 _ db1b31).trans g38
  have g49 := (kp44 _ db9b31).trans g39
  obtain ⟨z50T, M51, z50a, z50l, z50c, z50R, z50s, X53, hM52, g54, g55, z50N, z50S⟩ := mk1_all ih hr hs X45 hM46 nb1 nb9 nb31 db1b9 db1b31 db9b31 g48 g49 g43
  obtain ⟨M56, q57, g58, kp59, X60, hM61, nx62⟩ := store_t (o := 0) (v := (nd5 4 0 0 0 (.slice z50a z50l.length z50c))) (new := [i64 4, i64 0, i64 0, i64 0, (.slice z50a z50l.length z50c)]) X53 nb9 hM52 dS27 g54 rfl rfl (Nat.zero_le _) (Nat.le_of_ble_eq_true rfl) rfl
  replace g58 : M56.get b9 = some ⟨[i64 4, i64 0, i64 0, i64 0, (.slice z50a z50l.length z50c)], 27, 5, 0, true⟩ := g58
  have hT63 := nt_keep b9 kp59 (by intro id hh; simp only [hidden_cons, hidden_none, or_false] at hh; omega) z50N
  have g64 := (kp59 _ (Ne.symm db9b31)).trans g55
  have hraw := w29_15_raw k n a c l M b1 M2 b9 M10 M20 b31 M32 M41 z50a z50l z50c M51 M56
  have hres := aload_agg (a := ⟨b9, 0, none⟩) dA27 dS27 g58 rfl
  exact Con.qn (Ev.told_cell noNumP mixedP Tryd.func29 q29_ok (by kernel_rfl) rK29 (fun B => specsB_ok (hS29_23 B) (k := [(1, bone (.loop (q29.loopAt 1)) Tryd.f29.ntmps [1, 2, 3, 4] [some (pt b1 0), some (pt b9 0), some (pt b31 0), some (i64 0)] M41 .normal (fr [(2, pt b9 0), (3, pt b31 0)]) M51)]) (fun p hp => by simp only [List.mem_cons, List.not_mem_nil, or_false] at hp; rcases hp with rfl <;> first | exact BlkOk.ran noNumP mixedP z50R (TSub.fr (l := [(2, pt b9 0), (3, pt b31 0)]) z50s))) (fun _ h => blksF_one h) hraw hres (hk (q_eq (by rw [← eb3, ← em4]; kernel_rfl) Nat.one_ne_zero) (hk (q_eq (by rw [← eb11, ← em12]; kernel_rfl) Nat.one_ne_zero) (hk (lC dC3 g16 rfl) (hk (q_call rfl p21 l22 e23) (hk (q_eq (by rw [← eb33, ← em34]; kernel_rfl) Nat.one_ne_zero) (hk (q_st q42) (hk (q_blk rfl) (hk (lA ⟨dA27, dS27⟩ g55 rfl) (hk (q_st q57) hn)))))))))) X60 (NodeAt.ext (M := hidx [(b9, b9 + 1), (0, M.next)] M56) (M' := hidx [(0, M.next)] M56) (fun _ _ h => hidx_mono (H := [(b9, b9 + 1), (0, M.next)]) (H' := [(0, M.next)]) (fun id hh => by have := (Ext.refl M).next; simp only [hidden_cons, hidden_none, or_false] at hh ⊢; omega) h) _ _ hT63) (by first | assumption | exact Small.mk (by simp) (by repeat' first | exact Small.n0 | assumption | refine Small.c ?_ ?_))
theorem w29_16_raw (k n : Int) (a : Option Addr) (c : Nat) (l : List DT) (M : Mem) (b1 : Nat) (M2 : Mem) (b9 : Nat) (M10 M20 : Mem) (b31 : Nat) (M32 M41 : Mem) (z50a : Option Addr) (z50l : List DT) (z50c : Nat) (M51 M56 : Mem) : oT Tryd.prog [1] 60 Tryd.f29 q29 [(nd3 k n (.slice a l.length c))] M [ttV 1 (pt b1 0) M2, ttV 3 (pt b9 0) M10, ttL 7 (i64 k), ttV 9 (i64 6) M20, ttV 49 (pt b31 0) M32, ttS 51 M41, .blk 54 [1, 2, 3, 4] .normal (fr [(2, pt b9 0), (3, pt b31 0)]) M51, ttL 56 (nd5 4 0 0 0 (.slice z50a z50l.length z50c)), ttS 58 M56] 2 = some (.ret, some (pt b9 0), M56, [.eq (abox Tryd.prog 54 (nd3 k n (.slice a l.length c)) M) (1, .val (pt b1 0), M2), .eq (aalloc Tryd.prog 27 M2) (1, .val (pt b9 0), M10), qL 3 b1 0 M10 (i64 k), qC 23 [i64 k, i64 14] M10 (i64 6) M20, .eq (aalloc Tryd.prog 27 M20) (1, .val (pt b31 0), M32), qS 27 b31 0 (nd5 4 0 0 0 sln) M32 M41, .blk 1 (.loop (q29.loopAt 1)) Tryd.f29.ntmps [1, 2, 3, 4] [some (pt b1 0), some (pt b9 0), some (pt b31 0), some (i64 0)] M41 .normal (fr [(2, pt b9 0), (3, pt b31 0)]) M51, qL 27 b31 0 M51 (nd5 4 0 0 0 (.slice z50a z50l.length z50c)), qS 27 b9 0 (nd5 4 0 0 0 (.slice z50a z50l.length z50c)) M51 M56]) := by kernel_rfl
theorem w29_16 (k n : Int) (a : Option Addr) (c : Nat) (l : List DT) {M : Mem} (hM : MemOk M) {rows : List (List Value)} (ih : IH29 l) (hr : RowsAt 3 M l rows) (hs : SlAt M (.slice a l.length c) l.length rows) (cc0 : modI k 14 = 6) : ∃ v M', Con Tryd.prog [] 29 (Qn 5) [(nd3 k n (.slice a l.length c))] M v M' := by
  obtain ⟨b1, M2, eb3, em4, g5, E6, hM7⟩ := new_t hM ⟨[i64 k, i64 n, (.slice a l.length c)], 54, 3, 0, true⟩
  have nb1 : M.next ≤ b1 := by rw [← eb3]; exact (Ext.refl M).next
  have X8 := (Ext.refl M).trans E6
  obtain ⟨b9, M10, eb11, em12, g13, E14, hM15⟩ := new_t hM7 ⟨[i64 0, i64 0, i64 0, i64 0, sln], 27, 5, 0, true⟩
  have nb9 := nb_of eb11 X8
  have db1b9 := ne_new g5 eb11
  have g16 := E14.old g5
  have X17 := X8.trans E14
  obtain ⟨w18, N19, M20, p21, l22, e23, E24, hM25, Q26, G27⟩ := call_t hM15 (con23 k 14 (by decide))
  have g28 := E24.old g16
  have g29 := E24.old g13
  have ew18 : w18 = i64 6 := by
    have h : i64 (modI k 14) = w18 := Option.some.inj Q26
    rw [← h, cc0]
  subst ew18
  have X30 := X17.trans E24
  obtain ⟨b31, M32, eb33, em34, g35, E36, hM37⟩ := new_t hM25 ⟨[i64 0, i64 0, i64 0, i64 0, sln], 27, 5, 0, true⟩
  have nb31 := nb_of eb33 X30
  have db1b31 := ne_new g28 eb33
  have db9b31 := ne_new g29 eb33
  have g38 := E36.old g28
  have g39 := E36.old g29
  have X40 := X30.trans E36
  obtain ⟨M41, q42, g43, kp44, X45, hM46, nx47⟩ := store_t (o := 0) (v := (nd5 4 0 0 0 sln)) (new := [i64 4, i64 0, i64 0, i64 0, sln]) X40 nb31 hM37 dS27 g35 rfl rfl (Nat.zero_le _) (Nat.le_of_ble_eq_true rfl) rfl
  replace g43 : M41.get b31 = some ⟨[i64 4, i64 0, i64 0, i64 0, sln], 27, 5, 0, true⟩ := g43
  have g48 := (kp44 _ db1b31).trans g38
  have g49 := (kp44 _ db9b31).trans g39
  obtain ⟨z50T, M51, z50a, z50l, z50c, z50R, z50s, X53, hM52, g54, g55, z50N, z50S⟩ := mk1_all ih hr hs X45 hM46 nb1 nb9 nb31 db1b9 db1b31 db9b31 g48 g49 g43
  obtain ⟨M56, q57, g58, kp59, X60, hM61, nx62⟩ := store_t (o := 0) (v := (nd5 4 0 0 0 (.slice z50a z50l.length z50c))) (new := [i64 4, i64 0, i64 0, i64 0, (.slice z50a z50l.length z50c)]) X53 nb9 hM52 dS27 g54 rfl rfl (Nat.zero_le _) (Nat.le_of_ble_eq_true rfl) rfl
  replace g58 : M56.get b9 = some ⟨[i64 4, i64 0, i64 0, i64 0, (.slice z50a z50l.length z50c)], 27, 5, 0, true⟩ := g58
  have hT63 := nt_keep b9 kp59 (by intro id hh; simp only [hidden_cons, hidden_none, or_false] at hh; omega) z50N
  have g64 := (kp59 _ (Ne.symm db9b31)).trans g55
  have hraw := w29_16_raw k n a c l M b1 M2 b9 M10 M20 b31 M32 M41 z50a z50l z50c M51 M56
  have hres := aload_agg (a := ⟨b9, 0, none⟩) dA27 dS27 g58 rfl
  exact Con.qn (Ev.told_cell noNumP mixedP Tryd.func29 q29_ok (by kernel_rfl) rK29 (fun B => specsB_ok (hS29_23 B) (k := [(1, bone (.loop (q29.loopAt 1)) Tryd.f29.ntmps [1, 2, 3, 4] [some (pt b1 0), some (pt b9 0), some (pt b31 0), some (i64 0)] M41 .normal (fr [(2, pt b9 0), (3, pt b31 0)]) M51)]) (fun p hp => by simp only [List.mem_cons, List.not_mem_nil, or_false] at hp; rcases hp with rfl <;> first | exact BlkOk.ran noNumP mixedP z50R (TSub.fr (l := [(2, pt b9 0), (3, pt b31 0)]) z50s))) (fun _ h => blksF_one h) hraw hres (hk (q_eq (by rw [← eb3, ← em4]; kernel_rfl) Nat.one_ne_zero) (hk (q_eq (by rw [← eb11, ← em12]; kernel_rfl) Nat.one_ne_zero) (hk (lC dC3 g16 rfl) (hk (q_call rfl p21 l22 e23) (hk (q_eq (by rw [← eb33, ← em34]; kernel_rfl) Nat.one_ne_zero) (hk (q_st q42) (hk (q_blk rfl) (hk (lA ⟨dA27, dS27⟩ g55 rfl) (hk (q_st q57) hn)))))))))) X60 (NodeAt.ext (M := hidx [(b9, b9 + 1), (0, M.next)] M56) (M' := hidx [(0, M.next)] M56) (fun _ _ h => hidx_mono (H := [(b9, b9 + 1), (0, M.next)]) (H' := [(0, M.next)]) (fun id hh => by have := (Ext.refl M).next; simp only [hidden_cons, hidden_none, or_false] at hh ⊢; omega) h) _ _ hT63) (by first | assumption | exact Small.mk (by simp) (by repeat' first | exact Small.n0 | assumption | refine Small.c ?_ ?_))
theorem w29_17_raw (k n : Int) (a : Option Addr) (c : Nat) (l : List DT) (M : Mem) (b1 : Nat) (M2 : Mem) (b9 : Nat) (M10 M20 : Mem) (b31 : Nat) (M32 M41 : Mem) (z50a : Option Addr) (z50l : List DT) (z50c : Nat) (M51 M56 : Mem) : oT Tryd.prog [1] 60 Tryd.f29 q29 [(nd3 k n (.slice a l.length c))] M [ttV 1 (pt b1 0) M2, ttV 3 (pt b9 0) M10, ttL 7 (i64 k), ttV 9 (i64 7) M20, ttV 53 (pt b31 0) M32, ttS 55 M41, .blk 58 [1, 2, 3, 4] .normal (fr [(2, pt b9 0), (3, pt b31 0)]) M51, ttL 60 (nd5 4 0 0 0 (.slice z50a z50l.length z50c)), ttS 62 M56] 2 = some (.ret, some (pt b9 0), M56, [.eq (abox Tryd.prog 54 (nd3 k n (.slice a l.length c)) M) (1, .val (pt b1 0), M2), .eq (aalloc Tryd.prog 27 M2) (1, .val (pt b9 0), M10), qL 3 b1 0 M10 (i64 k), qC 23 [i64 k, i64 14] M10 (i64 7) M20, .eq (aalloc Tryd.prog 27 M20) (1, .val (pt b31 0), M32), qS 27 b31 0 (nd5 4 0 0 0 sln) M32 M41, .blk 1 (.loop (q29.loopAt 1)) Tryd.f29.ntmps [1, 2, 3, 4] [some (pt b1 0), some (pt b9 0), some (pt b31 0), some (i64 0)] M41 .normal (fr [(2, pt b9 0), (3, pt b31 0)]) M51, qL 27 b31 0 M51 (nd5 4 0 0 0 (.slice z50a z50l.length z50c)), qS 27 b9 0 (nd5 4 0 0 0 (.slice z50a z50l.length z50c)) M51 M56]) := by kernel_rfl
theorem w29_17 (k n : Int) (a : Option Addr) (c : Nat) (l : List DT) {M : Mem} (hM : MemOk M) {rows : List (List Value)} (ih : IH29 l) (hr : RowsAt 3 M l rows) (hs : SlAt M (.slice a l.length c) l.length rows) (cc0 : modI k 14 = 7) : ∃ v M', Con Tryd.prog [] 29 (Qn 5) [(nd3 k n (.slice a l.length c))] M v M' := by
  obtain ⟨b1, M2, eb3, em4, g5, E6, hM7⟩ := new_t hM ⟨[i64 k, i64 n, (.slice a l.length c)], 54, 3, 0, true⟩
  have nb1 : M.next ≤ b1 := by rw [← eb3]; exact (Ext.refl M).next
  have X8 := (Ext.refl M).trans E6
  obtain ⟨b9, M10, eb11, em12, g13, E14, hM15⟩ := new_t hM7 ⟨[i64 0, i64 0, i64 0, i64 0, sln], 27, 5, 0, true⟩
  have nb9 := nb_of eb11 X8
  have db1b9 := ne_new g5 eb11
  have g16 := E14.old g5
  have X17 := X8.trans E14
  obtain ⟨w18, N19, M20, p21, l22, e23, E24, hM25, Q26, G27⟩ := call_t hM15 (con23 k 14 (by decide))
  have g28 := E24.old g16
  have g29 := E24.old g13
  have ew18 : w18 = i64 7 := by
    have h : i64 (modI k 14) = w18 := Option.some.inj Q26
    rw [← h, cc0]
  subst ew18
  have X30 := X17.trans E24
  obtain ⟨b31, M32, eb33, em34, g35, E36, hM37⟩ := new_t hM25 ⟨[i64 0, i64 0, i64 0, i64 0, sln], 27, 5, 0, true⟩
  have nb31 := nb_of eb33 X30
  have db1b31 := ne_new g28 eb33
  have db9b31 := ne_new g29 eb33
  have g38 := E36.old g28
  have g39 := E36.old g29
  have X40 := X30.trans E36
  obtain ⟨M41, q42, g43, kp44, X45, hM46, nx47⟩ := store_t (o := 0) (v := (nd5 4 0 0 0 sln)) (new := [i64 4, i64 0, i64 0, i64 0, sln]) X40 nb31 hM37 dS27 g35 rfl rfl (Nat.zero_le _) (Nat.le_of_ble_eq_true rfl) rfl
  replace g43 : M41.get b31 = some ⟨[i64 4, i64 0, i64 0, i64 0, sln], 27, 5, 0, true⟩ := g43
  have g48 := (kp44 _ db1b31).trans g38
  have g49 := (kp44 _ db9b31).trans g39
  obtain ⟨z50T, M51, z50a, z50l, z50c, z50R, z50s, X53, hM52, g54, g55, z50N, z50S⟩ := mk1_all ih hr hs X45 hM46 nb1 nb9 nb31 db1b9 db1b31 db9b31 g48 g49 g43
  obtain ⟨M56, q57, g58, kp59, X60, hM61, nx62⟩ := store_t (o := 0) (v := (nd5 4 0 0 0 (.slice z50a z50l.length z50c))) (new := [i64 4, i64 0, i64 0, i64 0, (.slice z50a z50l.length z50c)]) X53 nb9 hM52 dS27 g54 rfl rfl (Nat.zero_le _) (Nat.le_of_ble_eq_true rfl) rfl
  replace g58 : M56.get b9 = some ⟨[i64 4, i64 0, i64 0, i64 0, (.slice z50a z50l.length z50c)], 27, 5, 0, true⟩ := g58
  have hT63 := nt_keep b9 kp59 (by intro id hh; simp only [hidden_cons, hidden_none, or_false] at hh; omega) z50N
  have g64 := (kp59 _ (Ne.symm db9b31)).trans g55
  have hraw := w29_17_raw k n a c l M b1 M2 b9 M10 M20 b31 M32 M41 z50a z50l z50c M51 M56
  have hres := aload_agg (a := ⟨b9, 0, none⟩) dA27 dS27 g58 rfl
  exact Con.qn (Ev.told_cell noNumP mixedP Tryd.func29 q29_ok (by kernel_rfl) rK29 (fun B => specsB_ok (hS29_23 B) (k := [(1, bone (.loop (q29.loopAt 1)) Tryd.f29.ntmps [1, 2, 3, 4] [some (pt b1 0), some (pt b9 0), some (pt b31 0), some (i64 0)] M41 .normal (fr [(2, pt b9 0), (3, pt b31 0)]) M51)]) (fun p hp => by simp only [List.mem_cons, List.not_mem_nil, or_false] at hp; rcases hp with rfl <;> first | exact BlkOk.ran noNumP mixedP z50R (TSub.fr (l := [(2, pt b9 0), (3, pt b31 0)]) z50s))) (fun _ h => blksF_one h) hraw hres (hk (q_eq (by rw [← eb3, ← em4]; kernel_rfl) Nat.one_ne_zero) (hk (q_eq (by rw [← eb11, ← em12]; kernel_rfl) Nat.one_ne_zero) (hk (lC dC3 g16 rfl) (hk (q_call rfl p21 l22 e23) (hk (q_eq (by rw [← eb33, ← em34]; kernel_rfl) Nat.one_ne_zero) (hk (q_st q42) (hk (q_blk rfl) (hk (lA ⟨dA27, dS27⟩ g55 rfl) (hk (q_st q57) hn)))))))))) X60 (NodeAt.ext (M := hidx [(b9, b9 + 1), (0, M.next)] M56) (M' := hidx [(0, M.next)] M56) (fun _ _ h => hidx_mono (H := [(b9, b9 + 1), (0, M.next)]) (H' := [(0, M.next)]) (fun id hh => by have := (Ext.refl M).next; simp only [hidden_cons, hidden_none, or_false] at hh ⊢; omega) h) _ _ hT63) (by first | assumption | exact Small.mk (by simp) (by repeat' first | exact Small.n0 | assumption | refine Small.c ?_ ?_))
theorem w29_18_raw (k n : Int) (a : Option Addr) (c : Nat) (l : List DT) (M : Mem) (b1 : Nat) (M2 : Mem) (b9 : Nat) (M10 M20 : Mem) (b31 : Nat) (M32 M41 : Mem) (z50a : Option Addr) (z50l : List DT) (z50c : Nat) (M51 M56 : Mem) : oT Tryd.prog [3] 60 Tryd.f29 q29 [(nd3 k n (.slice a l.length c))] M [ttV 1 (pt b1 0) M2, ttV 3 (pt b9 0) M10, ttL 7 (i64 k), ttV 9 (i64 8) M20, ttV 59 (pt b31 0) M32, ttS 61 M41, .blk 64 [1, 2, 5, 6] .normal (fr [(2, pt b9 0), (5, pt b31 0)]) M51, ttL 66 (nd5 5 0 0 0 (.slice z50a z50l.length z50c)), ttS 68 M56] 2 = some (.ret, some (pt b9 0), M56, [.eq (abox Tryd.prog 54 (nd3 k n (.slice a l.length c)) M) (1, .val (pt b1 0), M2), .eq (aalloc Tryd.prog 27 M2) (1, .val (pt b9 0), M10), qL 3 b1 0 M10 (i64 k), qC 23 [i64 k, i64 14] M10 (i64 8) M20, .eq (aalloc Tryd.prog 27 M20) (1, .val (pt b31 0), M32), qS 27 b31 0 (nd5 5 0 0 0 sln) M32 M41, .blk 3 (.loop (q29.loopAt 3)) Tryd.f29.ntmps [1, 2, 5, 6] [some (pt b1 0), some (pt b9 0), some (pt b31 0), some (i64 0)] M41 .normal (fr [(2, pt b9 0), (5, pt b31 0)]) M51, qL 27 b31 0 M51 (nd5 5 0 0 0 (.slice z50a z50l.length z50c)), qS 27 b9 0 (nd5 5 0 0 0 (.slice z50a z50l.length z50c)) M51 M56]) := by kernel_rfl
theorem w29_18 (k n : Int) (a : Option Addr) (c : Nat) (l : List DT) {M : Mem} (hM : MemOk M) {rows : List (List Value)} (ih : IH29 l) (hr : RowsAt 3 M l rows) (hs : SlAt M (.slice a l.length c) l.length rows) (cc0 : modI k 14 = 8) : ∃ v M', Con Tryd.prog [] 29 (Qn 5) [(nd3 k n (.slice a l.length c))] M v M' := by
  obtain ⟨b1, M2, eb3, em4, g5, E6, hM7⟩ := new_t hM ⟨[i64 k, i64 n, (.slice a l.length c)], 54, 3, 0, true⟩
  have nb1 : M.next ≤ b1 := by rw [← eb3]; exact (Ext.refl M).next
  have X8 := (Ext.refl M).trans E6
  obtain ⟨b9, M10, eb11, em12, g13, E14, hM15⟩ := new_t hM7 ⟨[i64 0, i64 0, i64 0, i64 0, sln], 27, 5, 0, true⟩
  have nb9 := nb_of eb11 X8
  have db1b9 := ne_new g5 eb11
  have g16 := E14.old g5
  have X17 := X8.trans E14
  obtain ⟨w18, N19, M20, p21, l22, e23, E24, hM25, Q26, G27⟩ := call_t hM15 (con23 k 14 (by decide))
  have g28 := E24.old g16
  have g29 := E24.old g13
  have ew18 : w18 = i64 8 := by
    have h : i64 (modI k 14) = w18 := Option.some.inj Q26
    rw [← h, cc0]
  subst ew18
  have X30 := X17.trans E24
  obtain ⟨b31, M32, eb33, em34, g35, E36, hM37⟩ := new_t hM25 ⟨[i64 0, i64 0, i64 0, i64 0, sln], 27, 5, 0, true⟩
  have nb31 := nb_of eb33 X30
  have db1b31 := ne_new g28 eb33
  have db9b31 := ne_new g29 eb33
  have g38 := E36.old g28
  have g39 := E36.old g29
  have X40 := X30.trans E36
  obtain ⟨M41, q42, g43, kp44, X45, hM46, nx47⟩ := store_t (o := 0) (v := (nd5 5 0 0 0 sln)) (new := [i64 5, i64 0, i64 0, i64 0, sln]) X40 nb31 hM37 dS27 g35 rfl rfl (Nat.zero_le _) (Nat.le_of_ble_eq_true rfl) rfl
  replace g43 : M41.get b31 = some ⟨[i64 5, i64 0, i64 0, i64 0, sln], 27, 5, 0, true⟩ := g43
  have g48 := (kp44 _ db1b31).trans g38
  have g49 := (kp44 _ db9b31).trans g39
  obtain ⟨z50T, M51, z50a, z50l, z50c, z50R, z50s, X53, hM52, g54, g55, z50N, z50S⟩ := mk3_all ih hr hs X45 hM46 nb1 nb9 nb31 db1b9 db1b31 db9b31 g48 g49 g43
  obtain ⟨M56, q57, g58, kp59, X60, hM61, nx62⟩ := store_t (o := 0) (v := (nd5 5 0 0 0 (.slice z50a z50l.length z50c))) (new := [i64 5, i64 0, i64 0, i64 0, (.slice z50a z50l.length z50c)]) X53 nb9 hM52 dS27 g54 rfl rfl (Nat.zero_le _) (Nat.le_of_ble_eq_true rfl) rfl
  replace g58 : M56.get b9 = some ⟨[i64 5, i64 0, i64 0, i64 0, (.slice z50a z50l.length z50c)], 27, 5, 0, true⟩ := g58
  have hT63 := nt_keep b9 kp59 (by intro id hh; simp only [hidden_cons, hidden_none, or_false] at hh; omega) z50N
  have g64 := (kp59 _ (Ne.symm db9b31)).trans g55
  have hraw := w29_18_raw k n a c l M b1 M2 b9 M10 M20 b31 M32 M41 z50a z50l z50c M51 M56
  have hres := aload_agg (a := ⟨b9, 0, none⟩) dA27 dS27 g58 rfl
  exact Con.qn (Ev.told_cell noNumP mixedP Tryd.func29 q29_ok (by kernel_rfl) rK29 (fun B => specsB_ok (hS29_23 B) (k := [(3, bone (.loop (q29.loopAt 3)) Tryd.f29.ntmps [1, 2, 5, 6] [some (pt b1 0), some (pt b9 0), some (pt b31 0), some (i64 0)] M41 .normal (fr [(2, pt b9 0), (5, pt b31 0)]) M51)]) (fun p hp => by simp only [List.mem_cons, List.not_mem_nil, or_false] at hp; rcases hp with rfl <;> first | exact BlkOk.ran noNumP mixedP z50R (TSub.fr (l := [(2, pt b9 0), (5, pt b31 0)]) z50s))) (fun _ h => blksF_one h) hraw hres (hk (q_eq (by rw [← eb3, ← em4]; kernel_rfl) Nat.one_ne_zero) (hk (q_eq (by rw [← eb11, ← em12]; kernel_rfl) Nat.one_ne_zero) (hk (lC dC3 g16 rfl) (hk (q_call rfl p21 l22 e23) (hk (q_eq (by rw [← eb33, ← em34]; kernel_rfl) Nat.one_ne_zero) (hk (q_st q42) (hk (q_blk rfl) (hk (lA ⟨dA27, dS27⟩ g55 rfl) (hk (q_st q57) hn)))))))))) X60 (NodeAt.ext (M := hidx [(b9, b9 + 1), (0, M.next)] M56) (M' := hidx [(0, M.next)] M56) (fun _ _ h => hidx_mono (H := [(b9, b9 + 1), (0, M.next)]) (H' := [(0, M.next)]) (fun id hh => by have := (Ext.refl M).next; simp only [hidden_cons, hidden_none, or_false] at hh ⊢; omega) h) _ _ hT63) (by first | assumption | exact Small.mk (by simp) (by repeat' first | exact Small.n0 | assumption | refine Small.c ?_ ?_))
theorem w29_19_raw (k n : Int) (a : Option Addr) (c : Nat) (l : List DT) (M : Mem) (b1 : Nat) (M2 : Mem) (b9 : Nat) (M10 M20 : Mem) (b31 : Nat) (M32 M41 : Mem) (z50a : Option Addr) (z50l : List DT) (z50c : Nat) (M51 M56 : Mem) : oT Tryd.prog [3] 60 Tryd.f29 q29 [(nd3 k n (.slice a l.length c))] M [ttV 1 (pt b1 0) M2, ttV 3 (pt b9 0) M10, ttL 7 (i64 k), ttV 9 (i64 9) M20, ttV 63 (pt b31 0) M32, ttS 65 M41, .blk 68 [1, 2, 5, 6] .normal (fr [(2, pt b9 0), (5, pt b31 0)]) M51, ttL 70 (nd5 5 0 0 0 (.slice z50a z50l.length z50c)), ttS 72 M56] 2 = some (.ret, some (pt b9 0), M56, [.eq (abox Tryd.prog 54 (nd3 k n (.slice a l.length c)) M) (1, .val (pt b1 0), M2), .eq (aalloc Tryd.prog 27 M2) (1, .val (pt b9 0), M10), qL 3 b1 0 M10 (i64 k), qC 23 [i64 k, i64 14] M10 (i64 9) M20, .eq (aalloc Tryd.prog 27 M20) (1, .val (pt b31 0), M32), qS 27 b31 0 (nd5 5 0 0 0 sln) M32 M41, .blk 3 (.loop (q29.loopAt 3)) Tryd.f29.ntmps [1, 2, 5, 6] [some (pt b1 0), some (pt b9 0), some (pt b31 0), some (i64 0)] M41 .normal (fr [(2, pt b9 0), (5, pt b31 0)]) M51, qL 27 b31 0 M51 (nd5 5 0 0 0 (.slice z50a z50l.length z50c)), qS 27 b9 0 (nd5 5 0 0 0 (.slice z50a z50l.length z50c)) M51 M56]) := by kernel_rfl
theorem w29_19 (k n : Int) (a : Option Addr) (c : Nat) (l : List DT) {M : Mem} (hM : MemOk M) {rows : List (List Value)} (ih : IH29 l) (hr : RowsAt 3 M l rows) (hs : SlAt M (.slice a l.length c) l.length rows) (cc0 : modI k 14 = 9) : ∃ v M', Con Tryd.prog [] 29 (Qn 5) [(nd3 k n (.slice a l.length c))] M v M' := by
  obtain ⟨b1, M2, eb3, em4, g5, E6, hM7⟩ := new_t hM ⟨[i64 k, i64 n, (.slice a l.length c)], 54, 3, 0, true⟩
  have nb1 : M.next ≤ b1 := by rw [← eb3]; exact (Ext.refl M).next
  have X8 := (Ext.refl M).trans E6
  obtain ⟨b9, M10, eb11, em12, g13, E14, hM15⟩ := new_t hM7 ⟨[i64 0, i64 0, i64 0, i64 0, sln], 27, 5, 0, true⟩
  have nb9 := nb_of eb11 X8
  have db1b9 := ne_new g5 eb11
  have g16 := E14.old g5
  have X17 := X8.trans E14
  obtain ⟨w18, N19, M20, p21, l22, e23, E24, hM25, Q26, G27⟩ := call_t hM15 (con23 k 14 (by decide))
  have g28 := E24.old g16
  have g29 := E24.old g13
  have ew18 : w18 = i64 9 := by
    have h : i64 (modI k 14) = w18 := Option.some.inj Q26
    rw [← h, cc0]
  subst ew18
  have X30 := X17.trans E24
  obtain ⟨b31, M32, eb33, em34, g35, E36, hM37⟩ := new_t hM25 ⟨[i64 0, i64 0, i64 0, i64 0, sln], 27, 5, 0, true⟩
  have nb31 := nb_of eb33 X30
  have db1b31 := ne_new g28 eb33
  have db9b31 := ne_new g29 eb33
  have g38 := E36.old g28
  have g39 := E36.old g29
  have X40 := X30.trans E36
  obtain ⟨M41, q42, g43, kp44, X45, hM46, nx47⟩ := store_t (o := 0) (v := (nd5 5 0 0 0 sln)) (new := [i64 5, i64 0, i64 0, i64 0, sln]) X40 nb31 hM37 dS27 g35 rfl rfl (Nat.zero_le _) (Nat.le_of_ble_eq_true rfl) rfl
  replace g43 : M41.get b31 = some ⟨[i64 5, i64 0, i64 0, i64 0, sln], 27, 5, 0, true⟩ := g43
  have g48 := (kp44 _ db1b31).trans g38
  have g49 := (kp44 _ db9b31).trans g39
  obtain ⟨z50T, M51, z50a, z50l, z50c, z50R, z50s, X53, hM52, g54, g55, z50N, z50S⟩ := mk3_all ih hr hs X45 hM46 nb1 nb9 nb31 db1b9 db1b31 db9b31 g48 g49 g43
  obtain ⟨M56, q57, g58, kp59, X60, hM61, nx62⟩ := store_t (o := 0) (v := (nd5 5 0 0 0 (.slice z50a z50l.length z50c))) (new := [i64 5, i64 0, i64 0, i64 0, (.slice z50a z50l.length z50c)]) X53 nb9 hM52 dS27 g54 rfl rfl (Nat.zero_le _) (Nat.le_of_ble_eq_true rfl) rfl
  replace g58 : M56.get b9 = some ⟨[i64 5, i64 0, i64 0, i64 0, (.slice z50a z50l.length z50c)], 27, 5, 0, true⟩ := g58
  have hT63 := nt_keep b9 kp59 (by intro id hh; simp only [hidden_cons, hidden_none, or_false] at hh; omega) z50N
  have g64 := (kp59 _ (Ne.symm db9b31)).trans g55
  have hraw := w29_19_raw k n a c l M b1 M2 b9 M10 M20 b31 M32 M41 z50a z50l z50c M51 M56
  have hres := aload_agg (a := ⟨b9, 0, none⟩) dA27 dS27 g58 rfl
  exact Con.qn (Ev.told_cell noNumP mixedP Tryd.func29 q29_ok (by kernel_rfl) rK29 (fun B => specsB_ok (hS29_23 B) (k := [(3, bone (.loop (q29.loopAt 3)) Tryd.f29.ntmps [1, 2, 5, 6] [some (pt b1 0), some (pt b9 0), some (pt b31 0), some (i64 0)] M41 .normal (fr [(2, pt b9 0), (5, pt b31 0)]) M51)]) (fun p hp => by simp only [List.mem_cons, List.not_mem_nil, or_false] at hp; rcases hp with rfl <;> first | exact BlkOk.ran noNumP mixedP z50R (TSub.fr (l := [(2, pt b9 0), (5, pt b31 0)]) z50s))) (fun _ h => blksF_one h) hraw hres (hk (q_eq (by rw [← eb3, ← em4]; kernel_rfl) Nat.one_ne_zero) (hk (q_eq (by rw [← eb11, ← em12]; kernel_rfl) Nat.one_ne_zero) (hk (lC dC3 g16 rfl) (hk (q_call rfl p21 l22 e23) (hk (q_eq (by rw [← eb33, ← em34]; kernel_rfl) Nat.one_ne_zero) (hk (q_st q42) (hk (q_blk rfl) (hk (lA ⟨dA27, dS27⟩ g55 rfl) (hk (q_st q57) hn)))))))))) X60 (NodeAt.ext (M := hidx [(b9, b9 + 1), (0, M.next)] M56) (M' := hidx [(0, M.next)] M56) (fun _ _ h => hidx_mono (H := [(b9, b9 + 1), (0, M.next)]) (H' := [(0, M.next)]) (fun id hh => by have := (Ext.refl M).next; simp only [hidden_cons, hidden_none, or_false] at hh ⊢; omega) h) _ _ hT63) (by first | assumption | exact Small.mk (by simp) (by repeat' first | exact Small.n0 | assumption | refine Small.c ?_ ?_))
theorem hS29_23_41 (B : Nat) : ∀ p ∈ ([(23, pick (Con Tryd.prog [] 23 (Fl g23))), (41, pick (Con Tryd.prog [] 41 (Qn 5)))] : List (FuncId × (List Value → Mem → Option (Value × Mem)))), SpecOk Tryd.prog [] B p.1 p.2 := (fun p hp => by simp only [List.mem_cons, List.not_mem_nil, or_false] at hp; rcases hp with rfl | rfl <;> first | exact Con.ok _)
theorem w29_20_raw (k n : Int) (a : Option Addr) (c : Nat) (l : List DT) (M : Mem) (b1 : Nat) (M2 : Mem) (b9 : Nat) (M10 M20 : Mem) (y31k y31s y31lo y31hi : Int) (y31a : Option Addr) (y31l : List DT) (y31c : Nat) (M34 : Mem) (b45 : Nat) (M46 M56 : Mem) : oT Tryd.prog [] 60 Tryd.f29 q29 [(nd3 k n (.slice a l.length c))] M [ttV 1 (pt b1 0) M2, ttV 3 (pt b9 0) M10, ttL 7 (i64 k), ttV 9 (i64 10) M20, ttL 66 (nd3 k n (.slice a l.length c)), ttV 68 (nd5 y31k y31s y31lo y31hi (.slice y31a y31l.length y31c)) M34, ttV 70 (sli b45 0 1 2) M46, ttS 74 M56] 2 = some (.ret, some (pt b9 0), M56, [.eq (abox Tryd.prog 54 (nd3 k n (.slice a l.length c)) M) (1, .val (pt b1 0), M2), .eq (aalloc Tryd.prog 27 M2) (1, .val (pt b9 0), M10), qL 3 b1 0 M10 (i64 k), qC 23 [i64 k, i64 14] M10 (i64 10) M20, qL 54 b1 0 M20 (nd3 k n (.slice a l.length c)), qC 41 [(nd3 k n (.slice a l.length c)), i64 0] M20 (nd5 y31k y31s y31lo y31hi (.slice y31a y31l.length y31c)) M34, .eq (abuildSlice Tryd.prog 25 1 [(0, (nd5 y31k y31s y31lo y31hi (.slice y31a y31l.length y31c)))] M34) (1, .val (sli b45 0 1 2), M46), qS 27 b9 0 (nd5 6 0 0 0 (sli b45 0 1 2)) M46 M56]) := by kernel_rfl
theorem w29_20 (k n : Int) (a : Option Addr) (c : Nat) (l : List DT) {M : Mem} (hM : MemOk M) {rows : List (List Value)} (ih : IH29 l) (hr : RowsAt 3 M l rows) (hs : SlAt M (.slice a l.length c) l.length rows) (cc0 : modI k 14 = 10) : ∃ v M', Con Tryd.prog [] 29 (Qn 5) [(nd3 k n (.slice a l.length c))] M v M' := by
  obtain ⟨b1, M2, eb3, em4, g5, E6, hM7⟩ := new_t hM ⟨[i64 k, i64 n, (.slice a l.length c)], 54, 3, 0, true⟩
  have nb1 : M.next ≤ b1 := by rw [← eb3]; exact (Ext.refl M).next
  have X8 := (Ext.refl M).trans E6
  obtain ⟨b9, M10, eb11, em12, g13, E14, hM15⟩ := new_t hM7 ⟨[i64 0, i64 0, i64 0, i64 0, sln], 27, 5, 0, true⟩
  have nb9 := nb_of eb11 X8
  have db1b9 := ne_new g5 eb11
  have g16 := E14.old g5
  have X17 := X8.trans E14
  obtain ⟨w18, N19, M20, p21, l22, e23, E24, hM25, Q26, G27⟩ := call_t hM15 (con23 k 14 (by decide))
  have g28 := E24.old g16
  have g29 := E24.old g13
  have ew18 : w18 = i64 10 := by
    have h : i64 (modI k 14) = w18 := Option.some.inj Q26
    rw [← h, cc0]
  subst ew18
  have X30 := X17.trans E24
  have ltb1M20 := Mem.lt_of_get g28
  have ltb9M20 := Mem.lt_of_get g29
  obtain ⟨w32, N33, M34, p35, l36, e37, E38, hM39, Q40, G41⟩ := call_t hM25 (con41 (l := l) (rows := rows) ih 0 (MemOk.log hM25) (RowsAt.Ext X30 hr).log (SlAt.Ext X30 hs).log)
  have g42 := E38.old g28
  have g43 := E38.old g29
  obtain ⟨y31t, y31S, y31q⟩ := Q40
  obtain ⟨y31k, y31s, y31lo, y31hi, y31l, y31a, y31c, y31r, y31e, y31v, _, _, _⟩ := y31q.five
  subst y31v
  have y31T : NodeAt 5 (hidx [(0, M20.next)] M34) y31t _ := NodeAt.ext (M := hid M20.next _) (fun _ _ h => hid_same G41 h) _ _ y31q
  have X44 := X30.trans E38
  obtain ⟨b45, M46, eb47, em48, g49, E50, hM51⟩ := new_t hM39 ⟨[i64 y31k, i64 y31s, i64 y31lo, i64 y31hi, (.slice y31a y31l.length y31c)], 27, 5, 0, true⟩
  have nb45 := nb_of eb47 X44
  have db1b45 := ne_new g42 eb47
  have db9b45 := ne_new g43 eb47
  have hT52 := nt_new eb47 E50 y31T
  have g53 := E50.old g42
  have g54 := E50.old g43
  have X55 := X44.trans E50
  obtain ⟨M56, q57, g58, kp59, X60, hM61, nx62⟩ := store_t (o := 0) (v := (nd5 6 0 0 0 (sli b45 0 1 2))) (new := [i64 6, i64 0, i64 0, i64 0, (sli b45 0 1 2)]) X55 nb9 hM51 dS27 g54 rfl rfl (Nat.zero_le _) (Nat.le_of_ble_eq_true rfl) rfl
  replace g58 : M56.get b9 = some ⟨[i64 6, i64 0, i64 0, i64 0, (sli b45 0 1 2)], 27, 5, 0, true⟩ := g58
  have hT63 := nt_keep b9 kp59 (by intro id hh; simp only [hidden_cons, hidden_none, or_false] at hh; omega) hT52
  have g64 := (kp59 _ db1b9).trans g53
  have g65 := (kp59 _ (Ne.symm db9b45)).trans g49
  have hraw := w29_20_raw k n a c l M b1 M2 b9 M10 M20 y31k y31s y31lo y31hi y31a y31l y31c M34 b45 M46 M56
  have hres := aload_agg (a := ⟨b9, 0, none⟩) dA27 dS27 g58 rfl
  exact Con.qn (Ev.told_cell noNumP mixedP Tryd.func29 q29_ok (by kernel_rfl) rK29 (sK hS29_23_41) (fun _ _ => rfl) hraw hres (hk (q_eq (by rw [← eb3, ← em4]; kernel_rfl) Nat.one_ne_zero) (hk (q_eq (by rw [← eb11, ← em12]; kernel_rfl) Nat.one_ne_zero) (hk (lC dC3 g16 rfl) (hk (q_call rfl p21 l22 e23) (hk (lA ⟨dA54, dS54⟩ g28 rfl) (hk (q_call rfl p35 l36 e37) (hk (q_eq (by rw [← eb47, ← em48]; kernel_rfl) Nat.one_ne_zero) (hk (q_st q57) hn))))))))) X60 (NodeAt.mk5 (M := hidx [(0, M.next)] M56) (l := [y31t]) (rows := [[i64 y31k, i64 y31s, i64 y31lo, i64 y31hi, (.slice y31a y31l.length y31c)]]) 6 0 0 0 ((hid_get (n := M.next)).2 ⟨nb45, g65⟩) rfl rfl (RowsAt.one (NodeAt.ext (M := hidx [(b45, b45 + 1), (0, M20.next)] M56) (M' := hidx [(0, M.next)] M56) (fun _ _ h => hidx_mono (H := [(b45, b45 + 1), (0, M20.next)]) (H' := [(0, M.next)]) (fun id hh => by have := (X30).next; simp only [hidden_cons, hidden_none, or_false] at hh ⊢; omega) h) _ _ hT63)) (by simp)) (by first | assumption | exact Small.mk (by simp) (by repeat' first | exact Small.n0 | assumption | refine Small.c ?_ ?_))
theorem w29_21_raw (k n : Int) (a : Option Addr) (c : Nat) (l : List DT) (M : Mem) (b1 : Nat) (M2 : Mem) (b9 : Nat) (M10 M20 : Mem) (y31k y31s y31lo y31hi : Int) (y31a : Option Addr) (y31l : List DT) (y31c : Nat) (M34 : Mem) (b45 : Nat) (M46 M56 : Mem) : oT Tryd.prog [] 60 Tryd.f29 q29 [(nd3 k n (.slice a l.length c))] M [ttV 1 (pt b1 0) M2, ttV 3 (pt b9 0) M10, ttL 7 (i64 k), ttV 9 (i64 11) M20, ttL 71 (nd3 k n (.slice a l.length c)), ttV 73 (nd5 y31k y31s y31lo y31hi (.slice y31a y31l.length y31c)) M34, ttV 75 (sli b45 0 1 2) M46, ttS 79 M56] 2 = some (.ret, some (pt b9 0), M56, [.eq (abox Tryd.prog 54 (nd3 k n (.slice a l.length c)) M) (1, .val (pt b1 0), M2), .eq (aalloc Tryd.prog 27 M2) (1, .val (pt b9 0), M10), qL 3 b1 0 M10 (i64 k), qC 23 [i64 k, i64 14] M10 (i64 11) M20, qL 54 b1 0 M20 (nd3 k n (.slice a l.length c)), qC 41 [(nd3 k n (.slice a l.length c)), i64 0] M20 (nd5 y31k y31s y31lo y31hi (.slice y31a y31l.length y31c)) M34, .eq (abuildSlice Tryd.prog 25 1 [(0, (nd5 y31k y31s y31lo y31hi (.slice y31a y31l.length y31c)))] M34) (1, .val (sli b45 0 1 2), M46), qS 27 b9 0 (nd5 7 0 0 0 (sli b45 0 1 2)) M46 M56]) := by kernel_rfl
theorem w29_21 (k n : Int) (a : Option Addr) (c : Nat) (l : List DT) {M : Mem} (hM : MemOk M) {rows : List (List Value)} (ih : IH29 l) (hr : RowsAt 3 M l rows) (hs : SlAt M (.slice a l.length c) l.length rows) (cc0 : modI k 14 = 11) : ∃ v M', Con Tryd.prog [] 29 (Qn 5) [(nd3 k n (.slice a l.length c))] M v M' := by
  obtain ⟨b1, M2, eb3, em4, g5, E6, hM7⟩ := new_t hM ⟨[i64 k, i64 n, (.slice a l.length c)], 54, 3, 0, true⟩
  have nb1 : M.next ≤ b1 := by rw [← eb3]; exact (Ext.refl M).next
  have X8 := (Ext.refl M).trans E6
  obtain ⟨b9, M10, eb11, em12, g13, E14, hM15⟩ := new_t hM7 ⟨[i64 0, i64 0, i64 0, i64 0, sln], 27, 5, 0, true⟩
  have nb9 := nb_of eb11 X8
  have db1b9 := ne_new g5 eb11
  have g16 := E14.old g5
  have X17 := X8.trans E14
  obtain ⟨w18, N19, M20, p21, l22, e23, E24, hM25, Q26, G27⟩ := call_t hM15 (con23 k 14 (by decide))
  have g28 := E24.old g16
  have g29 := E24.old g13
  have ew18 : w18 = i64 11 := by
    have h : i64 (modI k 14) = w18 := Option.some.inj Q26
    rw [← h, cc0]
  subst ew18
  have X30 := X17.trans E24
  have ltb1M20 := Mem.lt_of_get g28
  have ltb9M20 := Mem.lt_of_get g29
  obtain ⟨w32, N33, M34, p35, l36, e37, E38, hM39, Q40, G41⟩ := call_t hM25 (con41 (l := l) (rows := rows) ih 0 (MemOk.log hM25) (RowsAt.Ext X30 hr).log (SlAt.Ext X30 hs).log)
  have g42 := E38.old g28
  have g43 := E38.old g29
  obtain ⟨y31t, y31S, y31q⟩ := Q40
  obtain ⟨y31k, y31s, y31lo, y31hi, y31l, y31a, y31c, y31r, y31e, y31v, _, _, _⟩ := y31q.five
  subst y31v
  have y31T : NodeAt 5 (hidx [(0, M20.next)] M34) y31t _ := NodeAt.ext (M := hid M20.next _) (fun _ _ h => hid_same G41 h) _ _ y31q
  have X44 := X30.trans E38
  obtain ⟨b45, M46, eb47, em48, g49, E50, hM51⟩ := new_t hM39 ⟨[i64 y31k, i64 y31s, i64 y31lo, i64 y31hi, (.slice y31a y31l.length y31c)], 27, 5, 0, true⟩
  have nb45 := nb_of eb47 X44
  have db1b45 := ne_new g42 eb47
  have db9b45 := ne_new g43 eb47
  have hT52 := nt_new eb47 E50 y31T
  have g53 := E50.old g42
  have g54 := E50.old g43
  have X55 := X44.trans E50
  obtain ⟨M56, q57, g58, kp59, X60, hM61, nx62⟩ := store_t (o := 0) (v := (nd5 7 0 0 0 (sli b45 0 1 2))) (new := [i64 7, i64 0, i64 0, i64 0, (sli b45 0 1 2)]) X55 nb9 hM51 dS27 g54 rfl rfl (Nat.zero_le _) (Nat.le_of_ble_eq_true rfl) rfl
  replace g58 : M56.get b9 = some ⟨[i64 7, i64 0, i64 0, i64 0, (sli b45 0 1 2)], 27, 5, 0, true⟩ := g58
  have hT63 := nt_keep b9 kp59 (by intro id hh; simp only [hidden_cons, hidden_none, or_false] at hh; omega) hT52
  have g64 := (kp59 _ db1b9).trans g53
  have g65 := (kp59 _ (Ne.symm db9b45)).trans g49
  have hraw := w29_21_raw k n a c l M b1 M2 b9 M10 M20 y31k y31s y31lo y31hi y31a y31l y31c M34 b45 M46 M56
  have hres := aload_agg (a := ⟨b9, 0, none⟩) dA27 dS27 g58 rfl
  exact Con.qn (Ev.told_cell noNumP mixedP Tryd.func29 q29_ok (by kernel_rfl) rK29 (sK hS29_23_41) (fun _ _ => rfl) hraw hres (hk (q_eq (by rw [← eb3, ← em4]; kernel_rfl) Nat.one_ne_zero) (hk (q_eq (by rw [← eb11, ← em12]; kernel_rfl) Nat.one_ne_zero) (hk (lC dC3 g16 rfl) (hk (q_call rfl p21 l22 e23) (hk (lA ⟨dA54, dS54⟩ g28 rfl) (hk (q_call rfl p35 l36 e37) (hk (q_eq (by rw [← eb47, ← em48]; kernel_rfl) Nat.one_ne_zero) (hk (q_st q57) hn))))))))) X60 (NodeAt.mk5 (M := hidx [(0, M.next)] M56) (l := [y31t]) (rows := [[i64 y31k, i64 y31s, i64 y31lo, i64 y31hi, (.slice y31a y31l.length y31c)]]) 7 0 0 0 ((hid_get (n := M.next)).2 ⟨nb45, g65⟩) rfl rfl (RowsAt.one (NodeAt.ext (M := hidx [(b45, b45 + 1), (0, M20.next)] M56) (M' := hidx [(0, M.next)] M56) (fun _ _ h => hidx_mono (H := [(b45, b45 + 1), (0, M20.next)]) (H' := [(0, M.next)]) (fun id hh => by have := (X30).next; simp only [hidden_cons, hidden_none, or_false] at hh ⊢; omega) h) _ _ hT63)) (by simp)) (by first | assumption | exact Small.mk (by simp) (by repeat' first | exact Small.n0 | assumption | refine Small.c ?_ ?_))
theorem w29_22_raw (k n : Int) (a : Option Addr) (c : Nat) (l : List DT) (M : Mem) (b1 : Nat) (M2 : Mem) (b9 : Nat) (M10 M20 : Mem) (y31k y31s y31lo y31hi : Int) (y31a : Option Addr) (y31l : List DT) (y31c : Nat) (M34 : Mem) (b45 : Nat) (M46 M56 : Mem) : oT Tryd.prog [] 60 Tryd.f29 q29 [(nd3 k n (.slice a l.length c))] M [ttV 1 (pt b1 0) M2, ttV 3 (pt b9 0) M10, ttL 7 (i64 k), ttV 9 (i64 12) M20, ttL 76 (nd3 k n (.slice a l.length c)), ttV 78 (nd5 y31k y31s y31lo y31hi (.slice y31a y31l.length y31c)) M34, ttV 80 (sli b45 0 1 2) M46, ttS 84 M56] 2 = some (.ret, some (pt b9 0), M56, [.eq (abox Tryd.prog 54 (nd3 k n (.slice a l.length c)) M) (1, .val (pt b1 0), M2), .eq (aalloc Tryd.prog 27 M2) (1, .val (pt b9 0), M10), qL 3 b1 0 M10 (i64 k), qC 23 [i64 k, i64 14] M10 (i64 12) M20, qL 54 b1 0 M20 (nd3 k n (.slice a l.length c)), qC 41 [(nd3 k n (.slice a l.length c)), i64 0] M20 (nd5 y31k y31s y31lo y31hi (.slice y31a y31l.length y31c)) M34, .eq (abuildSlice Tryd.prog 25 1 [(0, (nd5 y31k y31s y31lo y31hi (.slice y31a y31l.length y31c)))] M34) (1, .val (sli b45 0 1 2), M46), qS 27 b9 0 (nd5 8 0 0 0 (sli b45 0 1 2)) M46 M56]) := by kernel_rfl
theorem w29_22 (k n : Int) (a : Option Addr) (c : Nat) (l : List DT) {M : Mem} (hM : MemOk M) {rows : List (List Value)} (ih : IH29 l) (hr : RowsAt 3 M l rows) (hs : SlAt M (.slice a l.length c) l.length rows) (cc0 : modI k 14 = 12) : ∃ v M', Con Tryd.prog [] 29 (Qn 5) [(nd3 k n (.slice a l.length c))] M v M' := by
  obtain ⟨b1, M2, eb3, em4, g5, E6, hM7⟩ := new_t hM ⟨[i64 k, i64 n, (.slice a l.length c)], 54, 3, 0, true⟩
  have nb1 : M.next ≤ b1 := by rw [← eb3]; exact (Ext.refl M).next
  have X8 := (Ext.refl M).trans E6
  obtain ⟨b9, M10, eb11, em12, g13, E14, hM15⟩ := new_t hM7 ⟨[i64 0, i64 0, i64 0, i64 0, sln], 27, 5, 0, true⟩
  have nb9 := nb_of eb11 X8
  have db1b9 := ne_new g5 eb11
  have g16 := E14.old g5
  have X17 := X8.trans E14
  obtain ⟨w18, N19, M20, p21, l22, e23, E24, hM25, Q26, G27⟩ := call_t hM15 (con23 k 14 (by decide))
  have g28 := E24.old g16
  have g29 := E24.old g13
  have ew18 : w18 = i64 12 := by
    have h : i64 (modI k 14) = w18 := Option.some.inj Q26
    rw [← h, cc0]
  subst ew18
  have X30 := X17.trans E24
  have ltb1M20 := Mem.lt_of_get g28
  have ltb9M20 := Mem.lt_of_get g29
  obtain ⟨w32, N33, M34, p35, l36, e37, E38, hM39, Q40, G41⟩ := call_t hM25 (con41 (l := l) (rows := rows) ih 0 (MemOk.log hM25) (RowsAt.Ext X30 hr).log (SlAt.Ext X30 hs).log)
  have g42 := E38.old g28
  have g43 := E38.old g29
  obtain ⟨y31t, y31S, y31q⟩ := Q40
  obtain ⟨y31k, y31s, y31lo, y31hi, y31l, y31a, y31c, y31r, y31e, y31v, _, _, _⟩ := y31q.five
  subst y31v
  have y31T : NodeAt 5 (hidx [(0, M20.next)] M34) y31t _ := NodeAt.ext (M := hid M20.next _) (fun _ _ h => hid_same G41 h) _ _ y31q
  have X44 := X30.trans E38
  obtain ⟨b45, M46, eb47, em48, g49, E50, hM51⟩ := new_t hM39 ⟨[i64 y31k, i64 y31s, i64 y31lo, i64 y31hi, (.slice y31a y31l.length y31c)], 27, 5, 0, true⟩
  have nb45 := nb_of eb47 X44
  have db1b45 := ne_new g42 eb47
  have db9b45 := ne_new g43 eb47
  have hT52 := nt_new eb47 E50 y31T
  have g53 := E50.old g42
  have g54 := E50.old g43
  have X55 := X44.trans E50
  obtain ⟨M56, q57, g58, kp59, X60, hM61, nx62⟩ := store_t (o := 0) (v := (nd5 8 0 0 0 (sli b45 0 1 2))) (new := [i64 8, i64 0, i64 0, i64 0, (sli b45 0 1 2)]) X55 nb9 hM51 dS27 g54 rfl rfl (Nat.zero_le _) (Nat.le_of_ble_eq_true rfl) rfl
  replace g58 : M56.get b9 = some ⟨[i64 8, i64 0, i64 0, i64 0, (sli b45 0 1 2)], 27, 5, 0, true⟩ := g58
  have hT63 := nt_keep b9 kp59 (by intro id hh; simp only [hidden_cons, hidden_none, or_false] at hh; omega) hT52
  have g64 := (kp59 _ db1b9).trans g53
  have g65 := (kp59 _ (Ne.symm db9b45)).trans g49
  have hraw := w29_22_raw k n a c l M b1 M2 b9 M10 M20 y31k y31s y31lo y31hi y31a y31l y31c M34 b45 M46 M56
  have hres := aload_agg (a := ⟨b9, 0, none⟩) dA27 dS27 g58 rfl
  exact Con.qn (Ev.told_cell noNumP mixedP Tryd.func29 q29_ok (by kernel_rfl) rK29 (sK hS29_23_41) (fun _ _ => rfl) hraw hres (hk (q_eq (by rw [← eb3, ← em4]; kernel_rfl) Nat.one_ne_zero) (hk (q_eq (by rw [← eb11, ← em12]; kernel_rfl) Nat.one_ne_zero) (hk (lC dC3 g16 rfl) (hk (q_call rfl p21 l22 e23) (hk (lA ⟨dA54, dS54⟩ g28 rfl) (hk (q_call rfl p35 l36 e37) (hk (q_eq (by rw [← eb47, ← em48]; kernel_rfl) Nat.one_ne_zero) (hk (q_st q57) hn))))))))) X60 (NodeAt.mk5 (M := hidx [(0, M.next)] M56) (l := [y31t]) (rows := [[i64 y31k, i64 y31s, i64 y31lo, i64 y31hi, (.slice y31a y31l.length y31c)]]) 8 0 0 0 ((hid_get (n := M.next)).2 ⟨nb45, g65⟩) rfl rfl (RowsAt.one (NodeAt.ext (M := hidx [(b45, b45 + 1), (0, M20.next)] M56) (M' := hidx [(0, M.next)] M56) (fun _ _ h => hidx_mono (H := [(b45, b45 + 1), (0, M20.next)]) (H' := [(0, M.next)]) (fun id hh => by have := (X30).next; simp only [hidden_cons, hidden_none, or_false] at hh ⊢; omega) h) _ _ hT63)) (by simp)) (by first | assumption | exact Small.mk (by simp) (by repeat' first | exact Small.n0 | assumption | refine Small.c ?_ ?_))
theorem w29_23_raw (k n : Int) (a : Option Addr) (c : Nat) (l : List DT) (M : Mem) (b1 : Nat) (M2 : Mem) (b9 : Nat) (M10 M20 M33 M53 : Mem) (y65k y65s y65lo y65hi : Int) (y65a : Option Addr) (y65l : List DT) (y65c : Nat) (M68 : Mem) (b80 : Nat) (M81 M92 : Mem) : oT Tryd.prog [] 60 Tryd.f29 q29 [(nd3 k n (.slice a l.length c))] M [ttV 1 (pt b1 0) M2, ttV 3 (pt b9 0) M10, ttL 7 (i64 k), ttV 9 (i64 13) M20, ttL 78 (i64 n), ttV 80 (i64 (modI n 4)) M33, ttL 90 (i64 n), ttV 94 (i64 0) M53, ttL 98 (nd3 k n (.slice a l.length c)), ttV 100 (nd5 y65k y65s y65lo y65hi (.slice y65a y65l.length y65c)) M68, ttV 102 (sli b80 0 1 2) M81, ttS 106 M92] 2 = some (.ret, some (pt b9 0), (Mem.mk M92.blks M92.next M33.hide (M92.log ++ M33.log)), [.eq (abox Tryd.prog 54 (nd3 k n (.slice a l.length c)) M) (1, .val (pt b1 0), M2), .eq (aalloc Tryd.prog 27 M2) (1, .val (pt b9 0), M10), qL 3 b1 0 M10 (i64 k), qC 23 [i64 k, i64 14] M10 (i64 13) M20, qL 3 b1 1 M20 (i64 n), qC 23 [i64 n, i64 4] M20 (i64 (modI n 4)) M33, qL 3 b1 1 (Mem.mk M33.blks M33.next M33.hide []) (i64 n), qC 23 [(i64 (IntKind.wrap .i64 (n.tdiv (4 : Int)))), i64 3] (Mem.mk M33.blks M33.next M33.hide []) (i64 0) M53, qL 54 b1 0 (Mem.mk M53.blks M53.next (hides 0 [⟨6, 0, M53.next, M53.next⟩, ⟨5, 1, M33.next, M53.next⟩, ⟨4, 0, M33.next, M33.next⟩, ⟨3, 1, M33.next, M33.next⟩, ⟨2, 0, M33.next, M33.next⟩, ⟨1, 0, M33.next, M33.next⟩, ⟨0, 0, M33.next, M33.next⟩] ++ M33.hide) M53.log) (nd3 k n (.slice a l.length c)), qT (Nat.blt b1 M33.next), qC 41 [(nd3 k n (.slice a l.length c)), i64 0] (Mem.mk M53.blks M53.next M33.hide M53.log) (nd5 y65k y65s y65lo y65hi (.slice y65a y65l.length y65c)) M68, .eq (abuildSlice Tryd.prog 25 1 [(0, (nd5 y65k y65s y65lo y65hi (.slice y65a y65l.length y65c)))] (Mem.mk M68.blks M68.next M33.hide M68.log)) (1, .val (sli b80 0 1 2), M81), qS 27 b9 0 (nd5 9 0 (modI n 4) (IntKind.wrap .i64 ((modI n 4) + (0 : Int))) (sli b80 0 1 2)) (Mem.mk M81.blks M81.next M33.hide M81.log) M92, qT (apartN [b1] M92.log)]) := by kernel_rfl
theorem w29_23 (k n : Int) (a : Option Addr) (c : Nat) (l : List DT) {M : Mem} (hM : MemOk M) {rows : List (List Value)} (ih : IH29 l) (hr : RowsAt 3 M l rows) (hs : SlAt M (.slice a l.length c) l.length rows) (cc0 : modI k 14 = 13) (cc1 : modI (IntKind.wrap .i64 (n.tdiv (4 : Int))) 3 = 0) : ∃ v M', Con Tryd.prog [] 29 (Qn 5) [(nd3 k n (.slice a l.length c))] M v M' := by
  obtain ⟨b1, M2, eb3, em4, g5, E6, hM7⟩ := new_t hM ⟨[i64 k, i64 n, (.slice a l.length c)], 54, 3, 0, true⟩
  have nb1 : M.next ≤ b1 := by rw [← eb3]; exact (Ext.refl M).next
  have X8 := (Ext.refl M).trans E6
  obtain ⟨b9, M10, eb11, em12, g13, E14, hM15⟩ := new_t hM7 ⟨[i64 0, i64 0, i64 0, i64 0, sln], 27, 5, 0, true⟩
  have nb9 := nb_of eb11 X8
  have db1b9 := ne_new g5 eb11
  have g16 := E14.old g5
  have X17 := X8.trans E14
  obtain ⟨w18, N19, M20, p21, l22, e23, E24, hM25, Q26, G27⟩ := call_t hM15 (con23 k 14 (by decide))
  have g28 := E24.old g16
  have g29 := E24.old g13
  have ew18 : w18 = i64 13 := by
    have h : i64 (modI k 14) = w18 := Option.some.inj Q26
    rw [← h, cc0]
  subst ew18
  have X30 := X17.trans E24
  obtain ⟨w31, N32, M33, p34, l35, e36, E37, hM38, Q39, G40⟩ := call_t hM25 (con23 n 4 (by decide))
  have g41 := E37.old g28
  have g42 := E37.old g29
  have ew31 : w31 = i64 (modI n 4) := (Option.some.inj Q39).symm
  subst ew31
  have X43 := X30.trans E37
  obtain ⟨R44, eR45⟩ : ∃ m : Mem, m = Mem.mk M33.blks M33.next M33.hide [] := ⟨_, rfl⟩
  have X46 : Ext (Mem.mk M.blks M.next M.hide []) R44 := by rw [eR45]; exact Ext.aside (X43)
  have lg47 : R44.log = [] := by rw [eR45]
  have hM48 : MemOk R44 := by rw [eR45]; exact MemOk.log hM38
  have ltb1M33 : b1 < M33.next := Mem.lt_of_get g41
  have g49 : R44.get b1 = some ⟨[i64 k, i64 n, (.slice a l.length c)], 54, 3, 0, true⟩ := by rw [eR45]; exact g41
  have ltb9M33 : b9 < M33.next := Mem.lt_of_get g42
  have g50 : R44.get b9 = some ⟨[i64 0, i64 0, i64 0, i64 0, sln], 27, 5, 0, true⟩ := by rw [eR45]; exact g42
  obtain ⟨w51, N52, M53, p54, l55, e56, E57, hM58, Q59, G60⟩ := call_t hM48 (con23 (IntKind.wrap .i64 (n.tdiv (4 : Int))) 3 (by decide))
  have g61 := E57.old g49
  have g62 := E57.old g50
  have ew51 : w51 = i64 0 := by
    have h : i64 (modI (IntKind.wrap .i64 (n.tdiv (4 : Int))) 3) = w51 := Option.some.inj Q59
    rw [← h, cc1]
  subst ew51
  have lg63 : M53.log = [] := by rw [← e56]; exact lg47
  have X64 := X46.trans E57
  have ltb1M53 := Mem.lt_of_get g61
  have ltb9M53 := Mem.lt_of_get g62
  obtain ⟨w66, N67, M68, p69, l70, e71, E72, hM73, Q74, G75⟩ := call_t hM58 (con41 (l := l) (rows := rows) ih 0 (MemOk.log hM58) (RowsAt.Ext X64 hr.log).log (SlAt.Ext X64 hs.log).log)
  have g76 := E72.old g61
  have g77 := E72.old g62
  obtain ⟨y65t, y65S, y65q⟩ := Q74
  obtain ⟨y65k, y65s, y65lo, y65hi, y65l, y65a, y65c, y65r, y65e, y65v, _, _, _⟩ := y65q.five
  subst y65v
  have y65T : NodeAt 5 (hidx [(0, M53.next)] M68) y65t _ := NodeAt.ext (M := hid M53.next _) (fun _ _ h => hid_same G75 h) _ _ y65q
  have lg78 : M68.log = [] := by rw [← e71]; exact lg63
  have X79 := X64.trans E72
  obtain ⟨b80, M81, eb82, em83, g84, E85, hM86⟩ := new_t hM73 ⟨[i64 y65k, i64 y65s, i64 y65lo, i64 y65hi, (.slice y65a y65l.length y65c)], 27, 5, 0, true⟩
  have nb80 := nb_of eb82 X79
  have db1b80 := ne_new g76 eb82
  have db9b80 := ne_new g77 eb82
  have hT87 := nt_new eb82 E85 y65T
  have g88 := E85.old g76
  have g89 := E85.old g77
  have lg90 : M81.log = [] := by rw [← em83]; exact lg78
  have X91 := X79.trans E85
  obtain ⟨M92, q93, g94, kp95, X96, hM97, nx98⟩ := store_t (o := 0) (v := (nd5 9 0 (modI n 4) (IntKind.wrap .i64 ((modI n 4) + (0 : Int))) (sli b80 0 1 2))) (new := [i64 9, i64 0, (i64 (modI n 4)), (i64 (IntKind.wrap .i64 ((modI n 4) + (0 : Int)))), (sli b80 0 1 2)]) X91 nb9 hM86 dS27 g89 rfl rfl (Nat.zero_le _) (Nat.le_of_ble_eq_true rfl) rfl
  replace g94 : M92.get b9 = some ⟨[i64 9, i64 0, (i64 (modI n 4)), (i64 (IntKind.wrap .i64 ((modI n 4) + (0 : Int)))), (sli b80 0 1 2)], 27, 5, 0, true⟩ := g94
  have hT99 := nt_keep b9 kp95 (by intro id hh; simp only [hidden_cons, hidden_none, or_false] at hh; omega) hT87
  have g100 := (kp95 _ db1b9).trans g88
  have g101 := (kp95 _ (Ne.symm db9b80)).trans g84
  have lg102 : M92.log = [b9] := by rw [nx98, lg90]
  obtain ⟨M103, ef104⟩ : ∃ m : Mem, m = (Mem.mk M92.blks M92.next M92.hide (M92.log ++ M33.log)) := ⟨_, rfl⟩
  have X105 : Ext M M103 := by rw [ef104]; exact Ext.join (X43) (X96)
  have hM106 : MemOk M103 := by rw [ef104]; exact hM97
  have g107 : M103.get b1 = some ⟨[i64 k, i64 n, (.slice a l.length c)], 54, 3, 0, true⟩ := by rw [ef104]; exact g100
  have g108 : M103.get b9 = some ⟨[i64 9, i64 0, (i64 (modI n 4)), (i64 (IntKind.wrap .i64 ((modI n 4) + (0 : Int)))), (sli b80 0 1 2)], 27, 5, 0, true⟩ := by rw [ef104]; exact g94
  have g109 : M103.get b80 = some ⟨[i64 y65k, i64 y65s, i64 y65lo, i64 y65hi, (.slice y65a y65l.length y65c)], 27, 5, 0, true⟩ := by rw [ef104]; exact g101
  have hT110 : NodeAt 5 (hidx [(b80, b80 + 1), (0, M53.next)] M103) y65t (nd5 y65k y65s y65lo y65hi (.slice y65a y65l.length y65c)) := NodeAt.ext (M := hidx [(b80, b80 + 1), (0, M53.next)] M92) (fun _ _ h => by rw [ef104]; exact h) _ _ hT99
  have hraw := w29_23_raw k n a c l M b1 M2 b9 M10 M20 M33 M53 y65k y65s y65lo y65hi y65a y65l y65c M68 b80 M81 M92
  have rw0 : Mem.mk M33.blks M33.next M33.hide [] = R44 := eR45.symm
  have rw1 := mk_eq (X43) (X64)
  have rw2 : Mem.mk M53.blks M53.next (hides 0 [⟨6, 0, M53.next, M53.next⟩, ⟨5, 1, M33.next, M53.next⟩, ⟨4, 0, M33.next, M33.next⟩, ⟨3, 1, M33.next, M33.next⟩, ⟨2, 0, M33.next, M33.next⟩, ⟨1, 0, M33.next, M33.next⟩, ⟨0, 0, M33.next, M33.next⟩] ++ M33.hide) M53.log = hidx (hides 0 [⟨6, 0, M53.next, M53.next⟩, ⟨5, 1, M33.next, M53.next⟩, ⟨4, 0, M33.next, M33.next⟩, ⟨3, 1, M33.next, M33.next⟩, ⟨2, 0, M33.next, M33.next⟩, ⟨1, 0, M33.next, M33.next⟩, ⟨0, 0, M33.next, M33.next⟩]) M53 := by rw [(show M33.hide = M53.hide from ((X43).hide.trans (X64).hide.symm))]; rfl
  have rw3 := mk_eq (X43) (X79)
  have rw4 := mk_eq (X43) (X91)
  have rw5 := mk_eq (X43) (X96)
  have rw6 : (Mem.mk M92.blks M92.next M33.hide (M92.log ++ M33.log)) = (Mem.mk M92.blks M92.next M92.hide (M92.log ++ M33.log)) := by rw [(show M33.hide = M92.hide from ((X43).hide.trans (X96).hide.symm))]
  have rw7 : (Mem.mk M92.blks M92.next M92.hide (M92.log ++ M33.log)) = M103 := ef104.symm
  try rw [rw0] at hraw
  try rw [rw1] at hraw
  try rw [rw2] at hraw
  try rw [rw3] at hraw
  try rw [rw4] at hraw
  try rw [rw5] at hraw
  try rw [rw6] at hraw
  try rw [rw7] at hraw
  have hres := aload_agg (a := ⟨b9, 0, none⟩) dA27 dS27 g108 rfl
  exact Con.qn (Ev.told_cell noNumP mixedP Tryd.func29 q29_ok (by kernel_rfl) rK29 (sK hS29_23_41) (fun _ _ => rfl) hraw hres (hk (q_eq (by rw [← eb3, ← em4]; kernel_rfl) Nat.one_ne_zero) (hk (q_eq (by rw [← eb11, ← em12]; kernel_rfl) Nat.one_ne_zero) (hk (lC dC3 g16 rfl) (hk (q_call rfl p21 l22 e23) (hk (lC dC3 g28 rfl) (hk (q_call rfl p34 l35 e36) (hk (lC dC3 g49 rfl) (hk (q_call rfl p54 l55 e56) (hk (lA ⟨dA54, dS54⟩ (hidx_get.2 ⟨hides_low (by simp; omega), g61⟩) rfl) (hk (q_lt ltb1M33) (hk (q_call rfl p69 l70 e71) (hk (q_eq (by rw [← eb82, ← em83]; kernel_rfl) Nat.one_ne_zero) (hk (q_st q93) (hk (q_apart (by rw [lg102]; simp; omega)) hn))))))))))))))) X105 (NodeAt.mk5 (M := hidx [(0, M.next)] M103) (l := [y65t]) (rows := [[i64 y65k, i64 y65s, i64 y65lo, i64 y65hi, (.slice y65a y65l.length y65c)]]) 9 0 (modI n 4) (IntKind.wrap .i64 ((modI n 4) + (0 : Int))) ((hid_get (n := M.next)).2 ⟨nb80, g109⟩) rfl rfl (RowsAt.one (NodeAt.ext (M := hidx [(b80, b80 + 1), (0, M53.next)] M103) (M' := hidx [(0, M.next)] M103) (fun _ _ h => hidx_mono (H := [(b80, b80 + 1), (0, M53.next)]) (H' := [(0, M.next)]) (fun id hh => by have := (X64).next; simp only [hidden_cons, hidden_none, or_false] at hh ⊢; omega) h) _ _ hT110)) (by simp)) (by first | assumption | exact Small.mk (by simp) (by repeat' first | exact Small.n0 | assumption | refine Small.c ?_ ?_))
theorem w29_24_raw (k n : Int) (a : Option Addr) (c : Nat) (l : List DT) (M : Mem) (b1 : Nat) (M2 : Mem) (b9 : Nat) (M10 M20 M33 M53 : Mem) (y65k y65s y65lo y65hi : Int) (y65a : Option Addr) (y65l : List DT) (y65c : Nat) (M68 : Mem) (b80 : Nat) (M81 M92 : Mem) : oT Tryd.prog [] 60 Tryd.f29 q29 [(nd3 k n (.slice a l.length c))] M [ttV 1 (pt b1 0) M2, ttV 3 (pt b9 0) M10, ttL 7 (i64 k), ttV 9 (i64 13) M20, ttL 78 (i64 n), ttV 80 (i64 (modI n 4)) M33, ttL 90 (i64 n), ttV 94 (i64 1) M53, ttL 98 (nd3 k n (.slice a l.length c)), ttV 100 (nd5 y65k y65s y65lo y65hi (.slice y65a y65l.length y65c)) M68, ttV 102 (sli b80 0 1 2) M81, ttS 106 M92] 2 = some (.ret, some (pt b9 0), (Mem.mk M92.blks M92.next M33.hide (M92.log ++ M33.log)), [.eq (abox Tryd.prog 54 (nd3 k n (.slice a l.length c)) M) (1, .val (pt b1 0), M2), .eq (aalloc Tryd.prog 27 M2) (1, .val (pt b9 0), M10), qL 3 b1 0 M10 (i64 k), qC 23 [i64 k, i64 14] M10 (i64 13) M20, qL 3 b1 1 M20 (i64 n), qC 23 [i64 n, i64 4] M20 (i64 (modI n 4)) M33, qL 3 b1 1 (Mem.mk M33.blks M33.next M33.hide []) (i64 n), qC 23 [(i64 (IntKind.wrap .i64 (n.tdiv (4 : Int)))), i64 3] (Mem.mk M33.blks M33.next M33.hide []) (i64 1) M53, qL 54 b1 0 (Mem.mk M53.blks M53.next (hides 0 [⟨6, 0, M53.next, M53.next⟩, ⟨5, 1, M33.next, M53.next⟩, ⟨4, 0, M33.next, M33.next⟩, ⟨3, 1, M33.next, M33.next⟩, ⟨2, 0, M33.next, M33.next⟩, ⟨1, 0, M33.next, M33.next⟩, ⟨0, 0, M33.next, M33.next⟩] ++ M33.hide) M53.log) (nd3 k n (.slice a l.length c)), qT (Nat.blt b1 M33.next), qC 41 [(nd3 k n (.slice a l.length c)), i64 0] (Mem.mk M53.blks M53.next M33.hide M53.log) (nd5 y65k y65s y65lo y65hi (.slice y65a y65l.length y65c)) M68, .eq (abuildSlice Tryd.prog 25 1 [(0, (nd5 y65k y65s y65lo y65hi (.slice y65a y65l.length y65c)))] (Mem.mk M68.blks M68.next M33.hide M68.log)) (1, .val (sli b80 0 1 2), M81), qS 27 b9 0 (nd5 9 0 (modI n 4) (IntKind.wrap .i64 ((modI n 4) + (1 : Int))) (sli b80 0 1 2)) (Mem.mk M81.blks M81.next M33.hide M81.log) M92, qT (apartN [b1] M92.log)]) := by kernel_rfl
theorem w29_24 (k n : Int) (a : Option Addr) (c : Nat) (l : List DT) {M : Mem} (hM : MemOk M) {rows : List (List Value)} (ih : IH29 l) (hr : RowsAt 3 M l rows) (hs : SlAt M (.slice a l.length c) l.length rows) (cc0 : modI k 14 = 13) (cc1 : modI (IntKind.wrap .i64 (n.tdiv (4 : Int))) 3 = 1) : ∃ v M', Con Tryd.prog [] 29 (Qn 5) [(nd3 k n (.slice a l.length c))] M v M' := by
  obtain ⟨b1, M2, eb3, em4, g5, E6, hM7⟩ := new_t hM ⟨[i64 k, i64 n, (.slice a l.length c)], 54, 3, 0, true⟩
  have nb1 : M.next ≤ b1 := by rw [← eb3]; exact (Ext.refl M).next
  have X8 := (Ext.refl M).trans E6
  obtain ⟨b9, M10, eb11, em12, g13, E14, hM15⟩ := new_t hM7 ⟨[i64 0, i64 0, i64 0, i64 0, sln], 27, 5, 0, true⟩
  have nb9 := nb_of eb11 X8
  have db1b9 := ne_new g5 eb11
  have g16 := E14.old g5
  have X17 := X8.trans E14
  obtain ⟨w18, N19, M20, p21, l22, e23, E24, hM25, Q26, G27⟩ := call_t hM15 (con23 k 14 (by decide))
  have g28 := E24.old g16
  have g29 := E24.old g13
  have ew18 : w18 = i64 13 := by
    have h : i64 (modI k 14) = w18 := Option.some.inj Q26
    rw [← h, cc0]
  subst ew18
  have X30 := X17.trans E24
  obtain ⟨w31, N32, M33, p34, l35, e36, E37, hM38, Q39, G40⟩ := call_t hM25 (con23 n 4 (by decide))
  have g41 := E37.old g28
  have g42 := E37.old g29
  have ew31 : w31 = i64 (modI n 4) := (Option.some.inj Q39).symm
  subst ew31
  have X43 := X30.trans E37
  obtain ⟨R44, eR45⟩ : ∃ m : Mem, m = Mem.mk M33.blks M33.next M33.hide [] := ⟨_, rfl⟩
  have X46 : Ext (Mem.mk M.blks M.next M.hide []) R44 := by rw [eR45]; exact Ext.aside (X43)
  have lg47 : R44.log = [] := by rw [eR45]
  have hM48 : MemOk R44 := by rw [eR45]; exact MemOk.log hM38
  have ltb1M33 : b1 < M33.next := Mem.lt_of_get g41
  have g49 : R44.get b1 = some ⟨[i64 k, i64 n, (.slice a l.length c)], 54, 3, 0, true⟩ := by rw [eR45]; exact g41
  have ltb9M33 : b9 < M33.next := Mem.lt_of_get g42
  have g50 : R44.get b9 = some ⟨[i64 0, i64 0, i64 0, i64 0, sln], 27, 5, 0, true⟩ := by rw [eR45]; exact g42
  obtain ⟨w51, N52, M53, p54, l55, e56, E57, hM58, Q59, G60⟩ := call_t hM48 (con23 (IntKind.wrap .i64 (n.tdiv (4 : Int))) 3 (by decide))
  have g61 := E57.old g49
  have g62 := E57.old g50
  have ew51 : w51 = i64 1 := by
    have h : i64 (modI (IntKind.wrap .i64 (n.tdiv (4 : Int))) 3) = w51 := Option.some.inj Q59
    rw [← h, cc1]
  subst ew51
  have lg63 : M53.log = [] := by rw [← e56]; exact lg47
  have X64 := X46.trans E57
  have ltb1M53 := Mem.lt_of_get g61
  have ltb9M53 := Mem.lt_of_get g62
  obtain ⟨w66, N67, M68, p69, l70, e71, E72, hM73, Q74, G75⟩ := call_t hM58 (con41 (l := l) (rows := rows) ih 0 (MemOk.log hM58) (RowsAt.Ext X64 hr.log).log (SlAt.Ext X64 hs.log).log)
  have g76 := E72.old g61
  have g77 := E72.old g62
  obtain ⟨y65t, y65S, y65q⟩ := Q74
  obtain ⟨y65k, y65s, y65lo, y65hi, y65l, y65a, y65c, y65r, y65e, y65v, _, _, _⟩ := y65q.five
  subst y65v
  have y65T : NodeAt 5 (hidx [(0, M53.next)] M68) y65t _ := NodeAt.ext (M := hid M53.next _) (fun _ _ h => hid_same G75 h) _ _ y65q
  have lg78 : M68.log = [] := by rw [← e71]; exact lg63
  have X79 := X64.trans E72
  obtain ⟨b80, M81, eb82, em83, g84, E85, hM86⟩ := new_t hM73 ⟨[i64 y65k, i64 y65s, i64 y65lo, i64 y65hi, (.slice y65a y65l.length y65c)], 27, 5, 0, true⟩
  have nb80 := nb_of eb82 X79
  have db1b80 := ne_new g76 eb82
  have db9b80 := ne_new g77 eb82
  have hT87 := nt_new eb82 E85 y65T
  have g88 := E85.old g76
  have g89 := E85.old g77
  have lg90 : M81.log = [] := by rw [← em83]; exact lg78
  have X91 := X79.trans E85
  obtain ⟨M92, q93, g94, kp95, X96, hM97, nx98⟩ := store_t (o := 0) (v := (nd5 9 0 (modI n 4) (IntKind.wrap .i64 ((modI n 4) + (1 : Int))) (sli b80 0 1 2))) (new := [i64 9, i64 0, (i64 (modI n 4)), (i64 (IntKind.wrap .i64 ((modI n 4) + (1 : Int)))), (sli b80 0 1 2)]) X91 nb9 hM86 dS27 g89 rfl rfl (Nat.zero_le _) (Nat.le_of_ble_eq_true rfl) rfl
  replace g94 : M92.get b9 = some ⟨[i64 9, i64 0, (i64 (modI n 4)), (i64 (IntKind.wrap .i64 ((modI n 4) + (1 : Int)))), (sli b80 0 1 2)], 27, 5, 0, true⟩ := g94
  have hT99 := nt_keep b9 kp95 (by intro id hh; simp only [hidden_cons, hidden_none, or_false] at hh; omega) hT87
  have g100 := (kp95 _ db1b9).trans g88
  have g101 := (kp95 _ (Ne.symm db9b80)).trans g84
  have lg102 : M92.log = [b9] := by rw [nx98, lg90]
  obtain ⟨M103, ef104⟩ : ∃ m : Mem, m = (Mem.mk M92.blks M92.next M92.hide (M92.log ++ M33.log)) := ⟨_, rfl⟩
  have X105 : Ext M M103 := by rw [ef104]; exact Ext.join (X43) (X96)
  have hM106 : MemOk M103 := by rw [ef104]; exact hM97
  have g107 : M103.get b1 = some ⟨[i64 k, i64 n, (.slice a l.length c)], 54, 3, 0, true⟩ := by rw [ef104]; exact g100
  have g108 : M103.get b9 = some ⟨[i64 9, i64 0, (i64 (modI n 4)), (i64 (IntKind.wrap .i64 ((modI n 4) + (1 : Int)))), (sli b80 0 1 2)], 27, 5, 0, true⟩ := by rw [ef104]; exact g94
  have g109 : M103.get b80 = some ⟨[i64 y65k, i64 y65s, i64 y65lo, i64 y65hi, (.slice y65a y65l.length y65c)], 27, 5, 0, true⟩ := by rw [ef104]; exact g101
  have hT110 : NodeAt 5 (hidx [(b80, b80 + 1), (0, M53.next)] M103) y65t (nd5 y65k y65s y65lo y65hi (.slice y65a y65l.length y65c)) := NodeAt.ext (M := hidx [(b80, b80 + 1), (0, M53.next)] M92) (fun _ _ h => by rw [ef104]; exact h) _ _ hT99
  have hraw := w29_24_raw k n a c l M b1 M2 b9 M10 M20 M33 M53 y65k y65s y65lo y65hi y65a y65l y65c M68 b80 M81 M92
  have rw0 : Mem.mk M33.blks M33.next M33.hide [] = R44 := eR45.symm
  have rw1 := mk_eq (X43) (X64)
  have rw2 : Mem.mk M53.blks M53.next (hides 0 [⟨6, 0, M53.next, M53.next⟩, ⟨5, 1, M33.next, M53.next⟩, ⟨4, 0, M33.next, M33.next⟩, ⟨3, 1, M33.next, M33.next⟩, ⟨2, 0, M33.next, M33.next⟩, ⟨1, 0, M33.next, M33.next⟩, ⟨0, 0, M33.next, M33.next⟩] ++ M33.hide) M53.log = hidx (hides 0 [⟨6, 0, M53.next, M53.next⟩, ⟨5, 1, M33.next, M53.next⟩, ⟨4, 0, M33.next, M33.next⟩, ⟨3, 1, M33.next, M33.next⟩, ⟨2, 0, M33.next, M33.next⟩, ⟨1, 0, M33.next, M33.next⟩, ⟨0, 0, M33.next, M33.next⟩]) M53 := by rw [(show M33.hide = M53.hide from ((X43).hide.trans (X64).hide.symm))]; rfl
  have rw3 := mk_eq (X43) (X79)
  have rw4 := mk_eq (X43) (X91)
  have rw5 := mk_eq (X43) (X96)
  have rw6 : (Mem.mk M92.blks M92.next M33.hide (M92.log ++ M33.log)) = (Mem.mk M92.blks M92.next M92.hide (M92.log ++ M33.log)) := by rw [(show M33.hide = M92.hide from ((X43).hide.trans (X96).hide.symm))]
  have rw7 : (Mem.mk M92.blks M92.next M92.hide (M92.log ++ M33.log)) = M103 := ef104.symm
  try rw [rw0] at hraw
  try rw [rw1] at hraw
  try rw [rw2] at hraw
  try rw [rw3] at hraw
  try rw [rw4] at hraw
  try rw [rw5] at hraw
  try rw [rw6] at hraw
  try rw [rw7] at hraw
  have hres := aload_agg (a := ⟨b9, 0, none⟩) dA27 dS27 g108 rfl
  exact Con.qn (Ev.told_cell noNumP mixedP Tryd.func29 q29_ok (by kernel_rfl) rK29 (sK hS29_23_41) (fun _ _ => rfl) hraw hres (hk (q_eq (by rw [← eb3, ← em4]; kernel_rfl) Nat.one_ne_zero) (hk (q_eq (by rw [← eb11, ← em12]; kernel_rfl) Nat.one_ne_zero) (hk (lC dC3 g16 rfl) (hk (q_call rfl p21 l22 e23) (hk (lC dC3 g28 rfl) (hk (q_call rfl p34 l35 e36) (hk (lC dC3 g49 rfl) (hk (q_call rfl p54 l55 e56) (hk (lA ⟨dA54, dS54⟩ (hidx_get.2 ⟨hides_low (by simp; omega), g61⟩) rfl) (hk (q_lt ltb1M33) (hk (q_call rfl p69 l70 e71) (hk (q_eq (by rw [← eb82, ← em83]; kernel_rfl) Nat.one_ne_zero) (hk (q_st q93) (hk (q_apart (by rw [lg102]; simp; omega)) hn))))))))))))))) X105 (NodeAt.mk5 (M := hidx [(0, M.next)] M103) (l := [y65t]) (rows := [[i64 y65k, i64 y65s, i64 y65lo, i64 y65hi, (.slice y65a y65l.length y65c)]]) 9 0 (modI n 4) (IntKind.wrap .i64 ((modI n 4) + (1 : Int))) ((hid_get (n := M.next)).2 ⟨nb80, g109⟩) rfl rfl (RowsAt.one (NodeAt.ext (M := hidx [(b80, b80 + 1), (0, M53.next)] M103) (M' := hidx [(0, M.next)] M103) (fun _ _ h => hidx_mono (H := [(b80, b80 + 1), (0, M53.next)]) (H' := [(0, M.next)]) (fun id hh => by have := (X64).next; simp only [hidden_cons, hidden_none, or_false] at hh ⊢; omega) h) _ _ hT110)) (by simp)) (by first | assumption | exact Small.mk (by simp) (by repeat' first | exact Small.n0 | assumption | refine Small.c ?_ ?_))
theorem w29_25_raw (k n : Int) (a : Option Addr) (c : Nat) (l : List DT) (M : Mem) (b1 : Nat) (M2 : Mem) (b9 : Nat) (M10 M20 M33 M53 : Mem) (y65k y65s y65lo y65hi : Int) (y65a : Option Addr) (y65l : List DT) (y65c : Nat) (M68 : Mem) (b80 : Nat) (M81 M92 : Mem) : oT Tryd.prog [] 60 Tryd.f29 q29 [(nd3 k n (.slice a l.length c))] M [ttV 1 (pt b1 0) M2, ttV 3 (pt b9 0) M10, ttL 7 (i64 k), ttV 9 (i64 13) M20, ttL 78 (i64 n), ttV 80 (i64 (modI n 4)) M33, ttL 90 (i64 n), ttV 94 (i64 2) M53, ttL 98 (nd3 k n (.slice a l.length c)), ttV 100 (nd5 y65k y65s y65lo y65hi (.slice y65a y65l.length y65c)) M68, ttV 102 (sli b80 0 1 2) M81, ttS 106 M92] 2 = some (.ret, some (pt b9 0), (Mem.mk M92.blks M92.next M33.hide (M92.log ++ M33.log)), [.eq (abox Tryd.prog 54 (nd3 k n (.slice a l.length c)) M) (1, .val (pt b1 0), M2), .eq (aalloc Tryd.prog 27 M2) (1, .val (pt b9 0), M10), qL 3 b1 0 M10 (i64 k), qC 23 [i64 k, i64 14] M10 (i64 13) M20, qL 3 b1 1 M20 (i64 n), qC 23 [i64 n, i64 4] M20 (i64 (modI n 4)) M33, qL 3 b1 1 (Mem.mk M33.blks M33.next M33.hide []) (i64 n), qC 23 [(i64 (IntKind.wrap .i64 (n.tdiv (4 : Int)))), i64 3] (Mem.mk M33.blks M33.next M33.hide []) (i64 2) M53, qL 54 b1 0 (Mem.mk M53.blks M53.next (hides 0 [⟨6, 0, M53.next, M53.next⟩, ⟨5, 1, M33.next, M53.next⟩, ⟨4, 0, M33.next, M33.next⟩, ⟨3, 1, M33.next, M33.next⟩, ⟨2, 0, M33.next, M33.next⟩, ⟨1, 0, M33.next, M33.next⟩, ⟨0, 0, M33.next, M33.next⟩] ++ M33.hide) M53.log) (nd3 k n (.slice a l.length c)), qT (Nat.blt b1 M33.next), qC 41 [(nd3 k n (.slice a l.length c)), i64 0] (Mem.mk M53.blks M53.next M33.hide M53.log) (nd5 y65k y65s y65lo y65hi (.slice y65a y65l.length y65c)) M68, .eq (abuildSlice Tryd.prog 25 1 [(0, (nd5 y65k y65s y65lo y65hi (.slice y65a y65l.length y65c)))] (Mem.mk M68.blks M68.next M33.hide M68.log)) (1, .val (sli b80 0 1 2), M81), qS 27 b9 0 (nd5 9 0 (modI n 4) (IntKind.wrap .i64 ((modI n 4) + (2 : Int))) (sli b80 0 1 2)) (Mem.mk M81.blks M81.next M33.hide M81.log) M92, qT (apartN [b1] M92.log)]) := by kernel_rfl
theorem w29_25 (k n : Int) (a : Option Addr) (c : Nat) (l : List DT) {M : Mem} (hM : MemOk M) {rows : List (List Value)} (ih : IH29 l) (hr : RowsAt 3 M l rows) (hs : SlAt M (.slice a l.length c) l.length rows) (cc0 : modI k 14 = 13) (cc1 : modI (IntKind.wrap .i64 (n.tdiv (4 : Int))) 3 = 2) : ∃ v M', Con Tryd.prog [] 29 (Qn 5) [(nd3 k n (.slice a l.length c))] M v M' := by
  obtain ⟨b1, M2, eb3, em4, g5, E6, hM7⟩ := new_t hM ⟨[i64 k, i64 n, (.slice a l.length c)], 54, 3, 0, true⟩
  have nb1 : M.next ≤ b1 := by rw [← eb3]; exact (Ext.refl M).next
  have X8 := (Ext.refl M).trans E6
  obtain ⟨b9, M10, eb11, em12, g13, E14, hM15⟩ := new_t hM7 ⟨[i64 0, i64 0, i64 0, i64 0, sln], 27, 5, 0, true⟩
  have nb9 := nb_of eb11 X8
  have db1b9 := ne_new g5 eb11
  have g16 := E14.old g5
  have X17 := X8.trans E14
  obtain ⟨w18, N19, M20, p21, l22, e23, E24, hM25, Q26, G27⟩ := call_t hM15 (con23 k 14 (by decide))
  have g28 := E24.old g16
  have g29 := E24.old g13
  have ew18 : w18 = i64 13 := by
    have h : i64 (modI k 14) = w18 := Option.some.inj Q26
    rw [← h, cc0]
  subst ew18
  have X30 := X17.trans E24
  obtain ⟨w31, N32, M33, p34, l35, e36, E37, hM38, Q39, G40⟩ := call_t hM25 (con23 n 4 (by decide))
  have g41 := E37.old g28
  have g42 := E37.old g29
  have ew31 : w31 = i64 (modI n 4) := (Option.some.inj Q39).symm
  subst ew31
  have X43 := X30.trans E37
  obtain ⟨R44, eR45⟩ : ∃ m : Mem, m = Mem.mk M33.blks M33.next M33.hide [] := ⟨_, rfl⟩
  have X46 : Ext (Mem.mk M.blks M.next M.hide []) R44 := by rw [eR45]; exact Ext.aside (X43)
  have lg47 : R44.log = [] := by rw [eR45]
  have hM48 : MemOk R44 := by rw [eR45]; exact MemOk.log hM38
  have ltb1M33 : b1 < M33.next := Mem.lt_of_get g41
  have g49 : R44.get b1 = some ⟨[i64 k, i64 n, (.slice a l.length c)], 54, 3, 0, true⟩ := by rw [eR45]; exact g41
  have ltb9M33 : b9 < M33.next := Mem.lt_of_get g42
  have g50 : R44.get b9 = some ⟨[i64 0, i64 0, i64 0, i64 0, sln], 27, 5, 0, true⟩ := by rw [eR45]; exact g42
  obtain ⟨w51, N52, M53, p54, l55, e56, E57, hM58, Q59, G60⟩ := call_t hM48 (con23 (IntKind.wrap .i64 (n.tdiv (4 : Int))) 3 (by decide))
  have g61 := E57.old g49
  have g62 := E57.old g50
  have ew51 : w51 = i64 2 := by
    have h : i64 (modI (IntKind.wrap .i64 (n.tdiv (4 : Int))) 3) = w51 := Option.some.inj Q59
    rw [← h, cc1]
  subst ew51
  have lg63 : M53.log = [] := by rw [← e56]; exact lg47
  have X64 := X46.trans E57
  have ltb1M53 := Mem.lt_of_get g61
  have ltb9M53 := Mem.lt_of_get g62
  obtain ⟨w66, N67, M68, p69, l70, e71, E72, hM73, Q74, G75⟩ := call_t hM58 (con41 (l := l) (rows := rows) ih 0 (MemOk.log hM58) (RowsAt.Ext X64 hr.log).log (SlAt.Ext X64 hs.log).log)
  have g76 := E72.old g61
  have g77 := E72.old g62
  obtain ⟨y65t, y65S, y65q⟩ := Q74
  obtain ⟨y65k, y65s, y65lo, y65hi, y65l, y65a, y65c, y65r, y65e, y65v, _, _, _⟩ := y65q.five
  subst y65v
  have y65T : NodeAt 5 (hidx [(0, M53.next)] M68) y65t _ := NodeAt.ext (M := hid M53.next _) (fun _ _ h => hid_same G75 h) _ _ y65q
  have lg78 : M68.log = [] := by rw [← e71]; exact lg63
  have X79 := X64.trans E72
  obtain ⟨b80, M81, eb82, em83, g84, E85, hM86⟩ := new_t hM73 ⟨[i64 y65k, i64 y65s, i64 y65lo, i64 y65hi, (.slice y65a y65l.length y65c)], 27, 5, 0, true⟩
  have nb80 := nb_of eb82 X79
  have db1b80 := ne_new g76 eb82
  have db9b80 := ne_new g77 eb82
  have hT87 := nt_new eb82 E85 y65T
  have g88 := E85.old g76
  have g89 := E85.old g77
  have lg90 : M81.log = [] := by rw [← em83]; exact lg78
  have X91 := X79.trans E85
  obtain ⟨M92, q93, g94, kp95, X96, hM97, nx98⟩ := store_t (o := 0) (v := (nd5 9 0 (modI n 4) (IntKind.wrap .i64 ((modI n 4) + (2 : Int))) (sli b80 0 1 2))) (new := [i64 9, i64 0, (i64 (modI n 4)), (i64 (IntKind.wrap .i64 ((modI n 4) + (2 : Int)))), (sli b80 0 1 2)]) X91 nb9 hM86 dS27 g89 rfl rfl (Nat.zero_le _) (Nat.le_of_ble_eq_true rfl) rfl
  replace g94 : M92.get b9 = some ⟨[i64 9, i64 0, (i64 (modI n 4)), (i64 (IntKind.wrap .i64 ((modI n 4) + (2 : Int)))), (sli b80 0 1 2)], 27, 5, 0, true⟩ := g94
  have hT99 := nt_keep b9 kp95 (by intro id hh; simp only [hidden_cons, hidden_none, or_false] at hh; omega) hT87
  have g100 := (kp95 _ db1b9).trans g88
  have g101 := (kp95 _ (Ne.symm db9b80)).trans g84
  have lg102 : M92.log = [b9] := by rw [nx98, lg90]
  obtain ⟨M103, ef104⟩ : ∃ m : Mem, m = (Mem.mk M92.blks M92.next M92.hide (M92.log ++ M33.log)) := ⟨_, rfl⟩
  have X105 : Ext M M103 := by rw [ef104]; exact Ext.join (X43) (X96)
  have hM106 : MemOk M103 := by rw [ef104]; exact hM97
  have g107 : M103.get b1 = some ⟨[i64 k, i64 n, (.slice a l.length c)], 54, 3, 0, true⟩ := by rw [ef104]; exact g100
  have g108 : M103.get b9 = some ⟨[i64 9, i64 0, (i64 (modI n 4)), (i64 (IntKind.wrap .i64 ((modI n 4) + (2 : Int)))), (sli b80 0 1 2)], 27, 5, 0, true⟩ := by rw [ef104]; exact g94
  have g109 : M103.get b80 = some ⟨[i64 y65k, i64 y65s, i64 y65lo, i64 y65hi, (.slice y65a y65l.length y65c)], 27, 5, 0, true⟩ := by rw [ef104]; exact g101
  have hT110 : NodeAt 5 (hidx [(b80, b80 + 1), (0, M53.next)] M103) y65t (nd5 y65k y65s y65lo y65hi (.slice y65a y65l.length y65c)) := NodeAt.ext (M := hidx [(b80, b80 + 1), (0, M53.next)] M92) (fun _ _ h => by rw [ef104]; exact h) _ _ hT99
  have hraw := w29_25_raw k n a c l M b1 M2 b9 M10 M20 M33 M53 y65k y65s y65lo y65hi y65a y65l y65c M68 b80 M81 M92
  have rw0 : Mem.mk M33.blks M33.next M33.hide [] = R44 := eR45.symm
  have rw1 := mk_eq (X43) (X64)
  have rw2 : Mem.mk M53.blks M53.next (hides 0 [⟨6, 0, M53.next, M53.next⟩, ⟨5, 1, M33.next, M53.next⟩, ⟨4, 0, M33.next, M33.next⟩, ⟨3, 1, M33.next, M33.next⟩, ⟨2, 0, M33.next, M33.next⟩, ⟨1, 0, M33.next, M33.next⟩, ⟨0, 0, M33.next, M33.next⟩] ++ M33.hide) M53.log = hidx (hides 0 [⟨6, 0, M53.next, M53.next⟩, ⟨5, 1, M33.next, M53.next⟩, ⟨4, 0, M33.next, M33.next⟩, ⟨3, 1, M33.next, M33.next⟩, ⟨2, 0, M33.next, M33.next⟩, ⟨1, 0, M33.next, M33.next⟩, ⟨0, 0, M33.next, M33.next⟩]) M53 := by rw [(show M33.hide = M53.hide from ((X43).hide.trans (X64).hide.symm))]; rfl
  have rw3 := mk_eq (X43) (X79)
  have rw4 := mk_eq (X43) (X91)
  have rw5 := mk_eq (X43) (X96)
  have rw6 : (Mem.mk M92.blks M92.next M33.hide (M92.log ++ M33.log)) = (Mem.mk M92.blks M92.next M92.hide (M92.log ++ M33.log)) := by rw [(show M33.hide = M92.hide from ((X43).hide.trans (X96).hide.symm))]
  have rw7 : (Mem.mk M92.blks M92.next M92.hide (M92.log ++ M33.log)) = M103 := ef104.symm
  try rw [rw0] at hraw
  try rw [rw1] at hraw
  try rw [rw2] at hraw
  try rw [rw3] at hraw
  try rw [rw4] at hraw
  try rw [rw5] at hraw
  try rw [rw6] at hraw
  try rw [rw7] at hraw
  have hres := aload_agg (a := ⟨b9, 0, none⟩) dA27 dS27 g108 rfl
  exact Con.qn (Ev.told_cell noNumP mixedP Tryd.func29 q29_ok (by kernel_rfl) rK29 (sK hS29_23_41) (fun _ _ => rfl) hraw hres (hk (q_eq (by rw [← eb3, ← em4]; kernel_rfl) Nat.one_ne_zero) (hk (q_eq (by rw [← eb11, ← em12]; kernel_rfl) Nat.one_ne_zero) (hk (lC dC3 g16 rfl) (hk (q_call rfl p21 l22 e23) (hk (lC dC3 g28 rfl) (hk (q_call rfl p34 l35 e36) (hk (lC dC3 g49 rfl) (hk (q_call rfl p54 l55 e56) (hk (lA ⟨dA54, dS54⟩ (hidx_get.2 ⟨hides_low (by simp; omega), g61⟩) rfl) (hk (q_lt ltb1M33) (hk (q_call rfl p69 l70 e71) (hk (q_eq (by rw [← eb82, ← em83]; kernel_rfl) Nat.one_ne_zero) (hk (q_st q93) (hk (q_apart (by rw [lg102]; simp; omega)) hn))))))))))))))) X105 (NodeAt.mk5 (M := hidx [(0, M.next)] M103) (l := [y65t]) (rows := [[i64 y65k, i64 y65s, i64 y65lo, i64 y65hi, (.slice y65a y65l.length y65c)]]) 9 0 (modI n 4) (IntKind.wrap .i64 ((modI n 4) + (2 : Int))) ((hid_get (n := M.next)).2 ⟨nb80, g109⟩) rfl rfl (RowsAt.one (NodeAt.ext (M := hidx [(b80, b80 + 1), (0, M53.next)] M103) (M' := hidx [(0, M.next)] M103) (fun _ _ h => hidx_mono (H := [(b80, b80 + 1), (0, M53.next)]) (H' := [(0, M.next)]) (fun id hh => by have := (X64).next; simp only [hidden_cons, hidden_none, or_false] at hh ⊢; omega) h) _ _ hT110)) (by simp)) (by first | assumption | exact Small.mk (by simp) (by repeat' first | exact Small.n0 | assumption | refine Small.c ?_ ?_))
theorem con29 : ∀ (t : DT) {M : Mem} {v : Value}, MemOk M → NodeAt 3 M t v → ∃ v' M', Con Tryd.prog [] 29 (Qn 5) [v] M v' M'
  | t, M, v, hM, hN => by
    obtain ⟨k, n, l, a, c, rows, ht, rfl, hr, hs, hlen⟩ := hN.three
    have ih : ∀ t ∈ l, ∀ {M v}, MemOk M → NodeAt 3 M t v → ∃ v' M', Con Tryd.prog [] 29 (Qn 5) [v] M v' M' := fun t' ht' => con29 t'
    clear hN
    obtain ⟨j, hj, e⟩ := modI_cases (x := k) (n := 14) (by decide)
    match j, hj with
    | 0, _ => exact w29_0 k n a c l hM ih hr hs e
    | 1, _ => exact w29_1 k n a c l hM ih hr hs e
    | 2, _ =>
      obtain ⟨i, hi, e2⟩ := modI_cases (x := n) (n := 5) (by decide)
      match i, hi with
      | 0, _ => exact w29_2 k n a c l hM ih hr hs e e2
      | 1, _ => exact w29_3 k n a c l hM ih hr hs e e2
      | 2, _ => exact w29_4 k n a c l hM ih hr hs e e2
      | 3, _ => exact w29_5 k n a c l hM ih hr hs e e2
      | 4, _ => exact w29_6 k n a c l hM ih hr hs e e2
    | 3, _ =>
      obtain ⟨i, hi, e2⟩ := modI_cases (x := n) (n := 5) (by decide)
      match i, hi with
      | 0, _ => exact w29_7 k n a c l hM ih hr hs e e2
      | 1, _ => exact w29_8 k n a c l hM ih hr hs e e2
      | 2, _ => exact w29_9 k n a c l hM ih hr hs e e2
      | 3, _ => exact w29_10 k n a c l hM ih hr hs e e2
      | 4, _ => exact w29_11 k n a c l hM ih hr hs e e2
    | 4, _ =>
      obtain ⟨i, hi, e2⟩ := modI_cases (x := n) (n := 3) (by decide)
      match i, hi with
      | 0, _ => exact w29_12 k n a c l hM ih hr hs e e2
      | 1, _ => exact w29_13 k n a c l hM ih hr hs e e2
      | 2, _ => exact w29_14 k n a c l hM ih hr hs e e2
    | 5, _ => exact w29_15 k n a c l hM ih hr hs e
    | 6, _ => exact w29_16 k n a c l hM ih hr hs e
    | 7, _ => exact w29_17 k n a c l hM ih hr hs e
    | 8, _ => exact w29_18 k n a c l hM ih hr hs e
    | 9, _ => exact w29_19 k n a c l hM ih hr hs e
    | 10, _ => exact w29_20 k n a c l hM ih hr hs e
    | 11, _ => exact w29_21 k n a c l hM ih hr hs e
    | 12, _ => exact w29_22 k n a c l hM ih hr hs e
    | 13, _ =>
      obtain ⟨i, hi, e2⟩ := modI_cases (x := (IntKind.wrap .i64 (n.tdiv (4 : Int)))) (n := 3) (by decide)
      match i, hi with
      | 0, _ => exact w29_23 k n a c l hM ih hr hs e e2
      | 1, _ => exact w29_24 k n a c l hM ih hr hs e e2
      | 2, _ => exact w29_25 k n a c l hM ih hr hs e e2
termination_by t => SizeOf.sizeOf t
decreasing_by rw [ht]; exact DT.lt_of_mem ht'
theorem hS15_29 (B : Nat) : ∀ p ∈ ([(29, pick (Con Tryd.prog [] 29 (Qn 5)))] : List (FuncId × (List Value → Mem → Option (Value × Mem)))), SpecOk Tryd.prog [] B p.1 p.2 := (fun p hp => by simp only [List.mem_cons, List.not_mem_nil, or_false] at hp; rcases hp with rfl <;> first | exact Con.ok _)
theorem w15_e_raw (b o m c : Nat) (k1 n1 : Int) (a1 : Option Addr) (n2 c1 : Nat) (_ : DT) (M : Mem) (b1 : Nat) (M2 : Mem) (y9k y9s y9lo y9hi : Int) (y9a : Option Addr) (y9l : List DT) (y9c : Nat) (M12 M22 : Mem) : oT Tryd.prog [] 60 Tryd.f15 q15 [(sli b o m c)] M [ttV 1 (pt b1 0) M2, ttF 8, ttT 12, ttL 14 (nd3 k1 n1 (.slice a1 n2 c1)), ttV 16 (nd5 y9k y9s y9lo y9hi (.slice y9a y9l.length y9c)) M12, ttS 18 M22] 2 = some (.ret, some (pt b1 0), M22, [.eq (aalloc Tryd.prog 27 M) (1, .val (pt b1 0), M2), qF ((((m : Nat) : Int)) == (0 : Int)), .q (.inb 0 m) (ansB true), qL 54 b (o + (0 : Int).toNat * 3) M2 (nd3 k1 n1 (.slice a1 n2 c1)), qC 29 [(nd3 k1 n1 (.slice a1 n2 c1))] M2 (nd5 y9k y9s y9lo y9hi (.slice y9a y9l.length y9c)) M12, qS 27 b1 0 (nd5 y9k y9s y9lo y9hi (.slice y9a y9l.length y9c)) M12 M22]) := by kernel_rfl
theorem w15_e (b o m c : Nat) (k1 n1 : Int) (a1 : Option Addr) (n2 c1 : Nat) (t : DT) {M : Mem} (hM : MemOk M) (h0 : 0 < m) (hN : NodeAt 3 M t (.agg ⟨[i64 k1, i64 n1, .slice a1 n2 c1]⟩)) (hld : aload Tryd.prog 54 ⟨b, o, none⟩ M = some (.agg ⟨[i64 k1, i64 n1, .slice a1 n2 c1]⟩)) (cc0 : ((((m : Nat) : Int)) == (0 : Int)) = false) : ∃ v M', Con Tryd.prog [] 15 (Qn 5) [(sli b o m c)] M v M' := by
  obtain ⟨b1, M2, eb3, em4, g5, E6, hM7⟩ := new_t hM ⟨[i64 0, i64 0, i64 0, i64 0, sln], 27, 5, 0, true⟩
  have nb1 : M.next ≤ b1 := by rw [← eb3]; exact (Ext.refl M).next
  have X8 := (Ext.refl M).trans E6
  have ltb1M2 := Mem.lt_of_get g5
  obtain ⟨w10, N11, M12, p13, l14, e15, E16, hM17, Q18, G19⟩ := call_t hM7 (con29 t (MemOk.log hM7) (NodeAt.log (hN.Ext X8)))
  have g20 := E16.old g5
  obtain ⟨y9t, y9S, y9q⟩ := Q18
  obtain ⟨y9k, y9s, y9lo, y9hi, y9l, y9a, y9c, y9r, y9e, y9v, _, _, _⟩ := y9q.five
  subst y9v
  have y9T : NodeAt 5 (hidx [(0, M2.next)] M12) y9t _ := NodeAt.ext (M := hid M2.next _) (fun _ _ h => hid_same G19 h) _ _ y9q
  have X21 := X8.trans E16
  obtain ⟨M22, q23, g24, kp25, X26, hM27, nx28⟩ := store_t (o := 0) (v := (nd5 y9k y9s y9lo y9hi (.slice y9a y9l.length y9c))) (new := [i64 y9k, i64 y9s, i64 y9lo, i64 y9hi, (.slice y9a y9l.length y9c)]) X21 nb1 hM17 dS27 g20 rfl rfl (Nat.zero_le _) (Nat.le_of_ble_eq_true rfl) rfl
  replace g24 : M22.get b1 = some ⟨[i64 y9k, i64 y9s, i64 y9lo, i64 y9hi, (.slice y9a y9l.length y9c)], 27, 5, 0, true⟩ := g24
  have hT29 := nt_keep b1 kp25 (by intro id hh; simp only [hidden_cons, hidden_none, or_false] at hh; omega) y9T
  have hraw := w15_e_raw b o m c k1 n1 a1 n2 c1 t M b1 M2 y9k y9s y9lo y9hi y9a y9l y9c M12 M22
  have hres := aload_agg (a := ⟨b1, 0, none⟩) dA27 dS27 g24 rfl
  exact Con.qn (Ev.told_cell noNumP mixedP Tryd.func15 q15_ok (by kernel_rfl) rK15 (sK hS15_29) (fun _ _ => rfl) hraw hres (hk (q_eq (by rw [← eb3, ← em4]; kernel_rfl) Nat.one_ne_zero) (hk (bF cc0) (hk (q_inb (by omega) (by simp at cc0; omega)) (hk (q_ld (aload_ext X8 hld)) (hk (q_call rfl p13 l14 e15) (hk (q_st q23) hn))))))) X26 (NodeAt.ext (M := hidx [(0, M2.next)] M22) (M' := hidx [(0, M.next)] M22) (fun _ _ h => hidx_mono (H := [(0, M2.next)]) (H' := [(0, M.next)]) (fun id hh => by have := (X8).next; simp only [hidden_cons, hidden_none, or_false] at hh ⊢; omega) h) _ _ hT29) (by first | assumption | exact Small.mk (by simp) (by repeat' first | exact Small.n0 | assumption | refine Small.c ?_ ?_))
theorem w15_0_raw (a : Option Addr) (m c : Nat) (M : Mem) (b1 : Nat) (M2 M9 : Mem) : oT Tryd.prog [] 60 Tryd.f15 q15 [(.slice a m c)] M [ttV 1 (pt b1 0) M2, ttT 5, ttT 8, ttS 12 M9] 2 = some (.ret, some (pt b1 0), M9, [.eq (aalloc Tryd.prog 27 M) (1, .val (pt b1 0), M2), .ln a m c, qT ((((m : Nat) : Int)) == (0 : Int)), qS 27 b1 0 (nd5 1 1 0 0 sln) M2 M9]) := by kernel_rfl
theorem w15_0 (a : Option Addr) (m c : Nat) {M : Mem} (hM : MemOk M) (hln : a.isNone = true → m = 0 ∧ c = 0) (cc0 : ((((m : Nat) : Int)) == (0 : Int)) = true) : ∃ v M', Con Tryd.prog [] 15 (Qn 5) [(.slice a m c)] M v M' := by
  obtain ⟨b1, M2, eb3, em4, g5, E6, hM7⟩ := new_t hM ⟨[i64 0, i64 0, i64 0, i64 0, sln], 27, 5, 0, true⟩
  have nb1 : M.next ≤ b1 := by rw [← eb3]; exact (Ext.refl M).next
  have X8 := (Ext.refl M).trans E6
  obtain ⟨M9, q10, g11, kp12, X13, hM14, nx15⟩ := store_t (o := 0) (v := (nd5 1 1 0 0 sln)) (new := [i64 1, i64 1, i64 0, i64 0, sln]) X8 nb1 hM7 dS27 g5 rfl rfl (Nat.zero_le _) (Nat.le_of_ble_eq_true rfl) rfl
  replace g11 : M9.get b1 = some ⟨[i64 1, i64 1, i64 0, i64 0, sln], 27, 5, 0, true⟩ := g11
  have hraw := w15_0_raw a m c M b1 M2 M9
  have hres := aload_agg (a := ⟨b1, 0, none⟩) dA27 dS27 g11 rfl
  exact Con.qn (Ev.told_cell noNumP mixedP Tryd.func15 q15_ok (by kernel_rfl) rK15 (specs_none Tryd.prog) (fun _ _ => rfl) hraw hres (hk (q_eq (by rw [← eb3, ← em4]; kernel_rfl) Nat.one_ne_zero) (hk (lN hln) (hk (bT cc0) (hk (q_st q10) hn))))) X13 (NodeAt.flat5 1 1 0 0) (by first | assumption | exact Small.mk (by simp) (by repeat' first | exact Small.n0 | assumption | refine Small.c ?_ ?_))
theorem con15 {l : List DT} {a : Option Addr} {c : Nat} {rows : List (List Value)} {M : Mem} (hM : MemOk M) (hr : RowsAt 3 M l rows) (hs : SlAt M (.slice a l.length c) l.length rows) : ∃ v M', Con Tryd.prog [] 15 (Qn 5) [.slice a l.length c] M v M' := by
  by_cases h0 : 0 < l.length
  · have hc : ((((l.length : Nat) : Int)) == (0 : Int)) = false := by simp; intro h; rw [h] at h0; simp at h0
    rcases id hs with ⟨_, _, h1⟩ | ⟨b, o, c', blk, pre, post, h1, h2⟩
    · omega
    cases h1
    obtain ⟨t, ht⟩ : ∃ t, l[0]? = some t := ⟨l[0], List.getElem?_eq_getElem h0⟩
    obtain ⟨r, hN, hld⟩ := load_elem (P := Tryd.prog) (ty := 54) hr hs ht dA54 dS54
    obtain ⟨k1, n1, l1, a1, c1, rows1, htt, hr1, _⟩ := hN.three
    rw [hr1] at hN hld
    exact w15_e b o l.length c k1 n1 a1 l1.length c1 t hM h0 hN (by simpa using hld) hc
  · have hc : ((((l.length : Nat) : Int)) == (0 : Int)) = true := by simp; exact List.eq_nil_of_length_eq_zero (by omega)
    exact w15_0 a l.length c hM hs.ln hc
end Go.Proofs.YtlgkpnlppgihcaaDoor

open Go Go.Am Go.Proofs
namespace Go.Proofs.YtlgkpnlppgihcaaDoor
set_option maxRecDepth 100000
theorem rK26 : Tryd.f26.results = #[.cell 8 27] := by kernel_rfl
theorem hS26_23_26 (B : Nat) : ∀ p ∈ ([(23, pick (Con Tryd.prog [] 23 (Fl g23))), (26, pick (Con Tryd.prog [] 26 (Qh 5)))] : List (FuncId × (List Value → Mem → Option (Value × Mem)))), SpecOk Tryd.prog [] B p.1 p.2 := (fun p hp => by simp only [List.mem_cons, List.not_mem_nil, or_false] at hp; rcases hp with rfl | rfl <;> first | exact Con.ok _)
theorem w26_0_raw (k s lo hi x y z : Int) (b o n c : Nat) (_ : List (List Value)) (k1 s1 lo1 hi1 : Int) (a1 : Option Addr) (n1 c1 : Nat) (M : Mem) (b1 : Nat) (M2 : Mem) (b9 : Nat) (M10 M20 : Mem) (b31 : Nat) (M32 : Mem) (b41 : Nat) (M42 M54 : Mem) (y67k y67s y67lo y67hi : Int) (y67a : Option Addr) (y67l : List DT) (y67c : Nat) (M70 M83 M93 M103 : Mem) : oT Tryd.prog [] 60 Tryd.f26 q26 [(nd5 k s lo hi (sli b o n c)), i64 x, i64 y, i64 z] M [ttV 1 (pt b1 0) M2, ttV 3 (pt b9 0) M10, ttL 7 (sli b o n c), ttT 14, ttT 16, ttV 17 (i64 (modI x 3)) M20, ttT 18, ttT 21, ttT 22, ttV 24 (sli b31 0 0 1) M32, ttL 28 (sli b o n c), .at 30 (1, .val (sli b41 0 n n), M42), ttV 42 (i64 (modI (IntKind.wrap .i64 (x.tdiv (3 : Int))) ((n : Nat) : Int))) M54, ttT 54, ttL 56 (nd5 k1 s1 lo1 hi1 (.slice a1 n1 c1)), ttV 66 (nd5 y67k y67s y67lo y67hi (.slice y67a y67l.length y67c)) M70, ttT 68, ttS 70 M83, ttS 76 M93, ttL 78 (nd5 k s lo hi (sli b41 0 n n)), ttS 80 M103] 8 = some (.ret, some (pt b9 0), M103, [.eq (abox Tryd.prog 27 (nd5 k s lo hi (sli b o n c)) M) (1, .val (pt b1 0), M2), .eq (aalloc Tryd.prog 27 M2) (1, .val (pt b9 0), M10), qL 25 b1 4 M10 (sli b o n c), qT (decide ((((n : Nat) : Int)) > (0 : Int))), qT (decide ((((n : Nat) : Int)) > (0 : Int))), qC 23 [i64 x, i64 3] M10 (i64 (modI x 3)) M20, qT (decide ((((n : Nat) : Int)) > (0 : Int))), qT (decide ((((n : Nat) : Int)) > (0 : Int))), qT (decide ((modI x 3) > (0 : Int))), .eq (abuildSlice Tryd.prog 25 0 [] M20) (1, .val (sli b31 0 0 1), M32), qL 25 b1 4 M32 (sli b o n c), .q (.append [25, 25] (sli b31 0 0 1) (sli b o n c) M32) (1, .val (sli b41 0 n n), M42), qC 23 [(i64 (IntKind.wrap .i64 (x.tdiv (3 : Int)))), (i64 (((n : Nat) : Int)))] M42 (i64 (modI (IntKind.wrap .i64 (x.tdiv (3 : Int))) ((n : Nat) : Int))) M54, .q (.inb (modI (IntKind.wrap .i64 (x.tdiv (3 : Int))) ((n : Nat) : Int)) n) (ansB true), qL 27 b41 (0 + (modI (IntKind.wrap .i64 (x.tdiv (3 : Int))) ((n : Nat) : Int) : Int).toNat * 5) M54 (nd5 k1 s1 lo1 hi1 (.slice a1 n1 c1)), qC 26 [(nd5 k1 s1 lo1 hi1 (.slice a1 n1 c1)), (i64 (IntKind.wrap .i64 (x.tdiv (7 : Int)))), i64 y, i64 z] M54 (nd5 y67k y67s y67lo y67hi (.slice y67a y67l.length y67c)) M70, .q (.inb (modI (IntKind.wrap .i64 (x.tdiv (3 : Int))) ((n : Nat) : Int)) n) (ansB true), qS 27 b41 (0 + (modI (IntKind.wrap .i64 (x.tdiv (3 : Int))) ((n : Nat) : Int) : Int).toNat * 5) (nd5 y67k y67s y67lo y67hi (.slice y67a y67l.length y67c)) M70 M83, qS 25 b1 4 (sli b41 0 n n) M83 M93, qL 27 b1 0 M93 (nd5 k s lo hi (sli b41 0 n n)), qS 27 b9 0 (nd5 k s lo hi (sli b41 0 n n)) M93 M103]) := by kernel_rfl
theorem w26_0 (k s lo hi x y z : Int) (b o n c : Nat) (rows : List (List Value)) (k1 s1 lo1 hi1 : Int) (a1 : Option Addr) (n1 c1 : Nat) {l : List DT} {M : Mem} (hM : MemOk M) (hln : l.length = n) (h0 : 0 < n) (hsm : n ≤ 1000) (hr : RowsAt 5 M l rows) (hs : SlAt M (.slice (some ⟨b, o, none⟩) n c) n rows) {t1 : DT} (ih : ∀ {M v} {x y z : Int}, MemOk M → NodeAt 5 M t1 v → ∃ v' M', Con Tryd.prog [] 26 (Qh 5) [v, i64 x, i64 y, i64 z] M v' M') (ht1 : l[(modI (IntKind.wrap .i64 (x.tdiv (3 : Int))) ((n : Nat) : Int)).toNat]? = some t1) (hk1 : rows[(modI (IntKind.wrap .i64 (x.tdiv (3 : Int))) ((n : Nat) : Int)).toNat]? = some [i64 k1, i64 s1, i64 lo1, i64 hi1, .slice a1 n1 c1]) (hN1 : NodeAt 5 M t1 (.agg ⟨[i64 k1, i64 s1, i64 lo1, i64 hi1, .slice a1 n1 c1]⟩)) (cc0 : (decide ((((n : Nat) : Int)) > (0 : Int))) = true) (cc1 : (decide ((modI x 3) > (0 : Int))) = true) : ∃ v M', Con Tryd.prog [] 26 (Qh 5) [(nd5 k s lo hi (sli b o n c)), i64 x, i64 y, i64 z] M v M' := by
  have hrn : rows.length = n := hr.len.trans hln
  have hfl : rows.flatten.length = n * 5 := by rw [rows_len hr.wide, hrn]
  obtain ⟨b1, M2, eb3, em4, g5, E6, hM7⟩ := new_t hM ⟨[i64 k, i64 s, i64 lo, i64 hi, (sli b o n c)], 27, 5, 0, true⟩
  have nb1 : M.next ≤ b1 := by rw [← eb3]; exact (Ext.refl M).next
  have X8 := (Ext.refl M).trans E6
  obtain ⟨b9, M10, eb11, em12, g13, E14, hM15⟩ := new_t hM7 ⟨[i64 0, i64 0, i64 0, i64 0, sln], 27, 5, 0, true⟩
  have nb9 := nb_of eb11 X8
  have db1b9 := ne_new g5 eb11
  have g16 := E14.old g5
  have X17 := X8.trans E14
  obtain ⟨w18, N19, M20, p21, l22, e23, E24, hM25, Q26, G27⟩ := call_t hM15 (con23 x 3 (by decide))
  have g28 := E24.old g16
  have g29 := E24.old g13
  have ew18 : w18 = i64 (modI x 3) := (Option.some.inj Q26).symm
  subst ew18
  have X30 := X17.trans E24
  obtain ⟨b31, M32, eb33, em34, g35, E36, hM37⟩ := new_t hM25 ⟨[], 27, 5, 0, true⟩
  have nb31 := nb_of eb33 X30
  have db1b31 := ne_new g28 eb33
  have db9b31 := ne_new g29 eb33
  have g38 := E36.old g28
  have g39 := E36.old g29
  have X40 := X30.trans E36
  obtain ⟨b41, M42, eb43, em44, g45, E47, hM46⟩ := new_t hM37 ⟨rows.flatten, 27, 5, 0, true⟩
  have nb41 := nb_of eb43 X40
  have db1b41 := ne_new g38 eb43
  have db9b41 := ne_new g39 eb43
  have db31b41 := ne_new g35 eb43
  have g49 := E47.old g38
  have g50 := E47.old g39
  have g51 := E47.old g35
  have X48 := X40.trans E47
  obtain ⟨w52, N53, M54, p55, l56, e57, E58, hM59, Q60, G61⟩ := call_t hM46 (con23 (IntKind.wrap .i64 (x.tdiv (3 : Int))) ((n : Nat) : Int) (by simp; omega))
  have g62 := E58.old g49
  have g63 := E58.old g50
  have g64 := E58.old g51
  have g65 := E58.old g45
  have ew52 : w52 = i64 (modI (IntKind.wrap .i64 (x.tdiv (3 : Int))) ((n : Nat) : Int)) := (Option.some.inj Q60).symm
  subst ew52
  have hkk := modI_range (x := IntKind.wrap .i64 (x.tdiv (3 : Int))) (n := ((n : Nat) : Int)) (by omega)
  have X66 := X48.trans E58
  have ltb1 := Mem.lt_of_get g62
  have ltb9 := Mem.lt_of_get g63
  have ltb31 := Mem.lt_of_get g64
  have ltb41 := Mem.lt_of_get g65
  obtain ⟨w68, N69, M70, p71, l72, e73, E74, hM75, Q76, G77⟩ := call_t hM59 (ih (MemOk.log hM59) (NodeAt.log (hN1.Ext X66)))
  have g78 := E74.old g62
  have g79 := E74.old g63
  have g80 := E74.old g64
  have g81 := E74.old g65
  have hQ := Q76
  have hG := G77
  obtain ⟨y67t, y67q⟩ := Qh.five (H := []) hQ hG (by simp [hidden]) (hidx_nil (NodeAt.log (hN1.Ext X66)))
  obtain ⟨y67k, y67s, y67lo, y67hi, y67l, y67a, y67c, y67r, y67e, y67v, _, _, _⟩ := y67q.five
  subst y67v
  have X82 := X66.trans E74
  obtain ⟨M83, q84, g85, kp86, X87, hM88, nx89⟩ := store_t (o := 0 + (modI (IntKind.wrap .i64 (x.tdiv (3 : Int))) ((n : Nat) : Int) : Int).toNat * 5) (v := (nd5 y67k y67s y67lo y67hi (.slice y67a y67l.length y67c))) (new := (rows.set (modI (IntKind.wrap .i64 (x.tdiv (3 : Int))) ((n : Nat) : Int)).toNat [i64 y67k, i64 y67s, i64 y67lo, i64 y67hi, (.slice y67a y67l.length y67c)]).flatten) X82 nb41 hM75 dS27 g81 rfl rfl (Nat.zero_le _) (by show 0 + (modI (IntKind.wrap .i64 (x.tdiv (3 : Int))) ((n : Nat) : Int)).toNat * 5 + 5 ≤ rows.flatten.length; rw [hfl]; omega) (by rw [Nat.zero_add]; exact splice_row (w := 5) (v := [i64 y67k, i64 y67s, i64 y67lo, i64 y67hi, (.slice y67a y67l.length y67c)]) (rows := rows) (k := (modI (IntKind.wrap .i64 (x.tdiv (3 : Int))) ((n : Nat) : Int)).toNat) rfl hr.wide (by omega))
  have keepb41 := kp86
  have g90 := (kp86 _ db1b41).trans g78
  have g91 := (kp86 _ db9b41).trans g79
  have g92 := (kp86 _ db31b41).trans g80
  obtain ⟨M93, q94, g95, kp96, X97, hM98, nx99⟩ := store_t (o := 4) (v := (sli b41 0 n n)) (new := [i64 k, i64 s, i64 lo, i64 hi, (sli b41 0 n n)]) X87 nb1 hM88 dS25 g90 rfl rfl (Nat.zero_le _) (Nat.le_of_ble_eq_true rfl) rfl
  replace g95 : M93.get b1 = some ⟨[i64 k, i64 s, i64 lo, i64 hi, (sli b41 0 n n)], 27, 5, 0, true⟩ := g95
  have g100 := (kp96 _ (Ne.symm db1b9)).trans g91
  have g101 := (kp96 _ (Ne.symm db1b31)).trans g92
  have g102 := (kp96 _ (Ne.symm db1b41)).trans g85
  obtain ⟨M103, q104, g105, kp106, X107, hM108, nx109⟩ := store_t (o := 0) (v := (nd5 k s lo hi (sli b41 0 n n))) (new := [i64 k, i64 s, i64 lo, i64 hi, (sli b41 0 n n)]) X97 nb9 hM98 dS27 g100 rfl rfl (Nat.zero_le _) (Nat.le_of_ble_eq_true rfl) rfl
  replace g105 : M103.get b9 = some ⟨[i64 k, i64 s, i64 lo, i64 hi, (sli b41 0 n n)], 27, 5, 0, true⟩ := g105
  have g110 := (kp106 _ db1b9).trans g95
  have g111 := (kp106 _ (Ne.symm db9b31)).trans g101
  have g112 := (kp106 _ (Ne.symm db9b41)).trans g102
  have hraw := w26_0_raw k s lo hi x y z b o n c rows k1 s1 lo1 hi1 a1 n1 c1 M b1 M2 b9 M10 M20 b31 M32 b41 M42 M54 y67k y67s y67lo y67hi y67a y67l y67c M70 M83 M93 M103
  have hres := aload_agg (a := ⟨b9, 0, none⟩) dA27 dS27 g105 rfl
  exact Con.qh5 (Ev.told_cell noNumP mixedP Tryd.func26 q26_ok (by kernel_rfl) rK26 (sK hS26_23_26) (fun _ _ => rfl) hraw hres (hk (q_eq (by rw [← eb3, ← em4]; kernel_rfl) Nat.one_ne_zero) (hk (q_eq (by rw [← eb11, ← em12]; kernel_rfl) Nat.one_ne_zero) (hk (lC dC25 g16 rfl) (hk (bT cc0) (hk (bT cc0) (hk (q_call rfl p21 l22 e23) (hk (bT cc0) (hk (bT cc0) (hk (bT cc1) (hk (q_eq (by rw [← eb33, ← em34]; kernel_rfl) Nat.one_ne_zero) (hk (lC dC25 g38 rfl) (hk (q_app (by rw [← eb43, ← em44]; exact append_rows (w := 5) (y := 56) (by kernel_rfl) (by kernel_rfl) (by kernel_rfl) (by decide) (by decide) (SlAt.Ext X40 hs) hrn hr.wide h0 (by omega) hr.cells g35) Nat.one_ne_zero) (hk (q_call rfl p55 l56 e57) (hk (q_inb (by omega) (by omega)) (hk (q_ld (aload_row (P := Tryd.prog) dA27 dS27 g65 rfl hr.wide hk1 (by rw [Nat.zero_add]))) (hk (q_call rfl p71 l72 e73) (hk (q_inb (by omega) (by omega)) (hk (q_st q84) (hk (q_st q94) (hk (lA ⟨dA27, dS27⟩ g95 rfl) (hk (q_st q104) hn)))))))))))))))))))))) X107 hln hr hs (by omega) (fun H hH r1 s1 => qh_copied k s lo hi hH X66 hQ hG (fun id h_b41 h_b1 h_b9 => (kp106 id h_b9).trans ((kp96 id h_b1).trans (kp86 id h_b41))) X107 nb41 nb1 nb9 ltb41 ltb1 ltb9 g112 rfl rfl r1 ht1 hk1 hln (by omega))
theorem hS26_23 (B : Nat) : ∀ p ∈ ([(23, pick (Con Tryd.prog [] 23 (Fl g23)))] : List (FuncId × (List Value → Mem → Option (Value × Mem)))), SpecOk Tryd.prog [] B p.1 p.2 := (fun p hp => by simp only [List.mem_cons, List.not_mem_nil, or_false] at hp; rcases hp with rfl <;> first | exact Con.ok _)
theorem w26_1_raw (k s lo hi x y z : Int) (b o n c : Nat) (_ : List (List Value)) (M : Mem) (b1 : Nat) (M2 : Mem) (b9 : Nat) (M10 M20 M33 M46 M57 M65 : Mem) : oT Tryd.prog [] 60 Tryd.f26 q26 [(nd5 k s lo hi (sli b o n c)), i64 x, i64 y, i64 z] M [ttV 1 (pt b1 0) M2, ttV 3 (pt b9 0) M10, ttL 7 (sli b o n c), ttT 14, ttT 16, ttV 17 (i64 (modI x 3)) M20, ttT 18, ttT 21, ttF 22, ttV 26 (i64 0) M33, ttV 35 (i64 (modI z 11)) M46, ttS 39 M57, ttL 41 (nd5 (modI z 11) s lo hi (sli b o n c)), ttS 43 M65] 8 = some (.ret, some (pt b9 0), M65, [.eq (abox Tryd.prog 27 (nd5 k s lo hi (sli b o n c)) M) (1, .val (pt b1 0), M2), .eq (aalloc Tryd.prog 27 M2) (1, .val (pt b9 0), M10), qL 25 b1 4 M10 (sli b o n c), qT (decide ((((n : Nat) : Int)) > (0 : Int))), qT (decide ((((n : Nat) : Int)) > (0 : Int))), qC 23 [i64 x, i64 3] M10 (i64 (modI x 3)) M20, qT (decide ((((n : Nat) : Int)) > (0 : Int))), qT (decide ((((n : Nat) : Int)) > (0 : Int))), qF (decide ((modI x 3) > (0 : Int))), qC 23 [i64 y, i64 6] M20 (i64 0) M33, qC 23 [i64 z, i64 11] M33 (i64 (modI z 11)) M46, qS 3 b1 0 (i64 (modI z 11)) M46 M57, qL 27 b1 0 M57 (nd5 (modI z 11) s lo hi (sli b o n c)), qS 27 b9 0 (nd5 (modI z 11) s lo hi (sli b o n c)) M57 M65]) := by kernel_rfl
theorem w26_1 (k s lo hi x y z : Int) (b o n c : Nat) (rows : List (List Value)) {l : List DT} {M : Mem} (hM : MemOk M) (hln : l.length = n) (h0 : 0 < n) (hsm : n ≤ 1000) (hr : RowsAt 5 M l rows) (hs : SlAt M (.slice (some ⟨b, o, none⟩) n c) n rows) (cc0 : (decide ((((n : Nat) : Int)) > (0 : Int))) = true) (cc1 : (decide ((modI x 3) > (0 : Int))) = false) (cc2 : modI y 6 = 0) : ∃ v M', Con Tryd.prog [] 26 (Qh 5) [(nd5 k s lo hi (sli b o n c)), i64 x, i64 y, i64 z] M v M' := by
  have hrn : rows.length = n := hr.len.trans hln
  have hfl : rows.flatten.length = n * 5 := by rw [rows_len hr.wide, hrn]
  obtain ⟨b1, M2, eb3, em4, g5, E6, hM7⟩ := new_t hM ⟨[i64 k, i64 s, i64 lo, i64 hi, (sli b o n c)], 27, 5, 0, true⟩
  have nb1 : M.next ≤ b1 := by rw [← eb3]; exact (Ext.refl M).next
  have X8 := (Ext.refl M).trans E6
  obtain ⟨b9, M10, eb11, em12, g13, E14, hM15⟩ := new_t hM7 ⟨[i64 0, i64 0, i64 0, i64 0, sln], 27, 5, 0, true⟩
  have nb9 := nb_of eb11 X8
  have db1b9 := ne_new g5 eb11
  have g16 := E14.old g5
  have X17 := X8.trans E14
  obtain ⟨w18, N19, M20, p21, l22, e23, E24, hM25, Q26, G27⟩ := call_t hM15 (con23 x 3 (by decide))
  have g28 := E24.old g16
  have g29 := E24.old g13
  have ew18 : w18 = i64 (modI x 3) := (Option.some.inj Q26).symm
  subst ew18
  have X30 := X17.trans E24
  obtain ⟨w31, N32, M33, p34, l35, e36, E37, hM38, Q39, G40⟩ := call_t hM25 (con23 y 6 (by decide))
  have g41 := E37.old g28
  have g42 := E37.old g29
  have ew31 : w31 = i64 0 := by
    have h : i64 (modI y 6) = w31 := Option.some.inj Q39
    rw [← h, cc2]
  subst ew31
  have X43 := X30.trans E37
  obtain ⟨w44, N45, M46, p47, l48, e49, E50, hM51, Q52, G53⟩ := call_t hM38 (con23 z 11 (by decide))
  have g54 := E50.old g41
  have g55 := E50.old g42
  have ew44 : w44 = i64 (modI z 11) := (Option.some.inj Q52).symm
  subst ew44
  have X56 := X43.trans E50
  obtain ⟨M57, q58, g59, kp60, X61, hM62, nx63⟩ := store_t (o := 0) (v := (i64 (modI z 11))) (new := [(i64 (modI z 11)), i64 s, i64 lo, i64 hi, (sli b o n c)]) X56 nb1 hM51 dS3 g54 rfl rfl (Nat.zero_le _) (Nat.le_of_ble_eq_true rfl) rfl
  replace g59 : M57.get b1 = some ⟨[(i64 (modI z 11)), i64 s, i64 lo, i64 hi, (sli b o n c)], 27, 5, 0, true⟩ := g59
  have g64 := (kp60 _ (Ne.symm db1b9)).trans g55
  obtain ⟨M65, q66, g67, kp68, X69, hM70, nx71⟩ := store_t (o := 0) (v := (nd5 (modI z 11) s lo hi (sli b o n c))) (new := [(i64 (modI z 11)), i64 s, i64 lo, i64 hi, (sli b o n c)]) X61 nb9 hM62 dS27 g64 rfl rfl (Nat.zero_le _) (Nat.le_of_ble_eq_true rfl) rfl
  replace g67 : M65.get b9 = some ⟨[(i64 (modI z 11)), i64 s, i64 lo, i64 hi, (sli b o n c)], 27, 5, 0, true⟩ := g67
  have g72 := (kp68 _ db1b9).trans g59
  have hraw := w26_1_raw k s lo hi x y z b o n c rows M b1 M2 b9 M10 M20 M33 M46 M57 M65
  have hres := aload_agg (a := ⟨b9, 0, none⟩) dA27 dS27 g67 rfl
  exact Con.qh5 (Ev.told_cell noNumP mixedP Tryd.func26 q26_ok (by kernel_rfl) rK26 (sK hS26_23) (fun _ _ => rfl) hraw hres (hk (q_eq (by rw [← eb3, ← em4]; kernel_rfl) Nat.one_ne_zero) (hk (q_eq (by rw [← eb11, ← em12]; kernel_rfl) Nat.one_ne_zero) (hk (lC dC25 g16 rfl) (hk (bT cc0) (hk (bT cc0) (hk (q_call rfl p21 l22 e23) (hk (bT cc0) (hk (bT cc0) (hk (bF cc1) (hk (q_call rfl p34 l35 e36) (hk (q_call rfl p47 l48 e49) (hk (q_st q58) (hk (lA ⟨dA27, dS27⟩ g59 rfl) (hk (q_st q66) hn))))))))))))))) X69 hln hr hs (by omega) (fun H hH r1 s1 => qh_num (modI z 11) s lo hi X69 hln r1 s1 (by omega))
theorem w26_2_raw (k s lo hi x y z : Int) (b o n c : Nat) (_ : List (List Value)) (M : Mem) (b1 : Nat) (M2 : Mem) (b9 : Nat) (M10 M20 M33 M46 M57 M65 : Mem) : oT Tryd.prog [] 60 Tryd.f26 q26 [(nd5 k s lo hi (sli b o n c)), i64 x, i64 y, i64 z] M [ttV 1 (pt b1 0) M2, ttV 3 (pt b9 0) M10, ttL 7 (sli b o n c), ttT 14, ttT 16, ttV 17 (i64 (modI x 3)) M20, ttT 18, ttT 21, ttF 22, ttV 26 (i64 1) M33, ttV 40 (i64 (modI z 34)) M46, ttS 46 M57, ttL 48 (nd5 k (IntKind.wrap .i64 ((modI z 34) - (1 : Int))) lo hi (sli b o n c)), ttS 50 M65] 8 = some (.ret, some (pt b9 0), M65, [.eq (abox Tryd.prog 27 (nd5 k s lo hi (sli b o n c)) M) (1, .val (pt b1 0), M2), .eq (aalloc Tryd.prog 27 M2) (1, .val (pt b9 0), M10), qL 25 b1 4 M10 (sli b o n c), qT (decide ((((n : Nat) : Int)) > (0 : Int))), qT (decide ((((n : Nat) : Int)) > (0 : Int))), qC 23 [i64 x, i64 3] M10 (i64 (modI x 3)) M20, qT (decide ((((n : Nat) : Int)) > (0 : Int))), qT (decide ((((n : Nat) : Int)) > (0 : Int))), qF (decide ((modI x 3) > (0 : Int))), qC 23 [i64 y, i64 6] M20 (i64 1) M33, qC 23 [i64 z, i64 34] M33 (i64 (modI z 34)) M46, qS 3 b1 1 (i64 (IntKind.wrap .i64 ((modI z 34) - (1 : Int)))) M46 M57, qL 27 b1 0 M57 (nd5 k (IntKind.wrap .i64 ((modI z 34) - (1 : Int))) lo hi (sli b o n c)), qS 27 b9 0 (nd5 k (IntKind.wrap .i64 ((modI z 34) - (1 : Int))) lo hi (sli b o n c)) M57 M65]) := by kernel_rfl
theorem w26_2 (k s lo hi x y z : Int) (b o n c : Nat) (rows : List (List Value)) {l : List DT} {M : Mem} (hM : MemOk M) (hln : l.length = n) (h0 : 0 < n) (hsm : n ≤ 1000) (hr : RowsAt 5 M l rows) (hs : SlAt M (.slice (some ⟨b, o, none⟩) n c) n rows) (cc0 : (decide ((((n : Nat) : Int)) > (0 : Int))) = true) (cc1 : (decide ((modI x 3) > (0 : Int))) = false) (cc2 : modI y 6 = 1) : ∃ v M', Con Tryd.prog [] 26 (Qh 5) [(nd5 k s lo hi (sli b o n c)), i64 x, i64 y, i64 z] M v M' := by
  have hrn : rows.length = n := hr.len.trans hln
  have hfl : rows.flatten.length = n * 5 := by rw [rows_len hr.wide, hrn]
  obtain ⟨b1, M2, eb3, em4, g5, E6, hM7⟩ := new_t hM ⟨[i64 k, i64 s, i64 lo, i64 hi, (sli b o n c)], 27, 5, 0, true⟩
  have nb1 : M.next ≤ b1 := by rw [← eb3]; exact (Ext.refl M).next
  have X8 := (Ext.refl M).trans E6
  obtain ⟨b9, M10, eb11, em12, g13, E14, hM15⟩ := new_t hM7 ⟨[i64 0, i64 0, i64 0, i64 0, sln], 27, 5, 0, true⟩
  have nb9 := nb_of eb11 X8
  have db1b9 := ne_new g5 eb11
  have g16 := E14.old g5
  have X17 := X8.trans E14
  obtain ⟨w18, N19, M20, p21, l22, e23, E24, hM25, Q26, G27⟩ := call_t hM15 (con23 x 3 (by decide))
  have g28 := E24.old g16
  have g29 := E24.old g13
  have ew18 : w18 = i64 (modI x 3) := (Option.some.inj Q26).symm
  subst ew18
  have X30 := X17.trans E24
  obtain ⟨w31, N32, M33, p34, l35, e36, E37, hM38, Q39, G40⟩ := call_t hM25 (con23 y 6 (by decide))
  have g41 := E37.old g28
  have g42 := E37.old g29
  have ew31 : w31 = i64 1 := by
    have h : i64 (modI y 6) = w31 := Option.some.inj Q39
    rw [← h, cc2]
  subst ew31
  have X43 := X30.trans E37
  obtain ⟨w44, N45, M46, p47, l48, e49, E50, hM51, Q52, G53⟩ := call_t hM38 (con23 z 34 (by decide))
  have g54 := E50.old g41
  have g55 := E50.old g42
  have ew44 : w44 = i64 (modI z 34) := (Option.some.inj Q52).symm
  subst ew44
  have X56 := X43.trans E50
  obtain ⟨M57, q58, g59, kp60, X61, hM62, nx63⟩ := store_t (o := 1) (v := (i64 (IntKind.wrap .i64 ((modI z 34) - (1 : Int))))) (new := [i64 k, (i64 (IntKind.wrap .i64 ((modI z 34) - (1 : Int)))), i64 lo, i64 hi, (sli b o n c)]) X56 nb1 hM51 dS3 g54 rfl rfl (Nat.zero_le _) (Nat.le_of_ble_eq_true rfl) rfl
  replace g59 : M57.get b1 = some ⟨[i64 k, (i64 (IntKind.wrap .i64 ((modI z 34) - (1 : Int)))), i64 lo, i64 hi, (sli b o n c)], 27, 5, 0, true⟩ := g59
  have g64 := (kp60 _ (Ne.symm db1b9)).trans g55
  obtain ⟨M65, q66, g67, kp68, X69, hM70, nx71⟩ := store_t (o := 0) (v := (nd5 k (IntKind.wrap .i64 ((modI z 34) - (1 : Int))) lo hi (sli b o n c))) (new := [i64 k, (i64 (IntKind.wrap .i64 ((modI z 34) - (1 : Int)))), i64 lo, i64 hi, (sli b o n c)]) X61 nb9 hM62 dS27 g64 rfl rfl (Nat.zero_le _) (Nat.le_of_ble_eq_true rfl) rfl
  replace g67 : M65.get b9 = some ⟨[i64 k, (i64 (IntKind.wrap .i64 ((modI z 34) - (1 : Int)))), i64 lo, i64 hi, (sli b o n c)], 27, 5, 0, true⟩ := g67
  have g72 := (kp68 _ db1b9).trans g59
  have hraw := w26_2_raw k s lo hi x y z b o n c rows M b1 M2 b9 M10 M20 M33 M46 M57 M65
  have hres := aload_agg (a := ⟨b9, 0, none⟩) dA27 dS27 g67 rfl
  exact Con.qh5 (Ev.told_cell noNumP mixedP Tryd.func26 q26_ok (by kernel_rfl) rK26 (sK hS26_23) (fun _ _ => rfl) hraw hres (hk (q_eq (by rw [← eb3, ← em4]; kernel_rfl) Nat.one_ne_zero) (hk (q_eq (by rw [← eb11, ← em12]; kernel_rfl) Nat.one_ne_zero) (hk (lC dC25 g16 rfl) (hk (bT cc0) (hk (bT cc0) (hk (q_call rfl p21 l22 e23) (hk (bT cc0) (hk (bT cc0) (hk (bF cc1) (hk (q_call rfl p34 l35 e36) (hk (q_call rfl p47 l48 e49) (hk (q_st q58) (hk (lA ⟨dA27, dS27⟩ g59 rfl) (hk (q_st q66) hn))))))))))))))) X69 hln hr hs (by omega) (fun H hH r1 s1 => qh_num k (IntKind.wrap .i64 ((modI z 34) - (1 : Int))) lo hi X69 hln r1 s1 (by omega))
theorem w26_3_raw (k s lo hi x y z : Int) (b o n c : Nat) (_ : List (List Value)) (M : Mem) (b1 : Nat) (M2 : Mem) (b9 : Nat) (M10 M20 M33 M46 M57 M65 : Mem) : oT Tryd.prog [] 60 Tryd.f26 q26 [(nd5 k s lo hi (sli b o n c)), i64 x, i64 y, i64 z] M [ttV 1 (pt b1 0) M2, ttV 3 (pt b9 0) M10, ttL 7 (sli b o n c), ttT 14, ttT 16, ttV 17 (i64 (modI x 3)) M20, ttT 18, ttT 21, ttF 22, ttV 26 (i64 2) M33, ttV 45 (i64 (modI z 12)) M46, ttS 51 M57, ttL 53 (nd5 k s (IntKind.wrap .i64 ((modI z 12) - (1 : Int))) hi (sli b o n c)), ttS 55 M65] 8 = some (.ret, some (pt b9 0), M65, [.eq (abox Tryd.prog 27 (nd5 k s lo hi (sli b o n c)) M) (1, .val (pt b1 0), M2), .eq (aalloc Tryd.prog 27 M2) (1, .val (pt b9 0), M10), qL 25 b1 4 M10 (sli b o n c), qT (decide ((((n : Nat) : Int)) > (0 : Int))), qT (decide ((((n : Nat) : Int)) > (0 : Int))), qC 23 [i64 x, i64 3] M10 (i64 (modI x 3)) M20, qT (decide ((((n : Nat) : Int)) > (0 : Int))), qT (decide ((((n : Nat) : Int)) > (0 : Int))), qF (decide ((modI x 3) > (0 : Int))), qC 23 [i64 y, i64 6] M20 (i64 2) M33, qC 23 [i64 z, i64 12] M33 (i64 (modI z 12)) M46, qS 3 b1 2 (i64 (IntKind.wrap .i64 ((modI z 12) - (1 : Int)))) M46 M57, qL 27 b1 0 M57 (nd5 k s (IntKind.wrap .i64 ((modI z 12) - (1 : Int))) hi (sli b o n c)), qS 27 b9 0 (nd5 k s (IntKind.wrap .i64 ((modI z 12) - (1 : Int))) hi (sli b o n c)) M57 M65]) := by kernel_rfl
theorem w26_3 (k s lo hi x y z : Int) (b o n c : Nat) (rows : List (List Value)) {l : List DT} {M : Mem} (hM : MemOk M) (hln : l.length = n) (h0 : 0 < n) (hsm : n ≤ 1000) (hr : RowsAt 5 M l rows) (hs : SlAt M (.slice (some ⟨b, o, none⟩) n c) n rows) (cc0 : (decide ((((n : Nat) : Int)) > (0 : Int))) = true) (cc1 : (decide ((modI x 3) > (0 : Int))) = false) (cc2 : modI y 6 = 2) : ∃ v M', Con Tryd.prog [] 26 (Qh 5) [(nd5 k s lo hi (sli b o n c)), i64 x, i64 y, i64 z] M v M' := by
  have hrn : rows.length = n := hr.len.trans hln
  have hfl : rows.flatten.length = n * 5 := by rw [rows_len hr.wide, hrn]
  obtain ⟨b1, M2, eb3, em4, g5, E6, hM7⟩ := new_t hM ⟨[i64 k, i64 s, i64 lo, i64 hi, (sli b o n c)], 27, 5, 0, true⟩
  have nb1 : M.next ≤ b1 := by rw [← eb3]; exact (Ext.refl M).next
  have X8 := (Ext.refl M).trans E6
  obtain ⟨b9, M10, eb11, em12, g13, E14, hM15⟩ := new_t hM7 ⟨[i64 0, i64 0, i64 0, i64 0, sln], 27, 5, 0, true⟩
  have nb9 := nb_of eb11 X8
  have db1b9 := ne_new g5 eb11
  have g16 := E14.old g5
  have X17 := X8.trans E14
  obtain ⟨w18, N19, M20, p21, l22, e23, E24, hM25, Q26, G27⟩ := call_t hM15 (con23 x 3 (by decide))
  have g28 := E24.old g16
  have g29 := E24.old g13
  have ew18 : w18 = i64 (modI x 3) := (Option.some.inj Q26).symm
  subst ew18
  have X30 := X17.trans E24
  obtain ⟨w31, N32, M33, p34, l35, e36, E37, hM38, Q39, G40⟩ := call_t hM25 (con23 y 6 (by decide))
  have g41 := E37.old g28
  have g42 := E37.old g29
  have ew31 : w31 = i64 2 := by
    have h : i64 (modI y 6) = w31 := Option.some.inj Q39
    rw [← h, cc2]
  subst ew31
  have X43 := X30.trans E37
  obtain ⟨w44, N45, M46, p47, l48, e49, E50, hM51, Q52, G53⟩ := call_t hM38 (con23 z 12 (by decide))
  have g54 := E50.old g41
  have g55 := E50.old g42
  have ew44 : w44 = i64 (modI z 12) := (Option.some.inj Q52).symm
  subst ew44
  have X56 := X43.trans E50
  obtain ⟨M57, q58, g59, kp60, X61, hM62, nx63⟩ := store_t (o := 2) (v := (i64 (IntKind.wrap .i64 ((modI z 12) - (1 : Int))))) (new := [i64 k, i64 s, (i64 (IntKind.wrap .i64 ((modI z 12) - (1 : Int)))), i64 hi, (sli b o n c)]) X56 nb1 hM51 dS3 g54 rfl rfl (Nat.zero_le _) (Nat.le_of_ble_eq_true rfl) rfl
  replace g59 : M57.get b1 = some ⟨[i64 k, i64 s, (i64 (IntKind.wrap .i64 ((modI z 12) - (1 : Int)))), i64 hi, (sli b o n c)], 27, 5, 0, true⟩ := g59
  have g64 := (kp60 _ (Ne.symm db1b9)).trans g55
  obtain ⟨M65, q66, g67, kp68, X69, hM70, nx71⟩ := store_t (o := 0) (v := (nd5 k s (IntKind.wrap .i64 ((modI z 12) - (1 : Int))) hi (sli b o n c))) (new := [i64 k, i64 s, (i64 (IntKind.wrap .i64 ((modI z 12) - (1 : Int)))), i64 hi, (sli b o n c)]) X61 nb9 hM62 dS27 g64 rfl rfl (Nat.zero_le _) (Nat.le_of_ble_eq_true rfl) rfl
  replace g67 : M65.get b9 = some ⟨[i64 k, i64 s, (i64 (IntKind.wrap .i64 ((modI z 12) - (1 : Int)))), i64 hi, (sli b o n c)], 27, 5, 0, true⟩ := g67
  have g72 := (kp68 _ db1b9).trans g59
  have hraw := w26_3_raw k s lo hi x y z b o n c rows M b1 M2 b9 M10 M20 M33 M46 M57 M65
  have hres := aload_agg (a := ⟨b9, 0, none⟩) dA27 dS27 g67 rfl
  exact Con.qh5 (Ev.told_cell noNumP mixedP Tryd.func26 q26_ok (by kernel_rfl) rK26 (sK hS26_23) (fun _ _ => rfl) hraw hres (hk (q_eq (by rw [← eb3, ← em4]; kernel_rfl) Nat.one_ne_zero) (hk (q_eq (by rw [← eb11, ← em12]; kernel_rfl) Nat.one_ne_zero) (hk (lC dC25 g16 rfl) (hk (bT cc0) (hk (bT cc0) (hk (q_call rfl p21 l22 e23) (hk (bT cc0) (hk (bT cc0) (hk (bF cc1) (hk (q_call rfl p34 l35 e36) (hk (q_call rfl p47 l48 e49) (hk (q_st q58) (hk (lA ⟨dA27, dS27⟩ g59 rfl) (hk (q_st q66) hn))))))))))))))) X69 hln hr hs (by omega) (fun H hH r1 s1 => qh_num k s (IntKind.wrap .i64 ((modI z 12) - (1 : Int))) hi X69 hln r1 s1 (by omega))
theorem w26_4_raw (k s lo hi x y z : Int) (b o n c : Nat) (_ : List (List Value)) (M : Mem) (b1 : Nat) (M2 : Mem) (b9 : Nat) (M10 M20 M33 M46 M57 M65 : Mem) : oT Tryd.prog [] 60 Tryd.f26 q26 [(nd5 k s lo hi (sli b o n c)), i64 x, i64 y, i64 z] M [ttV 1 (pt b1 0) M2, ttV 3 (pt b9 0) M10, ttL 7 (sli b o n c), ttT 14, ttT 16, ttV 17 (i64 (modI x 3)) M20, ttT 18, ttT 21, ttF 22, ttV 26 (i64 3) M33, ttV 50 (i64 (modI z 12)) M46, ttS 56 M57, ttL 58 (nd5 k s lo (IntKind.wrap .i64 ((modI z 12) - (1 : Int))) (sli b o n c)), ttS 60 M65] 8 = some (.ret, some (pt b9 0), M65, [.eq (abox Tryd.prog 27 (nd5 k s lo hi (sli b o n c)) M) (1, .val (pt b1 0), M2), .eq (aalloc Tryd.prog 27 M2) (1, .val (pt b9 0), M10), qL 25 b1 4 M10 (sli b o n c), qT (decide ((((n : Nat) : Int)) > (0 : Int))), qT (decide ((((n : Nat) : Int)) > (0 : Int))), qC 23 [i64 x, i64 3] M10 (i64 (modI x 3)) M20, qT (decide ((((n : Nat) : Int)) > (0 : Int))), qT (decide ((((n : Nat) : Int)) > (0 : Int))), qF (decide ((modI x 3) > (0 : Int))), qC 23 [i64 y, i64 6] M20 (i64 3) M33, qC 23 [i64 z, i64 12] M33 (i64 (modI z 12)) M46, qS 3 b1 3 (i64 (IntKind.wrap .i64 ((modI z 12) - (1 : Int)))) M46 M57, qL 27 b1 0 M57 (nd5 k s lo (IntKind.wrap .i64 ((modI z 12) - (1 : Int))) (sli b o n c)), qS 27 b9 0 (nd5 k s lo (IntKind.wrap .i64 ((modI z 12) - (1 : Int))) (sli b o n c)) M57 M65]) := by kernel_rfl
theorem w26_4 (k s lo hi x y z : Int) (b o n c : Nat) (rows : List (List Value)) {l : List DT} {M : Mem} (hM : MemOk M) (hln : l.length = n) (h0 : 0 < n) (hsm : n ≤ 1000) (hr : RowsAt 5 M l rows) (hs : SlAt M (.slice (some ⟨b, o, none⟩) n c) n rows) (cc0 : (decide ((((n : Nat) : Int)) > (0 : Int))) = true) (cc1 : (decide ((modI x 3) > (0 : Int))) = false) (cc2 : modI y 6 = 3) : ∃ v M', Con Tryd.prog [] 26 (Qh 5) [(nd5 k s lo hi (sli b o n c)), i64 x, i64 y, i64 z] M v M' := by
  have hrn : rows.length = n := hr.len.trans hln
  have hfl : rows.flatten.length = n * 5 := by rw [rows_len hr.wide, hrn]
  obtain ⟨b1, M2, eb3, em4, g5, E6, hM7⟩ := new_t hM ⟨[i64 k, i64 s, i64 lo, i64 hi, (sli b o n c)], 27, 5, 0, true⟩
  have nb1 : M.next ≤ b1 := by rw [← eb3]; exact (Ext.refl M).next
  have X8 := (Ext.refl M).trans E6
  obtain ⟨b9, M10, eb11, em12, g13, E14, hM15⟩ := new_t hM7 ⟨[i64 0, i64 0, i64 0, i64 0, sln], 27, 5, 0, true⟩
  have nb9 := nb_of eb11 X8
  have db1b9 := ne_new g5 eb11
  have g16 := E14.old g5
  have X17 := X8.trans E14
  obtain ⟨w18, N19, M20, p21, l22, e23, E24, hM25, Q26, G27⟩ := call_t hM15 (con23 x 3 (by decide))
  have g28 := E24.old g16
  have g29 := E24.old g13
  have ew18 : w18 = i64 (modI x 3) := (Option.some.inj Q26).symm
  subst ew18
  have X30 := X17.trans E24
  obtain ⟨w31, N32, M33, p34, l35, e36, E37, hM38, Q39, G40⟩ := call_t hM25 (con23 y 6 (by decide))
  have g41 := E37.old g28
  have g42 := E37.old g29
  have ew31 : w31 = i64 3 := by
    have h : i64 (modI y 6) = w31 := Option.some.inj Q39
    rw [← h, cc2]
  subst ew31
  have X43 := X30.trans E37
  obtain ⟨w44, N45, M46, p47, l48, e49, E50, hM51, Q52, G53⟩ := call_t hM38 (con23 z 12 (by decide))
  have g54 := E50.old g41
  have g55 := E50.old g42
  have ew44 : w44 = i64 (modI z 12) := (Option.some.inj Q52).symm
  subst ew44
  have X56 := X43.trans E50
  obtain ⟨M57, q58, g59, kp60, X61, hM62, nx63⟩ := store_t (o := 3) (v := (i64 (IntKind.wrap .i64 ((modI z 12) - (1 : Int))))) (new := [i64 k, i64 s, i64 lo, (i64 (IntKind.wrap .i64 ((modI z 12) - (1 : Int)))), (sli b o n c)]) X56 nb1 hM51 dS3 g54 rfl rfl (Nat.zero_le _) (Nat.le_of_ble_eq_true rfl) rfl
  replace g59 : M57.get b1 = some ⟨[i64 k, i64 s, i64 lo, (i64 (IntKind.wrap .i64 ((modI z 12) - (1 : Int)))), (sli b o n c)], 27, 5, 0, true⟩ := g59
  have g64 := (kp60 _ (Ne.symm db1b9)).trans g55
  obtain ⟨M65, q66, g67, kp68, X69, hM70, nx71⟩ := store_t (o := 0) (v := (nd5 k s lo (IntKind.wrap .i64 ((modI z 12) - (1 : Int))) (sli b o n c))) (new := [i64 k, i64 s, i64 lo, (i64 (IntKind.wrap .i64 ((modI z 12) - (1 : Int)))), (sli b o n c)]) X61 nb9 hM62 dS27 g64 rfl rfl (Nat.zero_le _) (Nat.le_of_ble_eq_true rfl) rfl
  replace g67 : M65.get b9 = some ⟨[i64 k, i64 s, i64 lo, (i64 (IntKind.wrap .i64 ((modI z 12) - (1 : Int)))), (sli b o n c)], 27, 5, 0, true⟩ := g67
  have g72 := (kp68 _ db1b9).trans g59
  have hraw := w26_4_raw k s lo hi x y z b o n c rows M b1 M2 b9 M10 M20 M33 M46 M57 M65
  have hres := aload_agg (a := ⟨b9, 0, none⟩) dA27 dS27 g67 rfl
  exact Con.qh5 (Ev.told_cell noNumP mixedP Tryd.func26 q26_ok (by kernel_rfl) rK26 (sK hS26_23) (fun _ _ => rfl) hraw hres (hk (q_eq (by rw [← eb3, ← em4]; kernel_rfl) Nat.one_ne_zero) (hk (q_eq (by rw [← eb11, ← em12]; kernel_rfl) Nat.one_ne_zero) (hk (lC dC25 g16 rfl) (hk (bT cc0) (hk (bT cc0) (hk (q_call rfl p21 l22 e23) (hk (bT cc0) (hk (bT cc0) (hk (bF cc1) (hk (q_call rfl p34 l35 e36) (hk (q_call rfl p47 l48 e49) (hk (q_st q58) (hk (lA ⟨dA27, dS27⟩ g59 rfl) (hk (q_st q66) hn))))))))))))))) X69 hln hr hs (by omega) (fun H hH r1 s1 => qh_num k s lo (IntKind.wrap .i64 ((modI z 12) - (1 : Int))) X69 hln r1 s1 (by omega))
theorem w26_5_raw (k s lo hi x y z : Int) (b o n c : Nat) (_ : List (List Value)) (M : Mem) (b1 : Nat) (M2 : Mem) (b9 : Nat) (M10 M20 M33 : Mem) (b44 : Nat) (M45 : Mem) (b54 : Nat) (M55 : Mem) (b65 : Nat) (M66 : Mem) (b77 : Nat) (M78 M89 M100 : Mem) : oT Tryd.prog [] 60 Tryd.f26 q26 [(nd5 k s lo hi (sli b o n c)), i64 x, i64 y, i64 z] M [ttV 1 (pt b1 0) M2, ttV 3 (pt b9 0) M10, ttL 7 (sli b o n c), ttT 14, ttT 16, ttV 17 (i64 (modI x 3)) M20, ttT 18, ttT 21, ttF 22, ttV 26 (i64 4) M33, ttV 53 (sli b44 0 0 1) M45, ttL 57 (sli b o n c), .at 59 (1, .val (sli b54 0 n n), M55), ttV 63 (sli b65 0 1 2) M66, .at 65 (2, .val (sli b77 0 (n + 1) (n + 1)), M78), ttS 69 M89, ttL 71 (nd5 k s lo hi (sli b77 0 (n + 1) (n + 1))), ttS 73 M100] 8 = some (.ret, some (pt b9 0), M100, [.eq (abox Tryd.prog 27 (nd5 k s lo hi (sli b o n c)) M) (1, .val (pt b1 0), M2), .eq (aalloc Tryd.prog 27 M2) (1, .val (pt b9 0), M10), qL 25 b1 4 M10 (sli b o n c), qT (decide ((((n : Nat) : Int)) > (0 : Int))), qT (decide ((((n : Nat) : Int)) > (0 : Int))), qC 23 [i64 x, i64 3] M10 (i64 (modI x 3)) M20, qT (decide ((((n : Nat) : Int)) > (0 : Int))), qT (decide ((((n : Nat) : Int)) > (0 : Int))), qF (decide ((modI x 3) > (0 : Int))), qC 23 [i64 y, i64 6] M20 (i64 4) M33, .eq (abuildSlice Tryd.prog 25 0 [] M33) (1, .val (sli b44 0 0 1), M45), qL 25 b1 4 M45 (sli b o n c), .q (.append [25, 25] (sli b44 0 0 1) (sli b o n c) M45) (1, .val (sli b54 0 n n), M55), .eq (abuildSlice Tryd.prog 25 1 [(0, (nd5 3 0 0 0 sln))] M55) (1, .val (sli b65 0 1 2), M66), .q (.append [25, 25] (sli b54 0 n n) (sli b65 0 1 2) M66) (2, .val (sli b77 0 (n + 1) (n + 1)), M78), qS 25 b1 4 (sli b77 0 (n + 1) (n + 1)) M78 M89, qL 27 b1 0 M89 (nd5 k s lo hi (sli b77 0 (n + 1) (n + 1))), qS 27 b9 0 (nd5 k s lo hi (sli b77 0 (n + 1) (n + 1))) M89 M100]) := by kernel_rfl
theorem w26_5 (k s lo hi x y z : Int) (b o n c : Nat) (rows : List (List Value)) {l : List DT} {M : Mem} (hM : MemOk M) (hln : l.length = n) (h0 : 0 < n) (hsm : n ≤ 1000) (hr : RowsAt 5 M l rows) (hs : SlAt M (.slice (some ⟨b, o, none⟩) n c) n rows) (cc0 : (decide ((((n : Nat) : Int)) > (0 : Int))) = true) (cc1 : (decide ((modI x 3) > (0 : Int))) = false) (cc2 : modI y 6 = 4) : ∃ v M', Con Tryd.prog [] 26 (Qh 5) [(nd5 k s lo hi (sli b o n c)), i64 x, i64 y, i64 z] M v M' := by
  have hrn : rows.length = n := hr.len.trans hln
  have hfl : rows.flatten.length = n * 5 := by rw [rows_len hr.wide, hrn]
  obtain ⟨b1, M2, eb3, em4, g5, E6, hM7⟩ := new_t hM ⟨[i64 k, i64 s, i64 lo, i64 hi, (sli b o n c)], 27, 5, 0, true⟩
  have nb1 : M.next ≤ b1 := by rw [← eb3]; exact (Ext.refl M).next
  have X8 := (Ext.refl M).trans E6
  obtain ⟨b9, M10, eb11, em12, g13, E14, hM15⟩ := new_t hM7 ⟨[i64 0, i64 0, i64 0, i64 0, sln], 27, 5, 0, true⟩
  have nb9 := nb_of eb11 X8
  have db1b9 := ne_new g5 eb11
  have g16 := E14.old g5
  have X17 := X8.trans E14
  obtain ⟨w18, N19, M20, p21, l22, e23, E24, hM25, Q26, G27⟩ := call_t hM15 (con23 x 3 (by decide))
  have g28 := E24.old g16
  have g29 := E24.old g13
  have ew18 : w18 = i64 (modI x 3) := (Option.some.inj Q26).symm
  subst ew18
  have X30 := X17.trans E24
  obtain ⟨w31, N32, M33, p34, l35, e36, E37, hM38, Q39, G40⟩ := call_t hM25 (con23 y 6 (by decide))
  have g41 := E37.old g28
  have g42 := E37.old g29
  have ew31 : w31 = i64 4 := by
    have h : i64 (modI y 6) = w31 := Option.some.inj Q39
    rw [← h, cc2]
  subst ew31
  have X43 := X30.trans E37
  obtain ⟨b44, M45, eb46, em47, g48, E49, hM50⟩ := new_t hM38 ⟨[], 27, 5, 0, true⟩
  have nb44 := nb_of eb46 X43
  have db1b44 := ne_new g41 eb46
  have db9b44 := ne_new g42 eb46
  have g51 := E49.old g41
  have g52 := E49.old g42
  have X53 := X43.trans E49
  obtain ⟨b54, M55, eb56, em57, g58, E60, hM59⟩ := new_t hM50 ⟨rows.flatten, 27, 5, 0, true⟩
  have nb54 := nb_of eb56 X53
  have db1b54 := ne_new g51 eb56
  have db9b54 := ne_new g52 eb56
  have db44b54 := ne_new g48 eb56
  have g62 := E60.old g51
  have g63 := E60.old g52
  have g64 := E60.old g48
  have X61 := X53.trans E60
  obtain ⟨b65, M66, eb67, em68, g69, E70, hM71⟩ := new_t hM59 ⟨[i64 3, i64 0, i64 0, i64 0, sln], 27, 5, 0, true⟩
  have nb65 := nb_of eb67 X61
  have db1b65 := ne_new g62 eb67
  have db9b65 := ne_new g63 eb67
  have db44b65 := ne_new g64 eb67
  have db54b65 := ne_new g58 eb67
  have g72 := E70.old g62
  have g73 := E70.old g63
  have g74 := E70.old g64
  have g75 := E70.old g58
  have X76 := X61.trans E70
  obtain ⟨b77, M78, eb79, em80, g81, X84, hM82, kp83⟩ := grow_t X76 nb54 hM71 ⟨(rows.flatten ++ [i64 3, i64 0, i64 0, i64 0, sln]), 27, 5, 0, true⟩
  have nb77 := nb_of eb79 X76
  have db1b77 := ne_new g72 eb79
  have db9b77 := ne_new g73 eb79
  have db44b77 := ne_new g74 eb79
  have db54b77 := ne_new g75 eb79
  have db65b77 := ne_new g69 eb79
  have g85 := (kp83 _ db1b54 (Mem.lt_of_get g72)).trans g72
  have g86 := (kp83 _ db9b54 (Mem.lt_of_get g73)).trans g73
  have g87 := (kp83 _ db44b54 (Mem.lt_of_get g74)).trans g74
  have g88 := (kp83 _ (Ne.symm db54b65) (Mem.lt_of_get g69)).trans g69
  obtain ⟨M89, q90, g91, kp92, X93, hM94, nx95⟩ := store_t (o := 4) (v := (sli b77 0 (n + 1) (n + 1))) (new := [i64 k, i64 s, i64 lo, i64 hi, (sli b77 0 (n + 1) (n + 1))]) X84 nb1 hM82 dS25 g85 rfl rfl (Nat.zero_le _) (Nat.le_of_ble_eq_true rfl) rfl
  replace g91 : M89.get b1 = some ⟨[i64 k, i64 s, i64 lo, i64 hi, (sli b77 0 (n + 1) (n + 1))], 27, 5, 0, true⟩ := g91
  have g96 := (kp92 _ (Ne.symm db1b9)).trans g86
  have g97 := (kp92 _ (Ne.symm db1b44)).trans g87
  have g98 := (kp92 _ (Ne.symm db1b65)).trans g88
  have g99 := (kp92 _ (Ne.symm db1b77)).trans g81
  obtain ⟨M100, q101, g102, kp103, X104, hM105, nx106⟩ := store_t (o := 0) (v := (nd5 k s lo hi (sli b77 0 (n + 1) (n + 1)))) (new := [i64 k, i64 s, i64 lo, i64 hi, (sli b77 0 (n + 1) (n + 1))]) X93 nb9 hM94 dS27 g96 rfl rfl (Nat.zero_le _) (Nat.le_of_ble_eq_true rfl) rfl
  replace g102 : M100.get b9 = some ⟨[i64 k, i64 s, i64 lo, i64 hi, (sli b77 0 (n + 1) (n + 1))], 27, 5, 0, true⟩ := g102
  have g107 := (kp103 _ db1b9).trans g91
  have g108 := (kp103 _ (Ne.symm db9b44)).trans g97
  have g109 := (kp103 _ (Ne.symm db9b65)).trans g98
  have g110 := (kp103 _ (Ne.symm db9b77)).trans g99
  have hraw := w26_5_raw k s lo hi x y z b o n c rows M b1 M2 b9 M10 M20 M33 b44 M45 b54 M55 b65 M66 b77 M78 M89 M100
  have hres := aload_agg (a := ⟨b9, 0, none⟩) dA27 dS27 g102 rfl
  exact Con.qh5 (Ev.told_cell noNumP mixedP Tryd.func26 q26_ok (by kernel_rfl) rK26 (sK hS26_23) (fun _ _ => rfl) hraw hres (hk (q_eq (by rw [← eb3, ← em4]; kernel_rfl) Nat.one_ne_zero) (hk (q_eq (by rw [← eb11, ← em12]; kernel_rfl) Nat.one_ne_zero) (hk (lC dC25 g16 rfl) (hk (bT cc0) (hk (bT cc0) (hk (q_call rfl p21 l22 e23) (hk (bT cc0) (hk (bT cc0) (hk (bF cc1) (hk (q_call rfl p34 l35 e36) (hk (q_eq (by rw [← eb46, ← em47]; kernel_rfl) Nat.one_ne_zero) (hk (lC dC25 g51 rfl) (hk (q_app (by rw [← eb56, ← em57]; exact append_rows (w := 5) (y := 56) (by kernel_rfl) (by kernel_rfl) (by kernel_rfl) (by decide) (by decide) (SlAt.Ext X53 hs) hrn hr.wide h0 (by omega) hr.cells g48) Nat.one_ne_zero) (hk (q_eq (by rw [← eb67, ← em68]; kernel_rfl) Nat.one_ne_zero) (hk (q_app (by rw [← eb79, ← em80]; exact append_more (w := 5) (by kernel_rfl) (by kernel_rfl) (y := 56) (by kernel_rfl) (by decide) (by decide) (by omega) g69 rfl rfl rfl g75 hfl rfl rfl rfl rfl) (Nat.succ_ne_zero _)) (hk (q_st q90) (hk (lA ⟨dA27, dS27⟩ g91 rfl) (hk (q_st q101) hn))))))))))))))))))) X104 hln hr hs (by omega) (fun H hH r1 s1 => qh_row (rows := rows ++ [[i64 3, i64 0, i64 0, i64 0, .slice none 0 0]]) k s lo hi hH nb77 g110 (by simp) rfl (RowsAt.app (RowsAt.ext (fun _ _ h => hidx_ext X104 h) _ _ r1) (flat_row 3 0 0 0)) (by simp [hln]) (by omega))
theorem w26_6_raw (k s lo hi x y z : Int) (b o n c : Nat) (_ : List (List Value)) (M : Mem) (b1 : Nat) (M2 : Mem) (b9 : Nat) (M10 M20 M33 : Mem) (c1 : Nat) (M44 M52 : Mem) : oT Tryd.prog [] 60 Tryd.f26 q26 [(nd5 k s lo hi (sli b o n c)), i64 x, i64 y, i64 z] M [ttV 1 (pt b1 0) M2, ttV 3 (pt b9 0) M10, ttL 7 (sli b o n c), ttT 14, ttT 16, ttV 17 (i64 (modI x 3)) M20, ttT 18, ttT 21, ttF 22, ttV 26 (i64 5) M33, ttL 60 (sli b o n c), ttT 65, ttL 69 (sli b o n c), .at 71 (1, .val (sli b (o + 5) ((n - 1)) c1), noMem), ttS 75 M44, ttL 77 (nd5 k s lo hi (sli b (o + 5) ((n - 1)) c1)), ttS 79 M52] 8 = some (.ret, some (pt b9 0), M52, [.eq (abox Tryd.prog 27 (nd5 k s lo hi (sli b o n c)) M) (1, .val (pt b1 0), M2), .eq (aalloc Tryd.prog 27 M2) (1, .val (pt b9 0), M10), qL 25 b1 4 M10 (sli b o n c), qT (decide ((((n : Nat) : Int)) > (0 : Int))), qT (decide ((((n : Nat) : Int)) > (0 : Int))), qC 23 [i64 x, i64 3] M10 (i64 (modI x 3)) M20, qT (decide ((((n : Nat) : Int)) > (0 : Int))), qT (decide ((((n : Nat) : Int)) > (0 : Int))), qF (decide ((modI x 3) > (0 : Int))), qC 23 [i64 y, i64 6] M20 (i64 5) M33, qL 25 b1 4 M33 (sli b o n c), qT (decide ((((n : Nat) : Int)) > (0 : Int))), qL 25 b1 4 M33 (sli b o n c), .q (.slice 25 (sli b o n c) (some (i64 1)) none none M33) (1, .val (sli b (o + 5) ((n - 1)) c1), noMem), qS 25 b1 4 (sli b (o + 5) ((n - 1)) c1) M33 M44, qL 27 b1 0 M44 (nd5 k s lo hi (sli b (o + 5) ((n - 1)) c1)), qS 27 b9 0 (nd5 k s lo hi (sli b (o + 5) ((n - 1)) c1)) M44 M52]) := by kernel_rfl
theorem w26_6 (k s lo hi x y z : Int) (b o n c : Nat) (rows : List (List Value)) {l : List DT} {M : Mem} (hM : MemOk M) (hln : l.length = n) (h0 : 0 < n) (hsm : n ≤ 1000) (hr : RowsAt 5 M l rows) (hs : SlAt M (.slice (some ⟨b, o, none⟩) n c) n rows) (cc0 : (decide ((((n : Nat) : Int)) > (0 : Int))) = true) (cc1 : (decide ((modI x 3) > (0 : Int))) = false) (cc2 : modI y 6 = 5) : ∃ v M', Con Tryd.prog [] 26 (Qh 5) [(nd5 k s lo hi (sli b o n c)), i64 x, i64 y, i64 z] M v M' := by
  have hrn : rows.length = n := hr.len.trans hln
  have hfl : rows.flatten.length = n * 5 := by rw [rows_len hr.wide, hrn]
  obtain ⟨b1, M2, eb3, em4, g5, E6, hM7⟩ := new_t hM ⟨[i64 k, i64 s, i64 lo, i64 hi, (sli b o n c)], 27, 5, 0, true⟩
  have nb1 : M.next ≤ b1 := by rw [← eb3]; exact (Ext.refl M).next
  have X8 := (Ext.refl M).trans E6
  obtain ⟨b9, M10, eb11, em12, g13, E14, hM15⟩ := new_t hM7 ⟨[i64 0, i64 0, i64 0, i64 0, sln], 27, 5, 0, true⟩
  have nb9 := nb_of eb11 X8
  have db1b9 := ne_new g5 eb11
  have g16 := E14.old g5
  have X17 := X8.trans E14
  obtain ⟨w18, N19, M20, p21, l22, e23, E24, hM25, Q26, G27⟩ := call_t hM15 (con23 x 3 (by decide))
  have g28 := E24.old g16
  have g29 := E24.old g13
  have ew18 : w18 = i64 (modI x 3) := (Option.some.inj Q26).symm
  subst ew18
  have X30 := X17.trans E24
  obtain ⟨w31, N32, M33, p34, l35, e36, E37, hM38, Q39, G40⟩ := call_t hM25 (con23 y 6 (by decide))
  have g41 := E37.old g28
  have g42 := E37.old g29
  have ew31 : w31 = i64 5 := by
    have h : i64 (modI y 6) = w31 := Option.some.inj Q39
    rw [← h, cc2]
  subst ew31
  have X43 := X30.trans E37
  obtain ⟨c1, hsl⟩ := slice_rest (P := Tryd.prog) (t := 25) (w := 5) (by kernel_rfl) dS27 (SlAt.Ext X43 hs) h0 hr.wide hrn
  obtain ⟨M44, q45, g46, kp47, X48, hM49, nx50⟩ := store_t (o := 4) (v := (sli b (o + 5) ((n - 1)) c1)) (new := [i64 k, i64 s, i64 lo, i64 hi, (sli b (o + 5) ((n - 1)) c1)]) X43 nb1 hM38 dS25 g41 rfl rfl (Nat.zero_le _) (Nat.le_of_ble_eq_true rfl) rfl
  replace g46 : M44.get b1 = some ⟨[i64 k, i64 s, i64 lo, i64 hi, (sli b (o + 5) ((n - 1)) c1)], 27, 5, 0, true⟩ := g46
  have g51 := (kp47 _ (Ne.symm db1b9)).trans g42
  obtain ⟨M52, q53, g54, kp55, X56, hM57, nx58⟩ := store_t (o := 0) (v := (nd5 k s lo hi (sli b (o + 5) ((n - 1)) c1))) (new := [i64 k, i64 s, i64 lo, i64 hi, (sli b (o + 5) ((n - 1)) c1)]) X48 nb9 hM49 dS27 g51 rfl rfl (Nat.zero_le _) (Nat.le_of_ble_eq_true rfl) rfl
  replace g54 : M52.get b9 = some ⟨[i64 k, i64 s, i64 lo, i64 hi, (sli b (o + 5) ((n - 1)) c1)], 27, 5, 0, true⟩ := g54
  have g59 := (kp55 _ db1b9).trans g46
  have hraw := w26_6_raw k s lo hi x y z b o n c rows M b1 M2 b9 M10 M20 M33 c1 M44 M52
  have hres := aload_agg (a := ⟨b9, 0, none⟩) dA27 dS27 g54 rfl
  exact Con.qh5 (Ev.told_cell noNumP mixedP Tryd.func26 q26_ok (by kernel_rfl) rK26 (sK hS26_23) (fun _ _ => rfl) hraw hres (hk (q_eq (by rw [← eb3, ← em4]; kernel_rfl) Nat.one_ne_zero) (hk (q_eq (by rw [← eb11, ← em12]; kernel_rfl) Nat.one_ne_zero) (hk (lC dC25 g16 rfl) (hk (bT cc0) (hk (bT cc0) (hk (q_call rfl p21 l22 e23) (hk (bT cc0) (hk (bT cc0) (hk (bF cc1) (hk (q_call rfl p34 l35 e36) (hk (lC dC25 g41 rfl) (hk (bT cc0) (hk (lC dC25 g41 rfl) (hk (⟨_, rfl, hsl⟩) (hk (q_st q45) (hk (lA ⟨dA27, dS27⟩ g46 rfl) (hk (q_st q53) hn)))))))))))))))))) X56 hln hr hs (by omega) (fun H hH r1 s1 => qh_rest k s lo hi X56 hln h0 r1 s1 (by omega))
theorem w26_e0_raw (k s lo hi x y z : Int) (a : Option Addr) (c : Nat) (M : Mem) (b1 : Nat) (M2 : Mem) (b9 : Nat) (M10 M20 M33 M44 M52 : Mem) : oT Tryd.prog [] 60 Tryd.f26 q26 [(nd5 k s lo hi (.slice a 0 c)), i64 x, i64 y, i64 z] M [ttV 1 (pt b1 0) M2, ttV 3 (pt b9 0) M10, ttL 7 (.slice a 0 c), ttT 9, ttV 26 (i64 0) M20, ttV 35 (i64 (modI z 11)) M33, ttS 39 M44, ttL 41 (nd5 (modI z 11) s lo hi (.slice a 0 c)), ttS 43 M52] 8 = some (.ret, some (pt b9 0), M52, [.eq (abox Tryd.prog 27 (nd5 k s lo hi (.slice a 0 c)) M) (1, .val (pt b1 0), M2), .eq (aalloc Tryd.prog 27 M2) (1, .val (pt b9 0), M10), qL 25 b1 4 M10 (.slice a 0 c), .ln a 0 c, qC 23 [i64 y, i64 6] M10 (i64 0) M20, qC 23 [i64 z, i64 11] M20 (i64 (modI z 11)) M33, qS 3 b1 0 (i64 (modI z 11)) M33 M44, qL 27 b1 0 M44 (nd5 (modI z 11) s lo hi (.slice a 0 c)), qS 27 b9 0 (nd5 (modI z 11) s lo hi (.slice a 0 c)) M44 M52]) := by kernel_rfl
theorem w26_e0 (k s lo hi x y z : Int) (a : Option Addr) (c : Nat) {l : List DT} {M : Mem} (hM : MemOk M) (hln : l.length = 0) (hr : RowsAt 5 M l []) (hs : SlAt M (.slice a 0 c) 0 []) (cc0 : modI y 6 = 0) : ∃ v M', Con Tryd.prog [] 26 (Qh 5) [(nd5 k s lo hi (.slice a 0 c)), i64 x, i64 y, i64 z] M v M' := by
  obtain ⟨b1, M2, eb3, em4, g5, E6, hM7⟩ := new_t hM ⟨[i64 k, i64 s, i64 lo, i64 hi, (.slice a 0 c)], 27, 5, 0, true⟩
  have nb1 : M.next ≤ b1 := by rw [← eb3]; exact (Ext.refl M).next
  have X8 := (Ext.refl M).trans E6
  obtain ⟨b9, M10, eb11, em12, g13, E14, hM15⟩ := new_t hM7 ⟨[i64 0, i64 0, i64 0, i64 0, sln], 27, 5, 0, true⟩
  have nb9 := nb_of eb11 X8
  have db1b9 := ne_new g5 eb11
  have g16 := E14.old g5
  have X17 := X8.trans E14
  obtain ⟨w18, N19, M20, p21, l22, e23, E24, hM25, Q26, G27⟩ := call_t hM15 (con23 y 6 (by decide))
  have g28 := E24.old g16
  have g29 := E24.old g13
  have ew18 : w18 = i64 0 := by
    have h : i64 (modI y 6) = w18 := Option.some.inj Q26
    rw [← h, cc0]
  subst ew18
  have X30 := X17.trans E24
  obtain ⟨w31, N32, M33, p34, l35, e36, E37, hM38, Q39, G40⟩ := call_t hM25 (con23 z 11 (by decide))
  have g41 := E37.old g28
  have g42 := E37.old g29
  have ew31 : w31 = i64 (modI z 11) := (Option.some.inj Q39).symm
  subst ew31
  have X43 := X30.trans E37
  obtain ⟨M44, q45, g46, kp47, X48, hM49, nx50⟩ := store_t (o := 0) (v := (i64 (modI z 11))) (new := [(i64 (modI z 11)), i64 s, i64 lo, i64 hi, (.slice a 0 c)]) X43 nb1 hM38 dS3 g41 rfl rfl (Nat.zero_le _) (Nat.le_of_ble_eq_true rfl) rfl
  replace g46 : M44.get b1 = some ⟨[(i64 (modI z 11)), i64 s, i64 lo, i64 hi, (.slice a 0 c)], 27, 5, 0, true⟩ := g46
  have g51 := (kp47 _ (Ne.symm db1b9)).trans g42
  obtain ⟨M52, q53, g54, kp55, X56, hM57, nx58⟩ := store_t (o := 0) (v := (nd5 (modI z 11) s lo hi (.slice a 0 c))) (new := [(i64 (modI z 11)), i64 s, i64 lo, i64 hi, (.slice a 0 c)]) X48 nb9 hM49 dS27 g51 rfl rfl (Nat.zero_le _) (Nat.le_of_ble_eq_true rfl) rfl
  replace g54 : M52.get b9 = some ⟨[(i64 (modI z 11)), i64 s, i64 lo, i64 hi, (.slice a 0 c)], 27, 5, 0, true⟩ := g54
  have g59 := (kp55 _ db1b9).trans g46
  have hraw := w26_e0_raw k s lo hi x y z a c M b1 M2 b9 M10 M20 M33 M44 M52
  have hres := aload_agg (a := ⟨b9, 0, none⟩) dA27 dS27 g54 rfl
  exact Con.qh5 (Ev.told_cell noNumP mixedP Tryd.func26 q26_ok (by kernel_rfl) rK26 (sK hS26_23) (fun _ _ => rfl) hraw hres (hk (q_eq (by rw [← eb3, ← em4]; kernel_rfl) Nat.one_ne_zero) (hk (q_eq (by rw [← eb11, ← em12]; kernel_rfl) Nat.one_ne_zero) (hk (lC dC25 g16 rfl) (hk (lN hs.ln) (hk (q_call rfl p21 l22 e23) (hk (q_call rfl p34 l35 e36) (hk (q_st q45) (hk (lA ⟨dA27, dS27⟩ g46 rfl) (hk (q_st q53) hn)))))))))) X56 hln hr hs (by omega) (fun H hH r1 s1 => qh_num (modI z 11) s lo hi X56 hln r1 s1 (by omega))
theorem w26_e1_raw (k s lo hi x y z : Int) (a : Option Addr) (c : Nat) (M : Mem) (b1 : Nat) (M2 : Mem) (b9 : Nat) (M10 M20 M33 M44 M52 : Mem) : oT Tryd.prog [] 60 Tryd.f26 q26 [(nd5 k s lo hi (.slice a 0 c)), i64 x, i64 y, i64 z] M [ttV 1 (pt b1 0) M2, ttV 3 (pt b9 0) M10, ttL 7 (.slice a 0 c), ttT 9, ttV 26 (i64 1) M20, ttV 40 (i64 (modI z 34)) M33, ttS 46 M44, ttL 48 (nd5 k (IntKind.wrap .i64 ((modI z 34) - (1 : Int))) lo hi (.slice a 0 c)), ttS 50 M52] 8 = some (.ret, some (pt b9 0), M52, [.eq (abox Tryd.prog 27 (nd5 k s lo hi (.slice a 0 c)) M) (1, .val (pt b1 0), M2), .eq (aalloc Tryd.prog 27 M2) (1, .val (pt b9 0), M10), qL 25 b1 4 M10 (.slice a 0 c), .ln a 0 c, qC 23 [i64 y, i64 6] M10 (i64 1) M20, qC 23 [i64 z, i64 34] M20 (i64 (modI z 34)) M33, qS 3 b1 1 (i64 (IntKind.wrap .i64 ((modI z 34) - (1 : Int)))) M33 M44, qL 27 b1 0 M44 (nd5 k (IntKind.wrap .i64 ((modI z 34) - (1 : Int))) lo hi (.slice a 0 c)), qS 27 b9 0 (nd5 k (IntKind.wrap .i64 ((modI z 34) - (1 : Int))) lo hi (.slice a 0 c)) M44 M52]) := by kernel_rfl
theorem w26_e1 (k s lo hi x y z : Int) (a : Option Addr) (c : Nat) {l : List DT} {M : Mem} (hM : MemOk M) (hln : l.length = 0) (hr : RowsAt 5 M l []) (hs : SlAt M (.slice a 0 c) 0 []) (cc0 : modI y 6 = 1) : ∃ v M', Con Tryd.prog [] 26 (Qh 5) [(nd5 k s lo hi (.slice a 0 c)), i64 x, i64 y, i64 z] M v M' := by
  obtain ⟨b1, M2, eb3, em4, g5, E6, hM7⟩ := new_t hM ⟨[i64 k, i64 s, i64 lo, i64 hi, (.slice a 0 c)], 27, 5, 0, true⟩
  have nb1 : M.next ≤ b1 := by rw [← eb3]; exact (Ext.refl M).next
  have X8 := (Ext.refl M).trans E6
  obtain ⟨b9, M10, eb11, em12, g13, E14, hM15⟩ := new_t hM7 ⟨[i64 0, i64 0, i64 0, i64 0, sln], 27, 5, 0, true⟩
  have nb9 := nb_of eb11 X8
  have db1b9 := ne_new g5 eb11
  have g16 := E14.old g5
  have X17 := X8.trans E14
  obtain ⟨w18, N19, M20, p21, l22, e23, E24, hM25, Q26, G27⟩ := call_t hM15 (con23 y 6 (by decide))
  have g28 := E24.old g16
  have g29 := E24.old g13
  have ew18 : w18 = i64 1 := by
    have h : i64 (modI y 6) = w18 := Option.some.inj Q26
    rw [← h, cc0]
  subst ew18
  have X30 := X17.trans E24
  obtain ⟨w31, N32, M33, p34, l35, e36, E37, hM38, Q39, G40⟩ := call_t hM25 (con23 z 34 (by decide))
  have g41 := E37.old g28
  have g42 := E37.old g29
  have ew31 : w31 = i64 (modI z 34) := (Option.some.inj Q39).symm
  subst ew31
  have X43 := X30.trans E37
  obtain ⟨M44, q45, g46, kp47, X48, hM49, nx50⟩ := store_t (o := 1) (v := (i64 (IntKind.wrap .i64 ((modI z 34) - (1 : Int))))) (new := [i64 k, (i64 (IntKind.wrap .i64 ((modI z 34) - (1 : Int)))), i64 lo, i64 hi, (.slice a 0 c)]) X43 nb1 hM38 dS3 g41 rfl rfl (Nat.zero_le _) (Nat.le_of_ble_eq_true rfl) rfl
  replace g46 : M44.get b1 = some ⟨[i64 k, (i64 (IntKind.wrap .i64 ((modI z 34) - (1 : Int)))), i64 lo, i64 hi, (.slice a 0 c)], 27, 5, 0, true⟩ := g46
  have g51 := (kp47 _ (Ne.symm db1b9)).trans g42
  obtain ⟨M52, q53, g54, kp55, X56, hM57, nx58⟩ := store_t (o := 0) (v := (nd5 k (IntKind.wrap .i64 ((modI z 34) - (1 : Int))) lo hi (.slice a 0 c))) (new := [i64 k, (i64 (IntKind.wrap .i64 ((modI z 34) - (1 : Int)))), i64 lo, i64 hi, (.slice a 0 c)]) X48 nb9 hM49 dS27 g51 rfl rfl (Nat.zero_le _) (Nat.le_of_ble_eq_true rfl) rfl
  replace g54 : M52.get b9 = some ⟨[i64 k, (i64 (IntKind.wrap .i64 ((modI z 34) - (1 : Int)))), i64 lo, i64 hi, (.slice a 0 c)], 27, 5, 0, true⟩ := g54
  have g59 := (kp55 _ db1b9).trans g46
  have hraw := w26_e1_raw k s lo hi x y z a c M b1 M2 b9 M10 M20 M33 M44 M52
  have hres := aload_agg (a := ⟨b9, 0, none⟩) dA27 dS27 g54 rfl
  exact Con.qh5 (Ev.told_cell noNumP mixedP Tryd.func26 q26_ok (by kernel_rfl) rK26 (sK hS26_23) (fun _ _ => rfl) hraw hres (hk (q_eq (by rw [← eb3, ← em4]; kernel_rfl) Nat.one_ne_zero) (hk (q_eq (by rw [← eb11, ← em12]; kernel_rfl) Nat.one_ne_zero) (hk (lC dC25 g16 rfl) (hk (lN hs.ln) (hk (q_call rfl p21 l22 e23) (hk (q_call rfl p34 l35 e36) (hk (q_st q45) (hk (lA ⟨dA27, dS27⟩ g46 rfl) (hk (q_st q53) hn)))))))))) X56 hln hr hs (by omega) (fun H hH r1 s1 => qh_num k (IntKind.wrap .i64 ((modI z 34) - (1 : Int))) lo hi X56 hln r1 s1 (by omega))
theorem w26_e2_raw (k s lo hi x y z : Int) (a : Option Addr) (c : Nat) (M : Mem) (b1 : Nat) (M2 : Mem) (b9 : Nat) (M10 M20 M33 M44 M52 : Mem) : oT Tryd.prog [] 60 Tryd.f26 q26 [(nd5 k s lo hi (.slice a 0 c)), i64 x, i64 y, i64 z] M [ttV 1 (pt b1 0) M2, ttV 3 (pt b9 0) M10, ttL 7 (.slice a 0 c), ttT 9, ttV 26 (i64 2) M20, ttV 45 (i64 (modI z 12)) M33, ttS 51 M44, ttL 53 (nd5 k s (IntKind.wrap .i64 ((modI z 12) - (1 : Int))) hi (.slice a 0 c)), ttS 55 M52] 8 = some (.ret, some (pt b9 0), M52, [.eq (abox Tryd.prog 27 (nd5 k s lo hi (.slice a 0 c)) M) (1, .val (pt b1 0), M2), .eq (aalloc Tryd.prog 27 M2) (1, .val (pt b9 0), M10), qL 25 b1 4 M10 (.slice a 0 c), .ln a 0 c, qC 23 [i64 y, i64 6] M10 (i64 2) M20, qC 23 [i64 z, i64 12] M20 (i64 (modI z 12)) M33, qS 3 b1 2 (i64 (IntKind.wrap .i64 ((modI z 12) - (1 : Int)))) M33 M44, qL 27 b1 0 M44 (nd5 k s (IntKind.wrap .i64 ((modI z 12) - (1 : Int))) hi (.slice a 0 c)), qS 27 b9 0 (nd5 k s (IntKind.wrap .i64 ((modI z 12) - (1 : Int))) hi (.slice a 0 c)) M44 M52]) := by kernel_rfl
theorem w26_e2 (k s lo hi x y z : Int) (a : Option Addr) (c : Nat) {l : List DT} {M : Mem} (hM : MemOk M) (hln : l.length = 0) (hr : RowsAt 5 M l []) (hs : SlAt M (.slice a 0 c) 0 []) (cc0 : modI y 6 = 2) : ∃ v M', Con Tryd.prog [] 26 (Qh 5) [(nd5 k s lo hi (.slice a 0 c)), i64 x, i64 y, i64 z] M v M' := by
  obtain ⟨b1, M2, eb3, em4, g5, E6, hM7⟩ := new_t hM ⟨[i64 k, i64 s, i64 lo, i64 hi, (.slice a 0 c)], 27, 5, 0, true⟩
  have nb1 : M.next ≤ b1 := by rw [← eb3]; exact (Ext.refl M).next
  have X8 := (Ext.refl M).trans E6
  obtain ⟨b9, M10, eb11, em12, g13, E14, hM15⟩ := new_t hM7 ⟨[i64 0, i64 0, i64 0, i64 0, sln], 27, 5, 0, true⟩
  have nb9 := nb_of eb11 X8
  have db1b9 := ne_new g5 eb11
  have g16 := E14.old g5
  have X17 := X8.trans E14
  obtain ⟨w18, N19, M20, p21, l22, e23, E24, hM25, Q26, G27⟩ := call_t hM15 (con23 y 6 (by decide))
  have g28 := E24.old g16
  have g29 := E24.old g13
  have ew18 : w18 = i64 2 := by
    have h : i64 (modI y 6) = w18 := Option.some.inj Q26
    rw [← h, cc0]
  subst ew18
  have X30 := X17.trans E24
  obtain ⟨w31, N32, M33, p34, l35, e36, E37, hM38, Q39, G40⟩ := call_t hM25 (con23 z 12 (by decide))
  have g41 := E37.old g28
  have g42 := E37.old g29
  have ew31 : w31 = i64 (modI z 12) := (Option.some.inj Q39).symm
  subst ew31
  have X43 := X30.trans E37
  obtain ⟨M44, q45, g46, kp47, X48, hM49, nx50⟩ := store_t (o := 2) (v := (i64 (IntKind.wrap .i64 ((modI z 12) - (1 : Int))))) (new := [i64 k, i64 s, (i64 (IntKind.wrap .i64 ((modI z 12) - (1 : Int)))), i64 hi, (.slice a 0 c)]) X43 nb1 hM38 dS3 g41 rfl rfl (Nat.zero_le _) (Nat.le_of_ble_eq_true rfl) rfl
  replace g46 : M44.get b1 = some ⟨[i64 k, i64 s, (i64 (IntKind.wrap .i64 ((modI z 12) - (1 : Int)))), i64 hi, (.slice a 0 c)], 27, 5, 0, true⟩ := g46
  have g51 := (kp47 _ (Ne.symm db1b9)).trans g42
  obtain ⟨M52, q53, g54, kp55, X56, hM57, nx58⟩ := store_t (o := 0) (v := (nd5 k s (IntKind.wrap .i64 ((modI z 12) - (1 : Int))) hi (.slice a 0 c))) (new := [i64 k, i64 s, (i64 (IntKind.wrap .i64 ((modI z 12) - (1 : Int)))), i64 hi, (.slice a 0 c)]) X48 nb9 hM49 dS27 g51 rfl rfl (Nat.zero_le _) (Nat.le_of_ble_eq_true rfl) rfl
  replace g54 : M52.get b9 = some ⟨[i64 k, i64 s, (i64 (IntKind.wrap .i64 ((modI z 12) - (1 : Int)))), i64 hi, (.slice a 0 c)], 27, 5, 0, true⟩ := g54
  have g59 := (kp55 _ db1b9).trans g46
  have hraw := w26_e2_raw k s lo hi x y z a c M b1 M2 b9 M10 M20 M33 M44 M52
  have hres := aload_agg (a := ⟨b9, 0, none⟩) dA27 dS27 g54 rfl
  exact Con.qh5 (Ev.told_cell noNumP mixedP Tryd.func26 q26_ok (by kernel_rfl) rK26 (sK hS26_23) (fun _ _ => rfl) hraw hres (hk (q_eq (by rw [← eb3, ← em4]; kernel_rfl) Nat.one_ne_zero) (hk (q_eq (by rw [← eb11, ← em12]; kernel_rfl) Nat.one_ne_zero) (hk (lC dC25 g16 rfl) (hk (lN hs.ln) (hk (q_call rfl p21 l22 e23) (hk (q_call rfl p34 l35 e36) (hk (q_st q45) (hk (lA ⟨dA27, dS27⟩ g46 rfl) (hk (q_st q53) hn)))))))))) X56 hln hr hs (by omega) (fun H hH r1 s1 => qh_num k s (IntKind.wrap .i64 ((modI z 12) - (1 : Int))) hi X56 hln r1 s1 (by omega))
theorem w26_e3_raw (k s lo hi x y z : Int) (a : Option Addr) (c : Nat) (M : Mem) (b1 : Nat) (M2 : Mem) (b9 : Nat) (M10 M20 M33 M44 M52 : Mem) : oT Tryd.prog [] 60 Tryd.f26 q26 [(nd5 k s lo hi (.slice a 0 c)), i64 x, i64 y, i64 z] M [ttV 1 (pt b1 0) M2, ttV 3 (pt b9 0) M10, ttL 7 (.slice a 0 c), ttT 9, ttV 26 (i64 3) M20, ttV 50 (i64 (modI z 12)) M33, ttS 56 M44, ttL 58 (nd5 k s lo (IntKind.wrap .i64 ((modI z 12) - (1 : Int))) (.slice a 0 c)), ttS 60 M52] 8 = some (.ret, some (pt b9 0), M52, [.eq (abox Tryd.prog 27 (nd5 k s lo hi (.slice a 0 c)) M) (1, .val (pt b1 0), M2), .eq (aalloc Tryd.prog 27 M2) (1, .val (pt b9 0), M10), qL 25 b1 4 M10 (.slice a 0 c), .ln a 0 c, qC 23 [i64 y, i64 6] M10 (i64 3) M20, qC 23 [i64 z, i64 12] M20 (i64 (modI z 12)) M33, qS 3 b1 3 (i64 (IntKind.wrap .i64 ((modI z 12) - (1 : Int)))) M33 M44, qL 27 b1 0 M44 (nd5 k s lo (IntKind.wrap .i64 ((modI z 12) - (1 : Int))) (.slice a 0 c)), qS 27 b9 0 (nd5 k s lo (IntKind.wrap .i64 ((modI z 12) - (1 : Int))) (.slice a 0 c)) M44 M52]) := by kernel_rfl
theorem w26_e3 (k s lo hi x y z : Int) (a : Option Addr) (c : Nat) {l : List DT} {M : Mem} (hM : MemOk M) (hln : l.length = 0) (hr : RowsAt 5 M l []) (hs : SlAt M (.slice a 0 c) 0 []) (cc0 : modI y 6 = 3) : ∃ v M', Con Tryd.prog [] 26 (Qh 5) [(nd5 k s lo hi (.slice a 0 c)), i64 x, i64 y, i64 z] M v M' := by
  obtain ⟨b1, M2, eb3, em4, g5, E6, hM7⟩ := new_t hM ⟨[i64 k, i64 s, i64 lo, i64 hi, (.slice a 0 c)], 27, 5, 0, true⟩
  have nb1 : M.next ≤ b1 := by rw [← eb3]; exact (Ext.refl M).next
  have X8 := (Ext.refl M).trans E6
  obtain ⟨b9, M10, eb11, em12, g13, E14, hM15⟩ := new_t hM7 ⟨[i64 0, i64 0, i64 0, i64 0, sln], 27, 5, 0, true⟩
  have nb9 := nb_of eb11 X8
  have db1b9 := ne_new g5 eb11
  have g16 := E14.old g5
  have X17 := X8.trans E14
  obtain ⟨w18, N19, M20, p21, l22, e23, E24, hM25, Q26, G27⟩ := call_t hM15 (con23 y 6 (by decide))
  have g28 := E24.old g16
  have g29 := E24.old g13
  have ew18 : w18 = i64 3 := by
    have h : i64 (modI y 6) = w18 := Option.some.inj Q26
    rw [← h, cc0]
  subst ew18
  have X30 := X17.trans E24
  obtain ⟨w31, N32, M33, p34, l35, e36, E37, hM38, Q39, G40⟩ := call_t hM25 (con23 z 12 (by decide))
  have g41 := E37.old g28
  have g42 := E37.old g29
  have ew31 : w31 = i64 (modI z 12) := (Option.some.inj Q39).symm
  subst ew31
  have X43 := X30.trans E37
  obtain ⟨M44, q45, g46, kp47, X48, hM49, nx50⟩ := store_t (o := 3) (v := (i64 (IntKind.wrap .i64 ((modI z 12) - (1 : Int))))) (new := [i64 k, i64 s, i64 lo, (i64 (IntKind.wrap .i64 ((modI z 12) - (1 : Int)))), (.slice a 0 c)]) X43 nb1 hM38 dS3 g41 rfl rfl (Nat.zero_le _) (Nat.le_of_ble_eq_true rfl) rfl
  replace g46 : M44.get b1 = some ⟨[i64 k, i64 s, i64 lo, (i64 (IntKind.wrap .i64 ((modI z 12) - (1 : Int)))), (.slice a 0 c)], 27, 5, 0, true⟩ := g46
  have g51 := (kp47 _ (Ne.symm db1b9)).trans g42
  obtain ⟨M52, q53, g54, kp55, X56, hM57, nx58⟩ := store_t (o := 0) (v := (nd5 k s lo (IntKind.wrap .i64 ((modI z 12) - (1 : Int))) (.slice a 0 c))) (new := [i64 k, i64 s, i64 lo, (i64 (IntKind.wrap .i64 ((modI z 12) - (1 : Int)))), (.slice a 0 c)]) X48 nb9 hM49 dS27 g51 rfl rfl (Nat.zero_le _) (Nat.le_of_ble_eq_true rfl) rfl
  replace g54 : M52.get b9 = some ⟨[i64 k, i64 s, i64 lo, (i64 (IntKind.wrap .i64 ((modI z 12) - (1 : Int)))), (.slice a 0 c)], 27, 5, 0, true⟩ := g54
  have g59 := (kp55 _ db1b9).trans g46
  have hraw := w26_e3_raw k s lo hi x y z a c M b1 M2 b9 M10 M20 M33 M44 M52
  have hres := aload_agg (a := ⟨b9, 0, none⟩) dA27 dS27 g54 rfl
  exact Con.qh5 (Ev.told_cell noNumP mixedP Tryd.func26 q26_ok (by kernel_rfl) rK26 (sK hS26_23) (fun _ _ => rfl) hraw hres (hk (q_eq (by rw [← eb3, ← em4]; kernel_rfl) Nat.one_ne_zero) (hk (q_eq (by rw [← eb11, ← em12]; kernel_rfl) Nat.one_ne_zero) (hk (lC dC25 g16 rfl) (hk (lN hs.ln) (hk (q_call rfl p21 l22 e23) (hk (q_call rfl p34 l35 e36) (hk (q_st q45) (hk (lA ⟨dA27, dS27⟩ g46 rfl) (hk (q_st q53) hn)))))))))) X56 hln hr hs (by omega) (fun H hH r1 s1 => qh_num k s lo (IntKind.wrap .i64 ((modI z 12) - (1 : Int))) X56 hln r1 s1 (by omega))
theorem w26_e5_raw (k s lo hi x y z : Int) (a : Option Addr) (c : Nat) (M : Mem) (b1 : Nat) (M2 : Mem) (b9 : Nat) (M10 M20 M31 : Mem) : oT Tryd.prog [] 60 Tryd.f26 q26 [(nd5 k s lo hi (.slice a 0 c)), i64 x, i64 y, i64 z] M [ttV 1 (pt b1 0) M2, ttV 3 (pt b9 0) M10, ttL 7 (.slice a 0 c), ttT 9, ttV 26 (i64 5) M20, ttL 60 (.slice a 0 c), ttT 62, ttL 67 (nd5 k s lo hi (.slice a 0 c)), ttS 69 M31] 8 = some (.ret, some (pt b9 0), M31, [.eq (abox Tryd.prog 27 (nd5 k s lo hi (.slice a 0 c)) M) (1, .val (pt b1 0), M2), .eq (aalloc Tryd.prog 27 M2) (1, .val (pt b9 0), M10), qL 25 b1 4 M10 (.slice a 0 c), .ln a 0 c, qC 23 [i64 y, i64 6] M10 (i64 5) M20, qL 25 b1 4 M20 (.slice a 0 c), .ln a 0 c, qL 27 b1 0 M20 (nd5 k s lo hi (.slice a 0 c)), qS 27 b9 0 (nd5 k s lo hi (.slice a 0 c)) M20 M31]) := by kernel_rfl
theorem w26_e5 (k s lo hi x y z : Int) (a : Option Addr) (c : Nat) {l : List DT} {M : Mem} (hM : MemOk M) (hln : l.length = 0) (hr : RowsAt 5 M l []) (hs : SlAt M (.slice a 0 c) 0 []) (cc0 : modI y 6 = 5) : ∃ v M', Con Tryd.prog [] 26 (Qh 5) [(nd5 k s lo hi (.slice a 0 c)), i64 x, i64 y, i64 z] M v M' := by
  obtain ⟨b1, M2, eb3, em4, g5, E6, hM7⟩ := new_t hM ⟨[i64 k, i64 s, i64 lo, i64 hi, (.slice a 0 c)], 27, 5, 0, true⟩
  have nb1 : M.next ≤ b1 := by rw [← eb3]; exact (Ext.refl M).next
  have X8 := (Ext.refl M).trans E6
  obtain ⟨b9, M10, eb11, em12, g13, E14, hM15⟩ := new_t hM7 ⟨[i64 0, i64 0, i64 0, i64 0, sln], 27, 5, 0, true⟩
  have nb9 := nb_of eb11 X8
  have db1b9 := ne_new g5 eb11
  have g16 := E14.old g5
  have X17 := X8.trans E14
  obtain ⟨w18, N19, M20, p21, l22, e23, E24, hM25, Q26, G27⟩ := call_t hM15 (con23 y 6 (by decide))
  have g28 := E24.old g16
  have g29 := E24.old g13
  have ew18 : w18 = i64 5 := by
    have h : i64 (modI y 6) = w18 := Option.some.inj Q26
    rw [← h, cc0]
  subst ew18
  have X30 := X17.trans E24
  obtain ⟨M31, q32, g33, kp34, X35, hM36, nx37⟩ := store_t (o := 0) (v := (nd5 k s lo hi (.slice a 0 c))) (new := [i64 k, i64 s, i64 lo, i64 hi, (.slice a 0 c)]) X30 nb9 hM25 dS27 g29 rfl rfl (Nat.zero_le _) (Nat.le_of_ble_eq_true rfl) rfl
  replace g33 : M31.get b9 = some ⟨[i64 k, i64 s, i64 lo, i64 hi, (.slice a 0 c)], 27, 5, 0, true⟩ := g33
  have g38 := (kp34 _ db1b9).trans g28
  have hraw := w26_e5_raw k s lo hi x y z a c M b1 M2 b9 M10 M20 M31
  have hres := aload_agg (a := ⟨b9, 0, none⟩) dA27 dS27 g33 rfl
  exact Con.qh5 (Ev.told_cell noNumP mixedP Tryd.func26 q26_ok (by kernel_rfl) rK26 (sK hS26_23) (fun _ _ => rfl) hraw hres (hk (q_eq (by rw [← eb3, ← em4]; kernel_rfl) Nat.one_ne_zero) (hk (q_eq (by rw [← eb11, ← em12]; kernel_rfl) Nat.one_ne_zero) (hk (lC dC25 g16 rfl) (hk (lN hs.ln) (hk (q_call rfl p21 l22 e23) (hk (lC dC25 g28 rfl) (hk (lN hs.ln) (hk (lA ⟨dA27, dS27⟩ g28 rfl) (hk (q_st q32) hn)))))))))) X35 hln hr hs (by omega) (fun H hH r1 s1 => qh_num k s lo hi X35 hln r1 s1 (by omega))
theorem w26_e4_raw (k s lo hi x y z : Int) (a : Option Addr) (c : Nat) (M : Mem) (b1 : Nat) (M2 : Mem) (b9 : Nat) (M10 M20 : Mem) (b31 : Nat) (M32 : Mem) (b41 : Nat) (M42 : Mem) (b52 : Nat) (M53 M64 M75 : Mem) : oT Tryd.prog [] 60 Tryd.f26 q26 [(nd5 k s lo hi (.slice a 0 c)), i64 x, i64 y, i64 z] M [ttV 1 (pt b1 0) M2, ttV 3 (pt b9 0) M10, ttL 7 (.slice a 0 c), ttT 9, ttV 26 (i64 4) M20, ttV 53 (sli b31 0 0 1) M32, ttL 57 (.slice a 0 c), .at 59 (1, .val (sli b31 0 0 1), M32), ttV 63 (sli b41 0 1 2) M42, .at 65 (1, .val (sli b52 0 1 1), M53), ttS 69 M64, ttL 71 (nd5 k s lo hi (sli b52 0 1 1)), ttS 73 M75] 8 = some (.ret, some (pt b9 0), M75, [.eq (abox Tryd.prog 27 (nd5 k s lo hi (.slice a 0 c)) M) (1, .val (pt b1 0), M2), .eq (aalloc Tryd.prog 27 M2) (1, .val (pt b9 0), M10), qL 25 b1 4 M10 (.slice a 0 c), .ln a 0 c, qC 23 [i64 y, i64 6] M10 (i64 4) M20, .eq (abuildSlice Tryd.prog 25 0 [] M20) (1, .val (sli b31 0 0 1), M32), qL 25 b1 4 M32 (.slice a 0 c), .q (.append [25, 25] (sli b31 0 0 1) (.slice a 0 c) M32) (1, .val (sli b31 0 0 1), M32), .eq (abuildSlice Tryd.prog 25 1 [(0, (nd5 3 0 0 0 sln))] M32) (1, .val (sli b41 0 1 2), M42), .q (.append [25, 25] (sli b31 0 0 1) (sli b41 0 1 2) M42) (1, .val (sli b52 0 1 1), M53), qS 25 b1 4 (sli b52 0 1 1) M53 M64, qL 27 b1 0 M64 (nd5 k s lo hi (sli b52 0 1 1)), qS 27 b9 0 (nd5 k s lo hi (sli b52 0 1 1)) M64 M75]) := by kernel_rfl
theorem w26_e4 (k s lo hi x y z : Int) (a : Option Addr) (c : Nat) {l : List DT} {M : Mem} (hM : MemOk M) (hln : l.length = 0) (hr : RowsAt 5 M l []) (hs : SlAt M (.slice a 0 c) 0 []) (cc0 : modI y 6 = 4) : ∃ v M', Con Tryd.prog [] 26 (Qh 5) [(nd5 k s lo hi (.slice a 0 c)), i64 x, i64 y, i64 z] M v M' := by
  obtain ⟨b1, M2, eb3, em4, g5, E6, hM7⟩ := new_t hM ⟨[i64 k, i64 s, i64 lo, i64 hi, (.slice a 0 c)], 27, 5, 0, true⟩
  have nb1 : M.next ≤ b1 := by rw [← eb3]; exact (Ext.refl M).next
  have X8 := (Ext.refl M).trans E6
  obtain ⟨b9, M10, eb11, em12, g13, E14, hM15⟩ := new_t hM7 ⟨[i64 0, i64 0, i64 0, i64 0, sln], 27, 5, 0, true⟩
  have nb9 := nb_of eb11 X8
  have db1b9 := ne_new g5 eb11
  have g16 := E14.old g5
  have X17 := X8.trans E14
  obtain ⟨w18, N19, M20, p21, l22, e23, E24, hM25, Q26, G27⟩ := call_t hM15 (con23 y 6 (by decide))
  have g28 := E24.old g16
  have g29 := E24.old g13
  have ew18 : w18 = i64 4 := by
    have h : i64 (modI y 6) = w18 := Option.some.inj Q26
    rw [← h, cc0]
  subst ew18
  have X30 := X17.trans E24
  obtain ⟨b31, M32, eb33, em34, g35, E36, hM37⟩ := new_t hM25 ⟨[], 27, 5, 0, true⟩
  have nb31 := nb_of eb33 X30
  have db1b31 := ne_new g28 eb33
  have db9b31 := ne_new g29 eb33
  have g38 := E36.old g28
  have g39 := E36.old g29
  have X40 := X30.trans E36
  obtain ⟨b41, M42, eb43, em44, g45, E46, hM47⟩ := new_t hM37 ⟨[i64 3, i64 0, i64 0, i64 0, sln], 27, 5, 0, true⟩
  have nb41 := nb_of eb43 X40
  have db1b41 := ne_new g38 eb43
  have db9b41 := ne_new g39 eb43
  have db31b41 := ne_new g35 eb43
  have g48 := E46.old g38
  have g49 := E46.old g39
  have g50 := E46.old g35
  have X51 := X40.trans E46
  obtain ⟨b52, M53, eb54, em55, g56, E58, hM57⟩ := new_t hM47 ⟨[i64 3, i64 0, i64 0, i64 0, sln], 27, 5, 0, true⟩
  have nb52 := nb_of eb54 X51
  have db1b52 := ne_new g48 eb54
  have db9b52 := ne_new g49 eb54
  have db31b52 := ne_new g50 eb54
  have db41b52 := ne_new g45 eb54
  have g60 := E58.old g48
  have g61 := E58.old g49
  have g62 := E58.old g50
  have g63 := E58.old g45
  have X59 := X51.trans E58
  obtain ⟨M64, q65, g66, kp67, X68, hM69, nx70⟩ := store_t (o := 4) (v := (sli b52 0 1 1)) (new := [i64 k, i64 s, i64 lo, i64 hi, (sli b52 0 1 1)]) X59 nb1 hM57 dS25 g60 rfl rfl (Nat.zero_le _) (Nat.le_of_ble_eq_true rfl) rfl
  replace g66 : M64.get b1 = some ⟨[i64 k, i64 s, i64 lo, i64 hi, (sli b52 0 1 1)], 27, 5, 0, true⟩ := g66
  have g71 := (kp67 _ (Ne.symm db1b9)).trans g61
  have g72 := (kp67 _ (Ne.symm db1b31)).trans g62
  have g73 := (kp67 _ (Ne.symm db1b41)).trans g63
  have g74 := (kp67 _ (Ne.symm db1b52)).trans g56
  obtain ⟨M75, q76, g77, kp78, X79, hM80, nx81⟩ := store_t (o := 0) (v := (nd5 k s lo hi (sli b52 0 1 1))) (new := [i64 k, i64 s, i64 lo, i64 hi, (sli b52 0 1 1)]) X68 nb9 hM69 dS27 g71 rfl rfl (Nat.zero_le _) (Nat.le_of_ble_eq_true rfl) rfl
  replace g77 : M75.get b9 = some ⟨[i64 k, i64 s, i64 lo, i64 hi, (sli b52 0 1 1)], 27, 5, 0, true⟩ := g77
  have g82 := (kp78 _ db1b9).trans g66
  have g83 := (kp78 _ (Ne.symm db9b31)).trans g72
  have g84 := (kp78 _ (Ne.symm db9b41)).trans g73
  have g85 := (kp78 _ (Ne.symm db9b52)).trans g74
  have hraw := w26_e4_raw k s lo hi x y z a c M b1 M2 b9 M10 M20 b31 M32 b41 M42 b52 M53 M64 M75
  have hres := aload_agg (a := ⟨b9, 0, none⟩) dA27 dS27 g77 rfl
  exact Con.qh5 (Ev.told_cell noNumP mixedP Tryd.func26 q26_ok (by kernel_rfl) rK26 (sK hS26_23) (fun _ _ => rfl) hraw hres (hk (q_eq (by rw [← eb3, ← em4]; kernel_rfl) Nat.one_ne_zero) (hk (q_eq (by rw [← eb11, ← em12]; kernel_rfl) Nat.one_ne_zero) (hk (lC dC25 g16 rfl) (hk (lN hs.ln) (hk (q_call rfl p21 l22 e23) (hk (q_eq (by rw [← eb33, ← em34]; kernel_rfl) Nat.one_ne_zero) (hk (lC dC25 g38 rfl) (hk (q_app (append_none (w := 5) (y := 56) (by kernel_rfl) (by kernel_rfl) (by kernel_rfl) (by decide) (by decide) g35) Nat.one_ne_zero) (hk (q_eq (by rw [← eb43, ← em44]; kernel_rfl) Nat.one_ne_zero) (hk (q_app (by rw [← eb54, ← em55]; exact append_lit (w := 5) (y := 56) (by kernel_rfl) (by kernel_rfl) (by kernel_rfl) (by decide) (by decide) g50 g45 rfl rfl rfl) Nat.one_ne_zero) (hk (q_st q65) (hk (lA ⟨dA27, dS27⟩ g66 rfl) (hk (q_st q76) hn)))))))))))))) X79 hln hr hs (by omega) (fun H hH r1 s1 => qh_row k s lo hi hH nb52 g85 rfl rfl (flat_row 3 0 0 0) rfl (by omega))
theorem con26 : ∀ (t : DT) {M : Mem} {v : Value} {x y z : Int}, Small t → MemOk M → NodeAt 5 M t v → ∃ v' M', Con Tryd.prog [] 26 (Qh 5) [v, i64 x, i64 y, i64 z] M v' M'
  | t, M, v, x, y, z, hS, hM, hN => by
    obtain ⟨k, s, lo, hi, l, a, c, rows, ht, rfl, hr, hs, hlen⟩ := hN.five
    have hS' := hS
    rw [ht] at hS'
    obtain ⟨hsm, hall⟩ := hS'.inv
    have ih : ∀ t' ∈ l, ∀ {M v} {x y z : Int}, MemOk M → NodeAt 5 M t' v → ∃ v' M', Con Tryd.prog [] 26 (Qh 5) [v, i64 x, i64 y, i64 z] M v' M' := fun t' h => con26 t' (hall t' h)
    clear hN hS hS'
    obtain ⟨j, hj, e⟩ := modI_cases (x := y) (n := 6) (by decide)
    by_cases h0 : l.length = 0
    · obtain rfl := List.eq_nil_of_length_eq_zero (hr.len.trans h0)
      obtain rfl := List.eq_nil_of_length_eq_zero h0
      match j, hj with
      | 0, _ => exact w26_e0 k s lo hi x y z a c (l := []) hM rfl hr hs e
      | 1, _ => exact w26_e1 k s lo hi x y z a c (l := []) hM rfl hr hs e
      | 2, _ => exact w26_e2 k s lo hi x y z a c (l := []) hM rfl hr hs e
      | 3, _ => exact w26_e3 k s lo hi x y z a c (l := []) hM rfl hr hs e
      | 4, _ => exact w26_e4 k s lo hi x y z a c (l := []) hM rfl hr hs e
      | 5, _ => exact w26_e5 k s lo hi x y z a c (l := []) hM rfl hr hs e
    · have hpos : 0 < l.length := by omega
      have hs0 := hs
      rcases hs with ⟨_, _, h⟩ | ⟨b, o, c', blk, pre, post, h1, h2⟩
      · omega
      cases h1
      have cc0 : decide ((((l.length : Nat) : Int)) > (0 : Int)) = true := by simp; omega
      cases cc1 : decide ((modI x 3) > (0 : Int)) with
      | true =>
        have hkk := modI_range (x := IntKind.wrap .i64 (x.tdiv (3 : Int))) (n := ((l.length : Nat) : Int)) (by omega)
        have hK : (modI (IntKind.wrap .i64 (x.tdiv (3 : Int))) ((l.length : Nat) : Int)).toNat < l.length := by omega
        obtain ⟨t1, ht1⟩ : ∃ t1, l[(modI (IntKind.wrap .i64 (x.tdiv (3 : Int))) ((l.length : Nat) : Int)).toNat]? = some t1 := ⟨_, List.getElem?_eq_getElem hK⟩
        obtain ⟨r, hk1, hN1⟩ := hr.at ht1
        obtain ⟨k1, s1, lo1, hi1, l1, a1, c1, rows1, _, hr1, _⟩ := hN1.five
        simp only [Value.agg.injEq, Array.mk.injEq] at hr1
        rw [hr1] at hk1 hN1
        exact w26_0 k s lo hi x y z b o l.length c rows k1 s1 lo1 hi1 a1 l1.length c1 hM rfl hpos hsm hr hs0 (ih t1 (List.mem_of_getElem? ht1)) ht1 hk1 hN1 cc0 cc1
      | false =>
        match j, hj with
        | 0, _ => exact w26_1 k s lo hi x y z b o l.length c rows hM rfl hpos hsm hr hs0 cc0 cc1 e
        | 1, _ => exact w26_2 k s lo hi x y z b o l.length c rows hM rfl hpos hsm hr hs0 cc0 cc1 e
        | 2, _ => exact w26_3 k s lo hi x y z b o l.length c rows hM rfl hpos hsm hr hs0 cc0 cc1 e
        | 3, _ => exact w26_4 k s lo hi x y z b o l.length c rows hM rfl hpos hsm hr hs0 cc0 cc1 e
        | 4, _ => exact w26_5 k s lo hi x y z b o l.length c rows hM rfl hpos hsm hr hs0 cc0 cc1 e
        | 5, _ => exact w26_6 k s lo hi x y z b o l.length c rows hM rfl hpos hsm hr hs0 cc0 cc1 e
termination_by t => SizeOf.sizeOf t
decreasing_by rw [ht]; exact DT.lt_of_mem h
end Go.Proofs.YtlgkpnlppgihcaaDoor

open Go Go.Am Go.Proofs
namespace Go.Proofs.YtlgkpnlppgihcaaDoor
set_option maxRecDepth 100000
noncomputable def q5 : QC := ((QC.plain [⟨some 6, .no, .box 27 (.tmp 1), 0⟩, ⟨some 10, .no, .assign (.const (.bool false)), 4⟩]).seq (((QC.plain [⟨some 12, .no, .call { callee := Callee.value (Operand.func 13), args := { toList := [] }, argTypes := { toList := [] } }, 4⟩, ⟨some 13, .no, Op.unOp UnOp.not 4 (.tmp 12), 4⟩]).seq (QC.cond (.tmp 13) ((QC.plain [⟨some 10, .no, .assign (.const (.bool false)), 4⟩]).seq QC.ret) QC.skip)).seq (((QC.plain [⟨some 14, .no, .move (.tmp 0), 22⟩, ⟨some 15, .no, .call { callee := Callee.value (Operand.func 14), args := { toList := [.tmp 14] }, argTypes := { toList := [22] } }, 4⟩, ⟨some 16, .no, Op.unOp UnOp.not 4 (.tmp 15), 4⟩, ⟨some 17, .no, .move (.tmp 16), 4⟩, ⟨some 18, .at 17 false, .load 27 (.tmp 6), 27⟩, ⟨some 19, .at 17 false, .call { callee := Callee.value (Operand.func 25), args := { toList := [.tmp 18, .const (.int .i64 (.ofNat 0))] }, argTypes := { toList := [27, 3] } }, 4⟩, ⟨some 20, .at 17 false, Op.unOp UnOp.not 4 (.tmp 19), 4⟩, ⟨some 21, .no, .pick (.tmp 17) (.const (.bool true)) (.tmp 20), 4⟩]).seq (QC.cond (.tmp 21) ((QC.plain [⟨some 10, .no, .assign (.const (.bool true)), 4⟩]).seq QC.ret) QC.skip)).seq ((QC.plain [⟨some 22, .no, .move (.tmp 0), 22⟩, ⟨some 23, .no, .call { callee := Callee.value (Operand.func 15), args := { toList := [.tmp 22] }, argTypes := { toList := [22] } }, 27⟩, ⟨some 24, .no, .move (.tmp 2), 3⟩, ⟨some 25, .no, .move (.tmp 3), 3⟩, ⟨some 26, .no, .move (.tmp 4), 3⟩, ⟨some 27, .no, .call { callee := Callee.value (Operand.func 26), args := { toList := [.tmp 23, .tmp 24, .tmp 25, .tmp 26] }, argTypes := { toList := [27, 3, 3, 3] } }, 27⟩, ⟨some 11, .no, .alloc 27, 0⟩, ⟨none, .no, .store 27 (.tmp 11) (.tmp 27), 0⟩]).seq ((QC.drawn { toList := [{ dst := some 28, op := .load 27 (.tmp 11), type := 27, pos := "law.go:150", after := { toList := [] }, guard := none }, { dst := some 29, op := .call { callee := Callee.value (Operand.func 18), args := { toList := [.tmp 28] }, argTypes := { toList := [27] } }, type := 4, pos := "law.go:150", after := { toList := [{ on := 0, ground := Ground.data }] }, guard := none }, { dst := some 30, op := .load 27 (.tmp 11), type := 27, pos := "law.go:150", after := { toList := [] }, guard := none }, { dst := some 31, op := .call { callee := Callee.value (Operand.func 27), args := { toList := [.tmp 30] }, argTypes := { toList := [27] } }, type := 4, pos := "law.go:150", after := { toList := [{ on := 2, ground := Ground.data }, { on := 1, ground := Ground.chain }] }, guard := none }, { dst := some 32, op := .binOp BinOp.eql 4 (.tmp 29) (.tmp 31) 4, type := 4, pos := "law.go:150", after := { toList := [{ on := 1, ground := Ground.data }, { on := 3, ground := Ground.data }] }, guard := none }, { dst := some 33, op := .move (.tmp 32), type := 4, pos := "law.go:150", after := { toList := [{ on := 4, ground := Ground.data }, { on := 3, ground := Ground.chain }] }, guard := none }, { dst := some 34, op := .load 27 (.tmp 6), type := 27, pos := "law.go:150", after := { toList := [{ on := 5, ground := Ground.guard }] }, guard := some (5, true) }, { dst := some 35, op := .call { callee := Callee.value (Operand.func 18), args := { toList := [.tmp 34] }, argTypes := { toList := [27] } }, type := 4, pos := "law.go:150", after := { toList := [{ on := 6, ground := Ground.data }, { on := 5, ground := Ground.chain }, { on := 5, ground := Ground.guard }] }, guard := some (5, true) }, { dst := some 36, op := .load 27 (.tmp 6), type := 27, pos := "law.go:150", after := { toList := [{ on := 5, ground := Ground.guard }] }, guard := some (5, true) }, { dst := some 37, op := .call { callee := Callee.value (Operand.func 27), args := { toList := [.tmp 36] }, argTypes := { toList := [27] } }, type := 4, pos := "law.go:150", after := { toList := [{ on := 8, ground := Ground.data }, { on := 7, ground := Ground.chain }, { on := 5, ground := Ground.guard }] }, guard := some (5, true) }, { dst := some 38, op := .binOp BinOp.eql 4 (.tmp 35) (.tmp 37) 4, type := 4, pos := "law.go:150", after := { toList := [{ on := 7, ground := Ground.data }, { on := 9, ground := Ground.data }, { on := 5, ground := Ground.guard }] }, guard := some (5, true) }, { dst := some 39, op := .pick (.tmp 33) (.tmp 38) (.const (.bool false)), type := 4, pos := "law.go:150", after := { toList := [{ on := 5, ground := Ground.data }, { on := 10, ground := Ground.data }] }, guard := none }, { dst := some 10, op := .assign (.tmp 39), type := 4, pos := "law.go:150", after := { toList := [{ on := 11, ground := Ground.data }, { on := 9, ground := Ground.chain }, { on := 0, ground := Ground.phase }, { on := 1, ground := Ground.phase }, { on := 2, ground := Ground.phase }, { on := 3, ground := Ground.phase }, { on := 4, ground := Ground.phase }, { on := 5, ground := Ground.phase }, { on := 6, ground := Ground.phase }, { on := 7, ground := Ground.phase }, { on := 8, ground := Ground.phase }, { on := 9, ground := Ground.phase }, { on := 10, ground := Ground.phase }, { on := 11, ground := Ground.phase }] }, guard := none }] }).seq QC.ret)))))
theorem q5_ok : bodyComp Tryd.prog 5 = some q5 := by kernel_rfl
end Go.Proofs.YtlgkpnlppgihcaaDoor

open Go Go.Am Go.Proofs
namespace Go.Proofs.YtlgkpnlppgihcaaDoor
set_option maxRecDepth 100000
theorem rK5 : Tryd.f5.results = #[.tmp 10] := by kernel_rfl
def g13 : List Value → Option Value
  | [] => some (.bool true)
  | _ => none
theorem con13 {M : Mem} : ∃ v M', Con Tryd.prog [] 13 (Fl g13) [] M v M' := ⟨.bool true, M, Ev.of_spec okKnown rfl, Ext.refl M, rfl⟩
theorem hidx_un {H : List (Nat × Nat)} {M : Mem} {t : DT} {v : Value} (h : NodeAt 5 (hidx H M) t v) : NodeAt 5 M t v := NodeAt.ext (fun _ _ h => hidx_out h) _ _ h
theorem hS5_13_14_15_18_25_26_27 (B : Nat) : ∀ p ∈ ([(13, pick (Con Tryd.prog [] 13 (Fl g13))), (14, pick (Con Tryd.prog [] 14 Q14)), (15, pick (Con Tryd.prog [] 15 (Qn 5))), (18, pick (Con Tryd.prog [] 18 Q18)), (25, pick (Con Tryd.prog [] 25 Q25)), (26, pick (Con Tryd.prog [] 26 (Qh 5))), (27, pick (Con Tryd.prog [] 27 Q27))] : List (FuncId × (List Value → Mem → Option (Value × Mem)))), SpecOk Tryd.prog [] B p.1 p.2 := (fun p hp => by simp only [List.mem_cons, List.not_mem_nil, or_false] at hp; rcases hp with rfl | rfl | rfl | rfl | rfl | rfl | rfl <;> first | exact Con.ok _)
theorem w5_0_raw (a0 : Option Addr) (c0 : Nat) (l0 : List DT) (k s lo hi x y z : Int) (a : Option Addr) (n c : Nat) (te : DT) (M : Mem) (b1 : Nat) (M2 M11 M23 M35 : Mem) (y45k y45s y45lo y45hi : Int) (y45a : Option Addr) (y45l : List DT) (y45c : Nat) (M48 : Mem) (y58k y58s y58lo y58hi : Int) (y58a : Option Addr) (y58l : List DT) (y58c : Nat) (y58t : DT) (M61 : Mem) (b71 : Nat) (M72 M81 M100 M118 M136 M154 : Mem) : oT Tryd.prog [] 60 Tryd.f5 q5 [.slice a0 l0.length c0, (nd5 k s lo hi (.slice a n c)), i64 x, i64 y, i64 z] M [ttV 1 (pt b1 0) M2, ttV 5 (.bool true) M11, ttV 12 (.bool (decide (sizeS l0 0 ≤ (14 : Int)))) M23, ttF 17, ttL 18 (nd5 k s lo hi (.slice a n c)), ttF 19, ttV 20 (.bool (fewT te (0 : Int))) M35, ttF 21, ttF 24, ttF 25, ttV 29 (nd5 y45k y45s y45lo y45hi (.slice y45a y45l.length y45c)) M48, ttV 37 (nd5 y58k y58s y58lo y58hi (.slice y58a y58l.length y58c)) M61, ttV 39 (pt b71 0) M72, ttS 41 M81, ttL 43 (nd5 y58k y58s y58lo y58hi (.slice y58a y58l.length y58c)), ttV 45 (.bool (rightT y58t)) M100, ttL 47 (nd5 y58k y58s y58lo y58hi (.slice y58a y58l.length y58c)), ttV 49 (.bool (refT y58t)) M118, ttT 54, ttL 55 (nd5 k s lo hi (.slice a n c)), ttT 56, ttV 57 (.bool (rightT te)) M136, ttT 58, ttL 59 (nd5 k s lo hi (.slice a n c)), ttT 60, ttV 61 (.bool (refT te)) M154, ttT 62, ttT 65] 10 = some (.ret, some (.bool ((rightT te) == (refT te))), (Mem.mk M154.blks M154.next M81.hide (M154.log ++ M81.log)), [.eq (abox Tryd.prog 27 (nd5 k s lo hi (.slice a n c)) M) (1, .val (pt b1 0), M2), qC 13 [] M2 (.bool true) M11, qC 14 [(.slice a0 l0.length c0)] M11 (.bool (decide (sizeS l0 0 ≤ (14 : Int)))) M23, qF (!(decide (sizeS l0 0 ≤ (14 : Int)))), qL 27 b1 0 M23 (nd5 k s lo hi (.slice a n c)), qF (!(decide (sizeS l0 0 ≤ (14 : Int)))), qC 25 [(nd5 k s lo hi (.slice a n c)), i64 0] M23 (.bool (fewT te (0 : Int))) M35, qF (!(decide (sizeS l0 0 ≤ (14 : Int)))), qF (!(decide (sizeS l0 0 ≤ (14 : Int)))), qF (!(fewT te (0 : Int))), qC 15 [(.slice a0 l0.length c0)] M35 (nd5 y45k y45s y45lo y45hi (.slice y45a y45l.length y45c)) M48, qC 26 [(nd5 y45k y45s y45lo y45hi (.slice y45a y45l.length y45c)), i64 x, i64 y, i64 z] M48 (nd5 y58k y58s y58lo y58hi (.slice y58a y58l.length y58c)) M61, .eq (aalloc Tryd.prog 27 M61) (1, .val (pt b71 0), M72), qS 27 b71 0 (nd5 y58k y58s y58lo y58hi (.slice y58a y58l.length y58c)) M72 M81, qL 27 b71 0 (Mem.mk M81.blks M81.next M81.hide []) (nd5 y58k y58s y58lo y58hi (.slice y58a y58l.length y58c)), qC 18 [(nd5 y58k y58s y58lo y58hi (.slice y58a y58l.length y58c))] (Mem.mk M81.blks M81.next M81.hide []) (.bool (rightT y58t)) M100, qL 27 b71 0 (Mem.mk M100.blks M100.next (hides 0 [⟨1, 1, M81.next, M100.next⟩, ⟨0, 1, M81.next, M81.next⟩] ++ M81.hide) M100.log) (nd5 y58k y58s y58lo y58hi (.slice y58a y58l.length y58c)), qT (Nat.blt b71 M81.next), qC 27 [(nd5 y58k y58s y58lo y58hi (.slice y58a y58l.length y58c))] (Mem.mk M100.blks M100.next M81.hide M100.log) (.bool (refT y58t)) M118, qT ((rightT y58t) == (refT y58t)), qL 27 b1 0 (Mem.mk M118.blks M118.next M81.hide M118.log) (nd5 k s lo hi (.slice a n c)), qT ((rightT y58t) == (refT y58t)), qC 18 [(nd5 k s lo hi (.slice a n c))] (Mem.mk M118.blks M118.next M81.hide M118.log) (.bool (rightT te)) M136, qT ((rightT y58t) == (refT y58t)), qL 27 b1 0 (Mem.mk M136.blks M136.next (hides 63 [⟨7, 1, M118.next, M136.next⟩, ⟨6, 1, M118.next, M118.next⟩, ⟨5, 0, M118.next, M118.next⟩, ⟨4, 0, M118.next, M118.next⟩, ⟨3, 1, M100.next, M118.next⟩, ⟨1, 1, M81.next, M100.next⟩, ⟨0, 1, M81.next, M81.next⟩] ++ M81.hide) M136.log) (nd5 k s lo hi (.slice a n c)), qT (Nat.blt b1 M81.next), qT ((rightT y58t) == (refT y58t)), qC 27 [(nd5 k s lo hi (.slice a n c))] (Mem.mk M136.blks M136.next M81.hide M136.log) (.bool (refT te)) M154, qT ((rightT y58t) == (refT y58t)), qT ((rightT y58t) == (refT y58t)), qT (apartN [b1, b71] M154.log)]) := by kernel_rfl
theorem w5_0 (a0 : Option Addr) (c0 : Nat) (l0 : List DT) (k s lo hi x y z : Int) (a : Option Addr) (n c : Nat) (te : DT) {M : Mem} {rows0 : List (List Value)} (hM : MemOk M) (hr0 : RowsAt 3 M l0 rows0) (hs0 : SlAt M (.slice a0 l0.length c0) l0.length rows0) (hl0 : l0.length ≤ 9223372036854775807) (hN : NodeAt 5 M te (nd5 k s lo hi (.slice a n c))) (cc0 : (decide (sizeS l0 0 ≤ (14 : Int))) = true) (cc1 : (fewT te (0 : Int)) = true) : ∃ M', Ev Tryd.prog [] 5 [.slice a0 l0.length c0, (nd5 k s lo hi (.slice a n c)), i64 x, i64 y, i64 z] M (.bool true) M' := by
  obtain ⟨b1, M2, eb3, em4, g5, E6, hM7⟩ := new_t hM ⟨[i64 k, i64 s, i64 lo, i64 hi, (.slice a n c)], 27, 5, 0, true⟩
  have nb1 : M.next ≤ b1 := by rw [← eb3]; exact (Ext.refl M).next
  have X8 := (Ext.refl M).trans E6
  obtain ⟨w9, N10, M11, p12, l13, e14, E15, hM16, Q17, G18⟩ := call_t hM7 (con13)
  have g19 := E15.old g5
  have ew9 : w9 = .bool true := (Option.some.inj Q17).symm
  subst ew9
  have X20 := X8.trans E15
  obtain ⟨w21, N22, M23, p24, l25, e26, E27, hM28, Q29, G30⟩ := call_t hM16 (con14 l0 (MemOk.log hM16) (RowsAt.Ext X20 hr0).log (SlAt.Ext X20 hs0).log hl0)
  have g31 := E27.old g19
  have ew21 := Qs.val (RowsAt.Ext X20 hr0).log (SlAt.Ext X20 hs0).log Q29
  subst ew21
  have X32 := X20.trans E27
  obtain ⟨w33, N34, M35, p36, l37, e38, E39, hM40, Q41, G42⟩ := call_t hM28 (con25 te 0 (MemOk.log hM28) (NodeAt.log (hN.Ext X32)))
  have g43 := E39.old g31
  have ew33 := Qt.val (NodeAt.log (hN.Ext X32)) Q41
  subst ew33
  have X44 := X32.trans E39
  obtain ⟨w46, N47, M48, p49, l50, e51, E52, hM53, Q54, G55⟩ := call_t hM40 (con15 (MemOk.log hM40) (RowsAt.Ext X44 hr0).log (SlAt.Ext X44 hs0).log)
  have g56 := E52.old g43
  obtain ⟨y45t, y45S, y45q⟩ := Q54
  have y45N : NodeAt 5 M48 y45t _ := NodeAt.ext (M := hid M35.next _) (fun _ _ h => hid_out (hid_same G55 h)) _ _ y45q
  obtain ⟨y45k, y45s, y45lo, y45hi, y45l, y45a, y45c, y45r, y45e, y45v, _, _, _⟩ := y45N.five
  subst y45v
  have X57 := X44.trans E52
  obtain ⟨w59, N60, M61, p62, l63, e64, E65, hM66, Q67, G68⟩ := call_t hM53 (con26 y45t y45S (MemOk.log hM53) (NodeAt.log (hidx_un (hidx_nil y45N))))
  have g69 := E65.old g56
  obtain ⟨y58t, y58q⟩ := Qh.five (H := []) Q67 G68 (by simp [hidden]) (hidx_nil (NodeAt.log (hidx_un (hidx_nil y45N))))
  have y58N := hidx_un y58q
  obtain ⟨y58k, y58s, y58lo, y58hi, y58l, y58a, y58c, y58r, y58e, y58v, _, _, _⟩ := y58N.five
  subst y58v
  have X70 := X57.trans E65
  obtain ⟨b71, M72, eb73, em74, g75, E76, hM77⟩ := new_t hM66 ⟨[i64 0, i64 0, i64 0, i64 0, sln], 27, 5, 0, true⟩
  have nb71 := nb_of eb73 X70
  have db1b71 := ne_new g69 eb73
  have hT78 : NodeAt 5 (hidx [(b71, b71 + 1)] M72) y58t (nd5 y58k y58s y58lo y58hi (.slice y58a y58l.length y58c)) := NodeAt.ext (fun _ _ h => hidx_new eb73 E76 h) _ _ (hidx_nil y58N)
  have g79 := E76.old g69
  have X80 := X70.trans E76
  obtain ⟨M81, q82, g83, kp84, X85, hM86, nx87⟩ := store_t (o := 0) (v := (nd5 y58k y58s y58lo y58hi (.slice y58a y58l.length y58c))) (new := [i64 y58k, i64 y58s, i64 y58lo, i64 y58hi, (.slice y58a y58l.length y58c)]) X80 nb71 hM77 dS27 g75 rfl rfl (Nat.zero_le _) (Nat.le_of_ble_eq_true rfl) rfl
  replace g83 : M81.get b71 = some ⟨[i64 y58k, i64 y58s, i64 y58lo, i64 y58hi, (.slice y58a y58l.length y58c)], 27, 5, 0, true⟩ := g83
  have hT88 := nt_keep b71 kp84 (by intro id hh; simp only [hidden_cons, hidden_none, or_false] at hh; omega) hT78
  have g89 := (kp84 _ db1b71).trans g79
  obtain ⟨R90, eR91⟩ : ∃ m : Mem, m = Mem.mk M81.blks M81.next M81.hide [] := ⟨_, rfl⟩
  have X92 : Ext (Mem.mk M.blks M.next M.hide []) R90 := by rw [eR91]; exact Ext.aside (X85)
  have lg93 : R90.log = [] := by rw [eR91]
  have hM94 : MemOk R90 := by rw [eR91]; exact MemOk.log hM86
  have ltb1M81 : b1 < M81.next := Mem.lt_of_get g89
  have g95 : R90.get b1 = some ⟨[i64 k, i64 s, i64 lo, i64 hi, (.slice a n c)], 27, 5, 0, true⟩ := by rw [eR91]; exact g89
  have ltb71M81 : b71 < M81.next := Mem.lt_of_get g83
  have g96 : R90.get b71 = some ⟨[i64 y58k, i64 y58s, i64 y58lo, i64 y58hi, (.slice y58a y58l.length y58c)], 27, 5, 0, true⟩ := by rw [eR91]; exact g83
  have hT97 : NodeAt 5 R90 y58t (nd5 y58k y58s y58lo y58hi (.slice y58a y58l.length y58c)) := by rw [eR91]; exact NodeAt.log (hidx_un hT88)
  obtain ⟨w98, N99, M100, p101, l102, e103, E104, hM105, Q106, G107⟩ := call_t hM94 (con18 y58t (MemOk.log hM94) (NodeAt.log hT97))
  have g108 := E104.old g95
  have g109 := E104.old g96
  have ew98 := Qt.val (NodeAt.log hT97) Q106
  subst ew98
  have lg110 : M100.log = [] := by rw [← e103]; exact lg93
  have X111 := X92.trans E104
  have nx112 := E104.next
  have lb113 := Mem.lt_of_get g108
  have lb114 := Mem.lt_of_get g109
  have hT115 : NodeAt 5 R90 y58t (nd5 y58k y58s y58lo y58hi (.slice y58a y58l.length y58c)) := by rw [eR91]; exact NodeAt.log (hidx_un hT88)
  replace hT115 := NodeAt.Ext E104 hT115
  obtain ⟨w116, N117, M118, p119, l120, e121, E122, hM123, Q124, G125⟩ := call_t hM105 (con27 y58t (MemOk.log hM105) (NodeAt.log hT115))
  have g126 := E122.old g108
  have g127 := E122.old g109
  have ew116 := Qt.val (NodeAt.log hT115) Q124
  subst ew116
  have lg128 : M118.log = [] := by rw [← e121]; exact lg110
  have X129 := X111.trans E122
  have nx130 := E122.next
  have lb131 := Mem.lt_of_get g126
  have lb132 := Mem.lt_of_get g127
  have hT133 : NodeAt 5 R90 te (nd5 k s lo hi (.slice a n c)) := by rw [eR91]; exact NodeAt.log (hN.Ext X85)
  replace hT133 := NodeAt.Ext E104 hT133
  replace hT133 := NodeAt.Ext E122 hT133
  obtain ⟨w134, N135, M136, p137, l138, e139, E140, hM141, Q142, G143⟩ := call_t hM123 (con18 te (MemOk.log hM123) (NodeAt.log hT133))
  have g144 := E140.old g126
  have g145 := E140.old g127
  have ew134 := Qt.val (NodeAt.log hT133) Q142
  subst ew134
  have lg146 : M136.log = [] := by rw [← e139]; exact lg128
  have X147 := X129.trans E140
  have nx148 := E140.next
  have lb149 := Mem.lt_of_get g144
  have lb150 := Mem.lt_of_get g145
  have hT151 : NodeAt 5 R90 te (nd5 k s lo hi (.slice a n c)) := by rw [eR91]; exact NodeAt.log (hN.Ext X85)
  replace hT151 := NodeAt.Ext E104 hT151
  replace hT151 := NodeAt.Ext E122 hT151
  replace hT151 := NodeAt.Ext E140 hT151
  obtain ⟨w152, N153, M154, p155, l156, e157, E158, hM159, Q160, G161⟩ := call_t hM141 (con27 te (MemOk.log hM141) (NodeAt.log hT151))
  have g162 := E158.old g144
  have g163 := E158.old g145
  have ew152 := Qt.val (NodeAt.log hT151) Q160
  subst ew152
  have lg164 : M154.log = [] := by rw [← e157]; exact lg146
  have X165 := X147.trans E158
  have nx166 := E158.next
  have lb167 := Mem.lt_of_get g162
  have lb168 := Mem.lt_of_get g163
  obtain ⟨M169, ef170⟩ : ∃ m : Mem, m = (Mem.mk M154.blks M154.next M154.hide (M154.log ++ M81.log)) := ⟨_, rfl⟩
  have X171 : Ext M M169 := by rw [ef170]; exact Ext.join (X85) (X165)
  have hM172 : MemOk M169 := by rw [ef170]; exact hM159
  have g173 : M169.get b1 = some ⟨[i64 k, i64 s, i64 lo, i64 hi, (.slice a n c)], 27, 5, 0, true⟩ := by rw [ef170]; exact g162
  have g174 : M169.get b71 = some ⟨[i64 y58k, i64 y58s, i64 y58lo, i64 y58hi, (.slice y58a y58l.length y58c)], 27, 5, 0, true⟩ := by rw [ef170]; exact g163
  have hraw := w5_0_raw a0 c0 l0 k s lo hi x y z a n c te M b1 M2 M11 M23 M35 y45k y45s y45lo y45hi y45a y45l y45c M48 y58k y58s y58lo y58hi y58a y58l y58c y58t M61 b71 M72 M81 M100 M118 M136 M154
  have rw0 : Mem.mk M81.blks M81.next M81.hide [] = R90 := eR91.symm
  have rw1 := mk_eq (X85) (X111)
  have rw2 : Mem.mk M100.blks M100.next (hides 0 [⟨1, 1, M81.next, M100.next⟩, ⟨0, 1, M81.next, M81.next⟩] ++ M81.hide) M100.log = hidx (hides 0 [⟨1, 1, M81.next, M100.next⟩, ⟨0, 1, M81.next, M81.next⟩]) M100 := by rw [(show M81.hide = M100.hide from ((X85).hide.trans (X111).hide.symm))]; rfl
  have rw3 := mk_eq (X85) (X129)
  have rw4 := mk_eq (X85) (X147)
  have rw5 : Mem.mk M136.blks M136.next (hides 63 [⟨7, 1, M118.next, M136.next⟩, ⟨6, 1, M118.next, M118.next⟩, ⟨5, 0, M118.next, M118.next⟩, ⟨4, 0, M118.next, M118.next⟩, ⟨3, 1, M100.next, M118.next⟩, ⟨1, 1, M81.next, M100.next⟩, ⟨0, 1, M81.next, M81.next⟩] ++ M81.hide) M136.log = hidx (hides 63 [⟨7, 1, M118.next, M136.next⟩, ⟨6, 1, M118.next, M118.next⟩, ⟨5, 0, M118.next, M118.next⟩, ⟨4, 0, M118.next, M118.next⟩, ⟨3, 1, M100.next, M118.next⟩, ⟨1, 1, M81.next, M100.next⟩, ⟨0, 1, M81.next, M81.next⟩]) M136 := by rw [(show M81.hide = M136.hide from ((X85).hide.trans (X147).hide.symm))]; rfl
  have rw6 := mk_eq (X85) (X165)
  have rw7 : (Mem.mk M154.blks M154.next M81.hide (M154.log ++ M81.log)) = (Mem.mk M154.blks M154.next M154.hide (M154.log ++ M81.log)) := by rw [(show M81.hide = M154.hide from ((X85).hide.trans (X165).hide.symm))]
  have rw8 : (Mem.mk M154.blks M154.next M154.hide (M154.log ++ M81.log)) = M169 := ef170.symm
  try rw [rw0] at hraw
  try rw [rw1] at hraw
  try rw [rw2] at hraw
  try rw [rw3] at hraw
  try rw [rw4] at hraw
  try rw [rw5] at hraw
  try rw [rw6] at hraw
  try rw [rw7] at hraw
  try rw [rw8] at hraw
  have hres : ((.bool ((rightT te) == (refT te))) : Value) = .bool true := by first | rfl | (rw [same_T]; simp)
  rw [hres] at hraw
  exact ⟨_, Ev.told_tmp noNumP mixedP Tryd.func5 q5_ok (by kernel_rfl) rK5 (sK hS5_13_14_15_18_25_26_27) (fun _ _ => rfl) hraw (hk (q_eq (by rw [← eb3, ← em4]; kernel_rfl) Nat.one_ne_zero) (hk (q_call rfl p12 l13 e14) (hk (q_call rfl p24 l25 e26) (hk (bF (by rw [cc0]; rfl)) (hk (lA ⟨dA27, dS27⟩ g31 rfl) (hk (bF (by rw [cc0]; rfl)) (hk (q_call rfl p36 l37 e38) (hk (bF (by rw [cc0]; rfl)) (hk (bF (by rw [cc0]; rfl)) (hk (bF (by rw [cc1]; rfl)) (hk (q_call rfl p49 l50 e51) (hk (q_call rfl p62 l63 e64) (hk (q_eq (by rw [← eb73, ← em74]; kernel_rfl) Nat.one_ne_zero) (hk (q_st q82) (hk (lA ⟨dA27, dS27⟩ g96 rfl) (hk (q_call rfl p101 l102 e103) (hk (lA ⟨dA27, dS27⟩ (hidx_get.2 ⟨hides_low (by simp; omega), g109⟩) rfl) (hk (q_lt ltb71M81) (hk (q_call rfl p119 l120 e121) (hk (bT (by rw [same_T]; simp)) (hk (lA ⟨dA27, dS27⟩ g126 rfl) (hk (bT (by rw [same_T]; simp)) (hk (q_call rfl p137 l138 e139) (hk (bT (by rw [same_T]; simp)) (hk (lA ⟨dA27, dS27⟩ (hidx_get.2 ⟨hides_low (by simp; omega), g144⟩) rfl) (hk (q_lt ltb1M81) (hk (bT (by rw [same_T]; simp)) (hk (q_call rfl p155 l156 e157) (hk (bT (by rw [same_T]; simp)) (hk (bT (by rw [same_T]; simp)) (hk (q_apart (by rw [lg164]; simp <;> omega)) hn)))))))))))))))))))))))))))))))⟩
theorem hS5_13_14_25 (B : Nat) : ∀ p ∈ ([(13, pick (Con Tryd.prog [] 13 (Fl g13))), (14, pick (Con Tryd.prog [] 14 Q14)), (25, pick (Con Tryd.prog [] 25 Q25))] : List (FuncId × (List Value → Mem → Option (Value × Mem)))), SpecOk Tryd.prog [] B p.1 p.2 := (fun p hp => by simp only [List.mem_cons, List.not_mem_nil, or_false] at hp; rcases hp with rfl | rfl | rfl <;> first | exact Con.ok _)
theorem w5_1_raw (a0 : Option Addr) (c0 : Nat) (l0 : List DT) (k s lo hi x y z : Int) (a : Option Addr) (n c : Nat) (te : DT) (M : Mem) (b1 : Nat) (M2 M11 M23 M35 : Mem) : oT Tryd.prog [] 60 Tryd.f5 q5 [.slice a0 l0.length c0, (nd5 k s lo hi (.slice a n c)), i64 x, i64 y, i64 z] M [ttV 1 (pt b1 0) M2, ttV 5 (.bool true) M11, ttV 12 (.bool (decide (sizeS l0 0 ≤ (14 : Int)))) M23, ttF 17, ttL 18 (nd5 k s lo hi (.slice a n c)), ttF 19, ttV 20 (.bool (fewT te (0 : Int))) M35, ttF 21, ttF 24, ttT 25] 10 = some (.ret, some (.bool true), M35, [.eq (abox Tryd.prog 27 (nd5 k s lo hi (.slice a n c)) M) (1, .val (pt b1 0), M2), qC 13 [] M2 (.bool true) M11, qC 14 [(.slice a0 l0.length c0)] M11 (.bool (decide (sizeS l0 0 ≤ (14 : Int)))) M23, qF (!(decide (sizeS l0 0 ≤ (14 : Int)))), qL 27 b1 0 M23 (nd5 k s lo hi (.slice a n c)), qF (!(decide (sizeS l0 0 ≤ (14 : Int)))), qC 25 [(nd5 k s lo hi (.slice a n c)), i64 0] M23 (.bool (fewT te (0 : Int))) M35, qF (!(decide (sizeS l0 0 ≤ (14 : Int)))), qF (!(decide (sizeS l0 0 ≤ (14 : Int)))), qT (!(fewT te (0 : Int)))]) := by kernel_rfl
theorem w5_1 (a0 : Option Addr) (c0 : Nat) (l0 : List DT) (k s lo hi x y z : Int) (a : Option Addr) (n c : Nat) (te : DT) {M : Mem} {rows0 : List (List Value)} (hM : MemOk M) (hr0 : RowsAt 3 M l0 rows0) (hs0 : SlAt M (.slice a0 l0.length c0) l0.length rows0) (hl0 : l0.length ≤ 9223372036854775807) (hN : NodeAt 5 M te (nd5 k s lo hi (.slice a n c))) (cc0 : (decide (sizeS l0 0 ≤ (14 : Int))) = true) (cc1 : (fewT te (0 : Int)) = false) : ∃ M', Ev Tryd.prog [] 5 [.slice a0 l0.length c0, (nd5 k s lo hi (.slice a n c)), i64 x, i64 y, i64 z] M (.bool true) M' := by
  obtain ⟨b1, M2, eb3, em4, g5, E6, hM7⟩ := new_t hM ⟨[i64 k, i64 s, i64 lo, i64 hi, (.slice a n c)], 27, 5, 0, true⟩
  have nb1 : M.next ≤ b1 := by rw [← eb3]; exact (Ext.refl M).next
  have X8 := (Ext.refl M).trans E6
  obtain ⟨w9, N10, M11, p12, l13, e14, E15, hM16, Q17, G18⟩ := call_t hM7 (con13)
  have g19 := E15.old g5
  have ew9 : w9 = .bool true := (Option.some.inj Q17).symm
  subst ew9
  have X20 := X8.trans E15
  obtain ⟨w21, N22, M23, p24, l25, e26, E27, hM28, Q29, G30⟩ := call_t hM16 (con14 l0 (MemOk.log hM16) (RowsAt.Ext X20 hr0).log (SlAt.Ext X20 hs0).log hl0)
  have g31 := E27.old g19
  have ew21 := Qs.val (RowsAt.Ext X20 hr0).log (SlAt.Ext X20 hs0).log Q29
  subst ew21
  have X32 := X20.trans E27
  obtain ⟨w33, N34, M35, p36, l37, e38, E39, hM40, Q41, G42⟩ := call_t hM28 (con25 te 0 (MemOk.log hM28) (NodeAt.log (hN.Ext X32)))
  have g43 := E39.old g31
  have ew33 := Qt.val (NodeAt.log (hN.Ext X32)) Q41
  subst ew33
  have X44 := X32.trans E39
  have hraw := w5_1_raw a0 c0 l0 k s lo hi x y z a n c te M b1 M2 M11 M23 M35
  have hres : ((.bool true) : Value) = .bool true := by first | rfl | (rw [same_T]; simp)
  rw [hres] at hraw
  exact ⟨_, Ev.told_tmp noNumP mixedP Tryd.func5 q5_ok (by kernel_rfl) rK5 (sK hS5_13_14_25) (fun _ _ => rfl) hraw (hk (q_eq (by rw [← eb3, ← em4]; kernel_rfl) Nat.one_ne_zero) (hk (q_call rfl p12 l13 e14) (hk (q_call rfl p24 l25 e26) (hk (bF (by rw [cc0]; rfl)) (hk (lA ⟨dA27, dS27⟩ g31 rfl) (hk (bF (by rw [cc0]; rfl)) (hk (q_call rfl p36 l37 e38) (hk (bF (by rw [cc0]; rfl)) (hk (bF (by rw [cc0]; rfl)) (hk (bT (by rw [cc1]; rfl)) hn))))))))))⟩
theorem hS5_13_14 (B : Nat) : ∀ p ∈ ([(13, pick (Con Tryd.prog [] 13 (Fl g13))), (14, pick (Con Tryd.prog [] 14 Q14))] : List (FuncId × (List Value → Mem → Option (Value × Mem)))), SpecOk Tryd.prog [] B p.1 p.2 := (fun p hp => by simp only [List.mem_cons, List.not_mem_nil, or_false] at hp; rcases hp with rfl | rfl <;> first | exact Con.ok _)
theorem w5_2_raw (a0 : Option Addr) (c0 : Nat) (l0 : List DT) (k s lo hi x y z : Int) (a : Option Addr) (n c : Nat) (_ : DT) (M : Mem) (b1 : Nat) (M2 M11 M23 : Mem) : oT Tryd.prog [] 60 Tryd.f5 q5 [.slice a0 l0.length c0, (nd5 k s lo hi (.slice a n c)), i64 x, i64 y, i64 z] M [ttV 1 (pt b1 0) M2, ttV 5 (.bool true) M11, ttV 12 (.bool (decide (sizeS l0 0 ≤ (14 : Int)))) M23, ttT 17, ttT 19, ttT 21, ttT 24] 10 = some (.ret, some (.bool true), M23, [.eq (abox Tryd.prog 27 (nd5 k s lo hi (.slice a n c)) M) (1, .val (pt b1 0), M2), qC 13 [] M2 (.bool true) M11, qC 14 [(.slice a0 l0.length c0)] M11 (.bool (decide (sizeS l0 0 ≤ (14 : Int)))) M23, qT (!(decide (sizeS l0 0 ≤ (14 : Int)))), qT (!(decide (sizeS l0 0 ≤ (14 : Int)))), qT (!(decide (sizeS l0 0 ≤ (14 : Int)))), qT (!(decide (sizeS l0 0 ≤ (14 : Int))))]) := by kernel_rfl
theorem w5_2 (a0 : Option Addr) (c0 : Nat) (l0 : List DT) (k s lo hi x y z : Int) (a : Option Addr) (n c : Nat) (te : DT) {M : Mem} {rows0 : List (List Value)} (hM : MemOk M) (hr0 : RowsAt 3 M l0 rows0) (hs0 : SlAt M (.slice a0 l0.length c0) l0.length rows0) (hl0 : l0.length ≤ 9223372036854775807) (_ : NodeAt 5 M te (nd5 k s lo hi (.slice a n c))) (cc0 : (decide (sizeS l0 0 ≤ (14 : Int))) = false) : ∃ M', Ev Tryd.prog [] 5 [.slice a0 l0.length c0, (nd5 k s lo hi (.slice a n c)), i64 x, i64 y, i64 z] M (.bool true) M' := by
  obtain ⟨b1, M2, eb3, em4, g5, E6, hM7⟩ := new_t hM ⟨[i64 k, i64 s, i64 lo, i64 hi, (.slice a n c)], 27, 5, 0, true⟩
  have nb1 : M.next ≤ b1 := by rw [← eb3]; exact (Ext.refl M).next
  have X8 := (Ext.refl M).trans E6
  obtain ⟨w9, N10, M11, p12, l13, e14, E15, hM16, Q17, G18⟩ := call_t hM7 (con13)
  have g19 := E15.old g5
  have ew9 : w9 = .bool true := (Option.some.inj Q17).symm
  subst ew9
  have X20 := X8.trans E15
  obtain ⟨w21, N22, M23, p24, l25, e26, E27, hM28, Q29, G30⟩ := call_t hM16 (con14 l0 (MemOk.log hM16) (RowsAt.Ext X20 hr0).log (SlAt.Ext X20 hs0).log hl0)
  have g31 := E27.old g19
  have ew21 := Qs.val (RowsAt.Ext X20 hr0).log (SlAt.Ext X20 hs0).log Q29
  subst ew21
  have X32 := X20.trans E27
  have hraw := w5_2_raw a0 c0 l0 k s lo hi x y z a n c te M b1 M2 M11 M23
  have hres : ((.bool true) : Value) = .bool true := by first | rfl | (rw [same_T]; simp)
  rw [hres] at hraw
  exact ⟨_, Ev.told_tmp noNumP mixedP Tryd.func5 q5_ok (by kernel_rfl) rK5 (sK hS5_13_14) (fun _ _ => rfl) hraw (hk (q_eq (by rw [← eb3, ← em4]; kernel_rfl) Nat.one_ne_zero) (hk (q_call rfl p12 l13 e14) (hk (q_call rfl p24 l25 e26) (hk (bT (by rw [cc0]; rfl)) (hk (bT (by rw [cc0]; rfl)) (hk (bT (by rw [cc0]; rfl)) (hk (bT (by rw [cc0]; rfl)) hn)))))))⟩
end Go.Proofs.YtlgkpnlppgihcaaDoor
