/-
  Package order: each of its laws for every argument; no conditions. The last text states which.
-/
import Derived.Test.YtfeabmmgmbddnaaOPG
open Go Go.Am Go.Proofs
namespace Go.Proofs.Ytfeabmmgmbddnaa
set_option maxRecDepth 100000
set_option linter.unusedVariables false
set_option linter.unusedSimpArgs false
theorem r14LQ_raw (b rb n d bi oi ci i : Nat) (q : Bool) (vl : Value) (l : List E4) (S : Value) (M : Mem)  : oR Try.prog [] 60 Try.f14 (q14.loopAt 2) [(1, (pt b 0)), (3, (pt rb 0)), (4, (sli bi oi n ci)), (5, S), (6, (i64 (((d : Nat) : Int)))), (7, (i64 (((i : Nat) : Int))))] M [ttL 5 (i64 (((n : Nat) : Int))), ttT 8, ttT 14, ttL 16 (.bool q), ttF 21, ttF 23, ttF 25, ttF 27, ttF 29, ttF 31, ttF 33, ttF 35, ttF 37, ttF 39, ttF 41, ttF 44] [1, 3, 4, 5, 6, 7] = some (.normal, [some (pt b 0), some (pt rb 0), some (sli bi oi n ci), some S, some (i64 (((d : Nat) : Int))), some (i64 (IntKind.wrap .i64 ((((i : Nat) : Int)) + (1 : Int))))], M, [qL 3 b 0 M (i64 (((n : Nat) : Int))), qT (decide ((((i : Nat) : Int)) < (((n : Nat) : Int)))), .q (.inb (((i : Nat) : Int)) n) (ansB true), qL 4 bi (oi + (((i : Nat) : Int) : Int).toNat * 1) M (.bool q), qF (!(q)), qF (!(q)), qF (!(q)), qF (!(q)), qF (!(q)), qF (!(q)), qF (!(q)), qF (!(q)), qF (!(q)), qF (!(q)), qF (!(q)), qF (!(q))]) := by kernel_rfl
theorem r14LQ (b rb n d bi oi ci i : Nat) (q : Bool) (vl : Value) (l : List E4) (S : Value) {M : Mem} {M0 : Mem} (X0 : Ext M0 M) (gb : M.get b = some ⟨[i64 ((n : Nat) : Int), vl], 26, 2, 0, true⟩) (href : pRefA 53 (n, l) (pt rb 0) M0) (hl400 : l.length ≤ 400) (cc0 : (decide ((((i : Nat) : Int)) < (((n : Nat) : Int)))) = true) (cc1 : (q) = true) (hld0 : aload Try.prog 4 ⟨bi, oi + (((i : Nat) : Int) : Int).toNat * 1, none⟩ M0 = some (.bool q)) : ∃ T1, Rd Try.prog [] (q14.loopAt 2) Try.f14.ntmps (fr [(1, (pt b 0)), (3, (pt rb 0)), (4, (sli bi oi n ci)), (5, S), (6, (i64 (((d : Nat) : Int)))), (7, (i64 (((i : Nat) : Int))))]) M .normal T1 M ∧ [1, 3, 4, 5, 6, 7].map T1.get = [some (pt b 0), some (pt rb 0), some (sli bi oi n ci), some S, some (i64 (((d : Nat) : Int))), some (i64 (IntKind.wrap .i64 ((((i : Nat) : Int)) + (1 : Int))))] := by
  have hraw := r14LQ_raw b rb n d bi oi ci i q vl l S M  
  obtain ⟨T1, h1, h2⟩ := Rd.told noNumP mixedP (specs_none Try.prog) (fun _ _ => rfl) hraw (hk (lC dC3 gb rfl) (hk (bT cc0) (hk (q_inb (by omega) (by simp at cc0; omega)) (hk (q_ld (aload_ext X0 hld0)) (hk (bF (by rw [cc1]; rfl)) (hk (bF (by rw [cc1]; rfl)) (hk (bF (by rw [cc1]; rfl)) (hk (bF (by rw [cc1]; rfl)) (hk (bF (by rw [cc1]; rfl)) (hk (bF (by rw [cc1]; rfl)) (hk (bF (by rw [cc1]; rfl)) (hk (bF (by rw [cc1]; rfl)) (hk (bF (by rw [cc1]; rfl)) (hk (bF (by rw [cc1]; rfl)) (hk (bF (by rw [cc1]; rfl)) (hk (bF (by rw [cc1]; rfl)) hn))))))))))))))))
  exact ⟨T1, h1, h2⟩
theorem hS14_16_17 (B : Bd) : ∀ p ∈ ([(16, pick (Con Try.prog [] 16 Q16)), (17, pick (Con Try.prog [] 17 Q17))] : List (FuncId × (List Value → Mem → Option (Value × Mem)))), SpecOk Try.prog [] B p.1 p.2 := (fun p hp => by simp only [List.mem_cons, List.not_mem_nil, or_false] at hp; rcases hp with rfl | rfl <;> first | exact Con.ok _)
theorem r14LS_raw (b rb n d bi oi ci i : Nat) (q : Bool) (vl : Value) (l : List E4) (S : Value) (M : Mem) (a1 : Option Addr) (c2 : Nat) (M6 : Mem) (a16 : Option Addr) (c17 : Nat) (M21 : Mem) : oR Try.prog [] 60 Try.f14 (q14.loopAt 2) [(1, (pt b 0)), (3, (pt rb 0)), (4, (sli bi oi n ci)), (5, S), (6, (i64 (((d : Nat) : Int)))), (7, (i64 (((i : Nat) : Int))))] M [ttL 5 (i64 (((n : Nat) : Int))), ttT 8, ttT 14, ttL 16 (.bool q), ttT 21, ttT 23, ttT 25, ttV 26 (.slice a1 (refRow .fr l ((i : Nat) : Int) l.length).length c2) M6, ttT 27, ttT 28, ttT 29, ttT 31, ttT 33, ttV 34 (.slice a16 (refRow .to l ((i : Nat) : Int) l.length).length c17) M21, ttT 35, ttT 36, ttT 37, ttT 39, ttT 41, ttT 44, ttF 45] [1, 3, 4, 5, 6, 7] = some (.normal, [some (pt b 0), some (pt rb 0), some (sli bi oi n ci), some S, some (i64 (((d : Nat) : Int))), some (i64 (IntKind.wrap .i64 ((((i : Nat) : Int)) + (1 : Int))))], M21, [qL 3 b 0 M (i64 (((n : Nat) : Int))), qT (decide ((((i : Nat) : Int)) < (((n : Nat) : Int)))), .q (.inb (((i : Nat) : Int)) n) (ansB true), qL 4 bi (oi + (((i : Nat) : Int) : Int).toNat * 1) M (.bool q), qT (!(q)), qT (!(q)), qT (!(q)), qC 16 [(pt rb 0), (i64 (((i : Nat) : Int)))] M (.slice a1 (refRow .fr l ((i : Nat) : Int) l.length).length c2) M6, qT (!(q)), .ln a1 (refRow .fr l ((i : Nat) : Int) l.length).length c2, qT (!(q)), qT (!(q)), qT (!(q)), qC 17 [(pt rb 0), (i64 (((i : Nat) : Int)))] M6 (.slice a16 (refRow .to l ((i : Nat) : Int) l.length).length c17) M21, qT (!(q)), .ln a16 (refRow .to l ((i : Nat) : Int) l.length).length c17, qT (!(q)), qT (!(q)), qT (!(q)), qT (!(q)), qF ((IntKind.wrap .i64 (((((refRow .fr l ((i : Nat) : Int) l.length).length : Nat) : Int)) + ((((refRow .to l ((i : Nat) : Int) l.length).length : Nat) : Int)))) == (((d : Nat) : Int)))]) := by kernel_rfl
theorem r14LS (b rb n d bi oi ci i : Nat) (q : Bool) (vl : Value) (l : List E4) (S : Value) {M M0 : Mem} (hM : MemOk M) (X0 : Ext M0 M) (gb : M.get b = some ⟨[i64 ((n : Nat) : Int), vl], 26, 2, 0, true⟩) (href : pRefA 53 (n, l) (pt rb 0) M0) (hl400 : l.length ≤ 400) (cc0 : (decide ((((i : Nat) : Int)) < (((n : Nat) : Int)))) = true) (cc1 : (q) = false) (cc2 : ((IntKind.wrap .i64 (((((refRow .fr l ((i : Nat) : Int) l.length).length : Nat) : Int)) + ((((refRow .to l ((i : Nat) : Int) l.length).length : Nat) : Int)))) == (((d : Nat) : Int))) = false) (hld0 : aload Try.prog 4 ⟨bi, oi + (((i : Nat) : Int) : Int).toNat * 1, none⟩ M0 = some (.bool q)) : ∃ T1 M', Rd Try.prog [] (q14.loopAt 2) Try.f14.ntmps (fr [(1, (pt b 0)), (3, (pt rb 0)), (4, (sli bi oi n ci)), (5, S), (6, (i64 (((d : Nat) : Int)))), (7, (i64 (((i : Nat) : Int))))]) M .normal T1 M' ∧ [1, 3, 4, 5, 6, 7].map T1.get = [some (pt b 0), some (pt rb 0), some (sli bi oi n ci), some S, some (i64 (((d : Nat) : Int))), some (i64 (IntKind.wrap .i64 ((((i : Nat) : Int)) + (1 : Int))))] ∧ Ext M0 M' ∧ MemOk M' ∧ M'.get b = some ⟨[(i64 (((n : Nat) : Int))), vl], 26, 2, 0, true⟩ ∧ ∀ id k, M.get id = some k → id ≠ b → M'.get id = some k := by
  obtain ⟨w4, N5, M6, p7, l8, e9, E10, hM11, F12⟩ := call_fc (x := ((n, l), ((i : Nat) : Int))) hM con16 (⟨⟨_, _, rfl, AP.Ext (R := (pRefA 53)) href X0, rfl⟩, hl400⟩)
  have g14 := E10.old gb
  have G3 : pInts (refRow .fr l ((i : Nat) : Int) l.length) w4 M6 := newR.out (R := pInts) F12
  obtain ⟨a1, c2, ew4⟩ := GRowsAt.form G3
  subst ew4
  have lna1 := GRowsAt.ln G3
  have X15 := X0.trans E10
  obtain ⟨w19, N20, M21, p22, l23, e24, E25, hM26, F27⟩ := call_fc (x := ((n, l), ((i : Nat) : Int))) hM11 con17 (⟨⟨_, _, rfl, AP.Ext (R := (pRefA 53)) href X15, rfl⟩, hl400⟩)
  have g29 := E25.old g14
  have G18 : pInts (refRow .to l ((i : Nat) : Int) l.length) w19 M21 := newR.out (R := pInts) F27
  obtain ⟨a16, c17, ew19⟩ := GRowsAt.form G18
  subst ew19
  have lna16 := GRowsAt.ln G18
  have X30 := X15.trans E25
  have hraw := r14LS_raw b rb n d bi oi ci i q vl l S M  a1 c2 M6 a16 c17 M21
  have hkp : ∀ id k, M.get id = some k → id ≠ b → M21.get id = some k := fun id k g h_b => by
    have g0 := Mem.lt_of_get g
    have g := E10.old g
    have g := E25.old g
    exact g
  obtain ⟨T1, h1, h2⟩ := Rd.told noNumP mixedP (fun B => specsB_ok (k := []) (hS14_16_17 B) (fun p hp => by cases hp)) (fun _ _ => rfl) hraw (hk (lC dC3 gb rfl) (hk (bT cc0) (hk (q_inb (by omega) (by simp at cc0; omega)) (hk (q_ld (aload_ext X0 hld0)) (hk (bT (by rw [cc1]; rfl)) (hk (bT (by rw [cc1]; rfl)) (hk (bT (by rw [cc1]; rfl)) (hk (q_call rfl p7 l8 e9) (hk (bT (by rw [cc1]; rfl)) (hk (lN lna1) (hk (bT (by rw [cc1]; rfl)) (hk (bT (by rw [cc1]; rfl)) (hk (bT (by rw [cc1]; rfl)) (hk (q_call rfl p22 l23 e24) (hk (bT (by rw [cc1]; rfl)) (hk (lN lna16) (hk (bT (by rw [cc1]; rfl)) (hk (bT (by rw [cc1]; rfl)) (hk (bT (by rw [cc1]; rfl)) (hk (bT (by rw [cc1]; rfl)) (hk (bF cc2) hn)))))))))))))))))))))
  exact ⟨T1, M21, h1, h2, X30, hM26, g29, hkp⟩
theorem r14x_raw (b rb n d i bi oi ci : Nat) (S vl : Value) (M : Mem)  : oR Try.prog [] 60 Try.f14 (q14.loopAt 2) [(1, (pt b 0)), (3, (pt rb 0)), (4, (sli bi oi n ci)), (5, S), (6, (i64 (((d : Nat) : Int)))), (7, (i64 (((i : Nat) : Int))))] M [ttL 5 (i64 (((n : Nat) : Int))), ttF 8] [1, 3, 4, 5, 6] = some ((.exit 2), [some (pt b 0), some (pt rb 0), some (sli bi oi n ci), some S, some (i64 (((d : Nat) : Int)))], M, [qL 3 b 0 M (i64 (((n : Nat) : Int))), qF (decide ((((i : Nat) : Int)) < (((n : Nat) : Int))))]) := by kernel_rfl
theorem r14x (b rb n d i bi oi ci : Nat) (S vl : Value) {M : Mem} (gb : M.get b = some ⟨[i64 ((n : Nat) : Int), vl], 26, 2, 0, true⟩) (cc0 : (decide ((((i : Nat) : Int)) < (((n : Nat) : Int)))) = false) : ∃ T1, Rd Try.prog [] (q14.loopAt 2) Try.f14.ntmps (fr [(1, (pt b 0)), (3, (pt rb 0)), (4, (sli bi oi n ci)), (5, S), (6, (i64 (((d : Nat) : Int)))), (7, (i64 (((i : Nat) : Int))))]) M (.exit 2) T1 M ∧ [1, 3, 4, 5, 6].map T1.get = [some (pt b 0), some (pt rb 0), some (sli bi oi n ci), some S, some (i64 (((d : Nat) : Int)))] := by
  have hraw := r14x_raw b rb n d i bi oi ci S vl M  
  obtain ⟨T1, h1, h2⟩ := Rd.told noNumP mixedP (specs_none Try.prog) (fun _ _ => rfl) hraw (hk (lC dC3 gb rfl) (hk (bF cc0) hn))
  exact ⟨T1, h1, h2⟩
theorem r14NA_raw (b rb n d bi oi ci i : Nat) (q : Bool) (vl : Value) (l : List E4) (M : Mem) (a1 : Option Addr) (c2 : Nat) (M6 : Mem) (a16 : Option Addr) (c17 : Nat) (M21 : Mem) (b31 : Nat) (M32 : Mem) (b41 : Nat) (M42 : Mem) : oR Try.prog [] 60 Try.f14 (q14.loopAt 2) [(1, (pt b 0)), (3, (pt rb 0)), (4, (sli bi oi n ci)), (5, sln), (6, (i64 (((d : Nat) : Int)))), (7, (i64 (((i : Nat) : Int))))] M [ttL 5 (i64 (((n : Nat) : Int))), ttT 8, ttT 14, ttL 16 (.bool q), ttT 21, ttT 23, ttT 25, ttV 26 (.slice a1 (refRow .fr l ((i : Nat) : Int) l.length).length c2) M6, ttT 27, ttT 28, ttT 29, ttT 31, ttT 33, ttV 34 (.slice a16 (refRow .to l ((i : Nat) : Int) l.length).length c17) M21, ttT 35, ttT 36, ttT 37, ttT 39, ttT 41, ttT 44, ttT 45, ttV 51 (sli b31 0 1 2) M32, .at 53 (1, .val (sli b41 0 1 1), M42)] [1, 3, 4, 5, 6, 7] = some (.normal, [some (pt b 0), some (pt rb 0), some (sli bi oi n ci), some (sli b41 0 1 1), some (i64 (((d : Nat) : Int))), some (i64 (IntKind.wrap .i64 ((((i : Nat) : Int)) + (1 : Int))))], M42, [qL 3 b 0 M (i64 (((n : Nat) : Int))), qT (decide ((((i : Nat) : Int)) < (((n : Nat) : Int)))), .q (.inb (((i : Nat) : Int)) n) (ansB true), qL 4 bi (oi + (((i : Nat) : Int) : Int).toNat * 1) M (.bool q), qT (!(q)), qT (!(q)), qT (!(q)), qC 16 [(pt rb 0), (i64 (((i : Nat) : Int)))] M (.slice a1 (refRow .fr l ((i : Nat) : Int) l.length).length c2) M6, qT (!(q)), .ln a1 (refRow .fr l ((i : Nat) : Int) l.length).length c2, qT (!(q)), qT (!(q)), qT (!(q)), qC 17 [(pt rb 0), (i64 (((i : Nat) : Int)))] M6 (.slice a16 (refRow .to l ((i : Nat) : Int) l.length).length c17) M21, qT (!(q)), .ln a16 (refRow .to l ((i : Nat) : Int) l.length).length c17, qT (!(q)), qT (!(q)), qT (!(q)), qT (!(q)), qT ((IntKind.wrap .i64 (((((refRow .fr l ((i : Nat) : Int) l.length).length : Nat) : Int)) + ((((refRow .to l ((i : Nat) : Int) l.length).length : Nat) : Int)))) == (((d : Nat) : Int))), .eq (abuildSlice Try.prog 22 1 [(0, (i64 (((i : Nat) : Int))))] M21) (1, .val (sli b31 0 1 2), M32), .q (.append [22, 22] sln (sli b31 0 1 2) M32) (1, .val (sli b41 0 1 1), M42)]) := by kernel_rfl
theorem r14NA (b rb n d bi oi ci i : Nat) (q : Bool) (vl : Value) (l : List E4) {M M0 : Mem} (hM : MemOk M) (X0 : Ext M0 M) (gb : M.get b = some ⟨[i64 ((n : Nat) : Int), vl], 26, 2, 0, true⟩) (href : pRefA 53 (n, l) (pt rb 0) M0) (hl400 : l.length ≤ 400) (cc0 : (decide ((((i : Nat) : Int)) < (((n : Nat) : Int)))) = true) (cc1 : (q) = false) (cc2 : ((IntKind.wrap .i64 (((((refRow .fr l ((i : Nat) : Int) l.length).length : Nat) : Int)) + ((((refRow .to l ((i : Nat) : Int) l.length).length : Nat) : Int)))) == (((d : Nat) : Int))) = true) (hld0 : aload Try.prog 4 ⟨bi, oi + (((i : Nat) : Int) : Int).toNat * 1, none⟩ M0 = some (.bool q)) : ∃ T1 M' b41, Rd Try.prog [] (q14.loopAt 2) Try.f14.ntmps (fr [(1, (pt b 0)), (3, (pt rb 0)), (4, (sli bi oi n ci)), (5, sln), (6, (i64 (((d : Nat) : Int)))), (7, (i64 (((i : Nat) : Int))))]) M .normal T1 M' ∧ [1, 3, 4, 5, 6, 7].map T1.get = [some (pt b 0), some (pt rb 0), some (sli bi oi n ci), some (sli b41 0 1 1), some (i64 (((d : Nat) : Int))), some (i64 (IntKind.wrap .i64 ((((i : Nat) : Int)) + (1 : Int))))] ∧ Ext M0 M' ∧ MemOk M' ∧ M'.get b = some ⟨[(i64 (((n : Nat) : Int))), vl], 26, 2, 0, true⟩ ∧ M0.next ≤ b41 ∧ M'.get b41 = some ⟨[(i64 (((i : Nat) : Int)))], 3, 1, 0, true⟩ ∧ ∀ id k, M.get id = some k → id ≠ b → M'.get id = some k := by
  obtain ⟨w4, N5, M6, p7, l8, e9, E10, hM11, F12⟩ := call_fc (x := ((n, l), ((i : Nat) : Int))) hM con16 (⟨⟨_, _, rfl, AP.Ext (R := (pRefA 53)) href X0, rfl⟩, hl400⟩)
  have g14 := E10.old gb
  have G3 : pInts (refRow .fr l ((i : Nat) : Int) l.length) w4 M6 := newR.out (R := pInts) F12
  obtain ⟨a1, c2, ew4⟩ := GRowsAt.form G3
  subst ew4
  have lna1 := GRowsAt.ln G3
  have X15 := X0.trans E10
  obtain ⟨w19, N20, M21, p22, l23, e24, E25, hM26, F27⟩ := call_fc (x := ((n, l), ((i : Nat) : Int))) hM11 con17 (⟨⟨_, _, rfl, AP.Ext (R := (pRefA 53)) href X15, rfl⟩, hl400⟩)
  have g29 := E25.old g14
  have G18 : pInts (refRow .to l ((i : Nat) : Int) l.length) w19 M21 := newR.out (R := pInts) F27
  obtain ⟨a16, c17, ew19⟩ := GRowsAt.form G18
  subst ew19
  have lna16 := GRowsAt.ln G18
  have X30 := X15.trans E25
  obtain ⟨b31, M32, eb33, em34, g35, E36, hM37⟩ := new_t hM26 ⟨[(i64 (((i : Nat) : Int)))], 3, 1, 0, true⟩
  have nb31 : M0.next ≤ b31 := by rw [← eb33]; exact X30.next
  have dbb31 : b ≠ b31 := by have := Mem.lt_of_get g29; omega
  have g38 := E36.old g29
  have X40 := X30.trans E36
  obtain ⟨b41, M42, eb43, em44, g45, E47, hM46⟩ := new_t hM37 ⟨[(i64 (((i : Nat) : Int)))], 3, 1, 0, true⟩
  have nb41 : M0.next ≤ b41 := by rw [← eb43]; exact X40.next
  have dbb41 : b ≠ b41 := by have := Mem.lt_of_get g38; omega
  have db31b41 : b31 ≠ b41 := by have := Mem.lt_of_get g35; omega
  have g48 := E47.old g38
  have X50 := X40.trans E47
  have hraw := r14NA_raw b rb n d bi oi ci i q vl l M  a1 c2 M6 a16 c17 M21 b31 M32 b41 M42
  have hkp : ∀ id k, M.get id = some k → id ≠ b → M42.get id = some k := fun id k g h_b => by
    have g0 := Mem.lt_of_get g
    have g := E10.old g
    have g := E25.old g
    have g := E36.old g
    have g := E47.old g
    exact g
  obtain ⟨T1, h1, h2⟩ := Rd.told noNumP mixedP (fun B => specsB_ok (k := []) (hS14_16_17 B) (fun p hp => by cases hp)) (fun _ _ => rfl) hraw (hk (lC dC3 gb rfl) (hk (bT cc0) (hk (q_inb (by omega) (by simp at cc0; omega)) (hk (q_ld (aload_ext X0 hld0)) (hk (bT (by rw [cc1]; rfl)) (hk (bT (by rw [cc1]; rfl)) (hk (bT (by rw [cc1]; rfl)) (hk (q_call rfl p7 l8 e9) (hk (bT (by rw [cc1]; rfl)) (hk (lN lna1) (hk (bT (by rw [cc1]; rfl)) (hk (bT (by rw [cc1]; rfl)) (hk (bT (by rw [cc1]; rfl)) (hk (q_call rfl p22 l23 e24) (hk (bT (by rw [cc1]; rfl)) (hk (lN lna16) (hk (bT (by rw [cc1]; rfl)) (hk (bT (by rw [cc1]; rfl)) (hk (bT (by rw [cc1]; rfl)) (hk (bT (by rw [cc1]; rfl)) (hk (bT cc2) (hk (q_eq (by rw [← eb33, ← em34]; kernel_rfl) Nat.one_ne_zero) (hk (q_app (by rw [← eb43, ← em44]; exact append_nil (w := 1) (by kernel_rfl) (by kernel_rfl) (y := 8) (by kernel_rfl) (by decide) (by decide) g35 rfl rfl rfl) Nat.one_ne_zero) hn)))))))))))))))))))))))
  exact ⟨T1, M42, b41, h1, h2, X50, hM46, g48, nb41, g45, hkp⟩
theorem r14GA_raw (b rb n d bi oi ci i : Nat) (q : Bool) (vl : Value) (l : List E4) (r k : Nat) (cr : List Value) (M : Mem) (a1 : Option Addr) (c2 : Nat) (M6 : Mem) (a17 : Option Addr) (c18 : Nat) (M22 : Mem) (b33 : Nat) (M34 : Mem) (b46 : Nat) (M47 : Mem) : oR Try.prog [] 60 Try.f14 (q14.loopAt 2) [(1, (pt b 0)), (3, (pt rb 0)), (4, (sli bi oi n ci)), (5, (sli r 0 k k)), (6, (i64 (((d : Nat) : Int)))), (7, (i64 (((i : Nat) : Int))))] M [ttL 5 (i64 (((n : Nat) : Int))), ttT 8, ttT 14, ttL 16 (.bool q), ttT 21, ttT 23, ttT 25, ttV 26 (.slice a1 (refRow .fr l ((i : Nat) : Int) l.length).length c2) M6, ttT 27, ttT 28, ttT 29, ttT 31, ttT 33, ttV 34 (.slice a17 (refRow .to l ((i : Nat) : Int) l.length).length c18) M22, ttT 35, ttT 36, ttT 37, ttT 39, ttT 41, ttT 44, ttT 45, ttV 51 (sli b33 0 1 2) M34, .at 53 (2, .val (sli b46 0 (k + 1) (k + 1)), M47)] [1, 3, 4, 5, 6, 7] = some (.normal, [some (pt b 0), some (pt rb 0), some (sli bi oi n ci), some (sli b46 0 (k + 1) (k + 1)), some (i64 (((d : Nat) : Int))), some (i64 (IntKind.wrap .i64 ((((i : Nat) : Int)) + (1 : Int))))], M47, [qL 3 b 0 M (i64 (((n : Nat) : Int))), qT (decide ((((i : Nat) : Int)) < (((n : Nat) : Int)))), .q (.inb (((i : Nat) : Int)) n) (ansB true), qL 4 bi (oi + (((i : Nat) : Int) : Int).toNat * 1) M (.bool q), qT (!(q)), qT (!(q)), qT (!(q)), qC 16 [(pt rb 0), (i64 (((i : Nat) : Int)))] M (.slice a1 (refRow .fr l ((i : Nat) : Int) l.length).length c2) M6, qT (!(q)), .ln a1 (refRow .fr l ((i : Nat) : Int) l.length).length c2, qT (!(q)), qT (!(q)), qT (!(q)), qC 17 [(pt rb 0), (i64 (((i : Nat) : Int)))] M6 (.slice a17 (refRow .to l ((i : Nat) : Int) l.length).length c18) M22, qT (!(q)), .ln a17 (refRow .to l ((i : Nat) : Int) l.length).length c18, qT (!(q)), qT (!(q)), qT (!(q)), qT (!(q)), qT ((IntKind.wrap .i64 (((((refRow .fr l ((i : Nat) : Int) l.length).length : Nat) : Int)) + ((((refRow .to l ((i : Nat) : Int) l.length).length : Nat) : Int)))) == (((d : Nat) : Int))), .eq (abuildSlice Try.prog 22 1 [(0, (i64 (((i : Nat) : Int))))] M22) (1, .val (sli b33 0 1 2), M34), .q (.append [22, 22] (sli r 0 k k) (sli b33 0 1 2) M34) (2, .val (sli b46 0 (k + 1) (k + 1)), M47)]) := by kernel_rfl
theorem r14GA (b rb n d bi oi ci i : Nat) (q : Bool) (vl : Value) (l : List E4) (r k : Nat) (cr : List Value) {M M0 : Mem} (hM : MemOk M) (X0 : Ext M0 M) (gb : M.get b = some ⟨[i64 ((n : Nat) : Int), vl], 26, 2, 0, true⟩) (href : pRefA 53 (n, l) (pt rb 0) M0) (hl400 : l.length ≤ 400) (hr : M0.next ≤ r) (gr : M.get r = some ⟨cr, 3, 1, 0, true⟩) (hbr : b ≠ r) (cc0 : (decide ((((i : Nat) : Int)) < (((n : Nat) : Int)))) = true) (cc1 : (q) = false) (cc2 : ((IntKind.wrap .i64 (((((refRow .fr l ((i : Nat) : Int) l.length).length : Nat) : Int)) + ((((refRow .to l ((i : Nat) : Int) l.length).length : Nat) : Int)))) == (((d : Nat) : Int))) = true) (hld0 : aload Try.prog 4 ⟨bi, oi + (((i : Nat) : Int) : Int).toNat * 1, none⟩ M0 = some (.bool q)) (hg1 : k < 1073741824 ∧ (cr).length = k * 1) : ∃ T1 M' b46, Rd Try.prog [] (q14.loopAt 2) Try.f14.ntmps (fr [(1, (pt b 0)), (3, (pt rb 0)), (4, (sli bi oi n ci)), (5, (sli r 0 k k)), (6, (i64 (((d : Nat) : Int)))), (7, (i64 (((i : Nat) : Int))))]) M .normal T1 M' ∧ [1, 3, 4, 5, 6, 7].map T1.get = [some (pt b 0), some (pt rb 0), some (sli bi oi n ci), some (sli b46 0 (k + 1) (k + 1)), some (i64 (((d : Nat) : Int))), some (i64 (IntKind.wrap .i64 ((((i : Nat) : Int)) + (1 : Int))))] ∧ Ext M0 M' ∧ MemOk M' ∧ M'.get b = some ⟨[(i64 (((n : Nat) : Int))), vl], 26, 2, 0, true⟩ ∧ M0.next ≤ b46 ∧ M'.get b46 = some ⟨cr ++ [(i64 (((i : Nat) : Int)))], 3, 1, 0, true⟩ ∧ ∀ id k, M.get id = some k → id ≠ b → id ≠ r → M'.get id = some k := by
  obtain ⟨w4, N5, M6, p7, l8, e9, E10, hM11, F12⟩ := call_fc (x := ((n, l), ((i : Nat) : Int))) hM con16 (⟨⟨_, _, rfl, AP.Ext (R := (pRefA 53)) href X0, rfl⟩, hl400⟩)
  have g14 := E10.old gb
  have g15 := E10.old gr
  have G3 : pInts (refRow .fr l ((i : Nat) : Int) l.length) w4 M6 := newR.out (R := pInts) F12
  obtain ⟨a1, c2, ew4⟩ := GRowsAt.form G3
  subst ew4
  have lna1 := GRowsAt.ln G3
  have X16 := X0.trans E10
  obtain ⟨w20, N21, M22, p23, l24, e25, E26, hM27, F28⟩ := call_fc (x := ((n, l), ((i : Nat) : Int))) hM11 con17 (⟨⟨_, _, rfl, AP.Ext (R := (pRefA 53)) href X16, rfl⟩, hl400⟩)
  have g30 := E26.old g14
  have g31 := E26.old g15
  have G19 : pInts (refRow .to l ((i : Nat) : Int) l.length) w20 M22 := newR.out (R := pInts) F28
  obtain ⟨a17, c18, ew20⟩ := GRowsAt.form G19
  subst ew20
  have lna17 := GRowsAt.ln G19
  have X32 := X16.trans E26
  obtain ⟨b33, M34, eb35, em36, g37, E38, hM39⟩ := new_t hM27 ⟨[(i64 (((i : Nat) : Int)))], 3, 1, 0, true⟩
  have nb33 : M0.next ≤ b33 := by rw [← eb35]; exact X32.next
  have dbb33 : b ≠ b33 := by have := Mem.lt_of_get g30; omega
  have drb33 : r ≠ b33 := by have := Mem.lt_of_get g31; omega
  have g40 := E38.old g30
  have g41 := E38.old g31
  have X43 := X32.trans E38
  obtain ⟨b46, M47, eb48, em49, g50, X45, hM51, kp44⟩ := grow_t X43 hr hM39 ⟨cr ++ [(i64 (((i : Nat) : Int)))], 3, 1, 0, true⟩
  have nb46 : M0.next ≤ b46 := by rw [← eb48]; exact X43.next
  have dbb46 : b ≠ b46 := by have := Mem.lt_of_get g40; omega
  have drb46 : r ≠ b46 := by have := Mem.lt_of_get g41; omega
  have db33b46 : b33 ≠ b46 := by have := Mem.lt_of_get g37; omega
  have g52 := (kp44 _ hbr (Mem.lt_of_get g40)).trans g40
  have hraw := r14GA_raw b rb n d bi oi ci i q vl l r k cr M  a1 c2 M6 a17 c18 M22 b33 M34 b46 M47
  have hkp : ∀ id k, M.get id = some k → id ≠ b → id ≠ r → M47.get id = some k := fun id k g h_b h_r => by
    have g0 := Mem.lt_of_get g
    have g := E10.old g
    have g := E26.old g
    have g := E38.old g
    have g := (kp44 id h_r (Mem.lt_of_get g)).trans g
    exact g
  obtain ⟨T1, h1, h2⟩ := Rd.told noNumP mixedP (fun B => specsB_ok (k := []) (hS14_16_17 B) (fun p hp => by cases hp)) (fun _ _ => rfl) hraw (hk (lC dC3 gb rfl) (hk (bT cc0) (hk (q_inb (by omega) (by simp at cc0; omega)) (hk (q_ld (aload_ext X0 hld0)) (hk (bT (by rw [cc1]; rfl)) (hk (bT (by rw [cc1]; rfl)) (hk (bT (by rw [cc1]; rfl)) (hk (q_call rfl p7 l8 e9) (hk (bT (by rw [cc1]; rfl)) (hk (lN lna1) (hk (bT (by rw [cc1]; rfl)) (hk (bT (by rw [cc1]; rfl)) (hk (bT (by rw [cc1]; rfl)) (hk (q_call rfl p23 l24 e25) (hk (bT (by rw [cc1]; rfl)) (hk (lN lna17) (hk (bT (by rw [cc1]; rfl)) (hk (bT (by rw [cc1]; rfl)) (hk (bT (by rw [cc1]; rfl)) (hk (bT (by rw [cc1]; rfl)) (hk (bT cc2) (hk (q_eq (by rw [← eb35, ← em36]; kernel_rfl) Nat.one_ne_zero) (hk (q_app (by rw [← eb48, ← em49]; exact append_more (w := 1) (by kernel_rfl) (by kernel_rfl) (by kernel_rfl) (y := 8) (by kernel_rfl) (by decide) (by decide) hg1.1 g37 rfl rfl rfl g41 hg1.2 rfl rfl rfl rfl) (Nat.succ_ne_zero _)) hn)))))))))))))))))))))))
  exact ⟨T1, M47, b46, h1, h2, X45, hM51, g52, nb46, g50, hkp⟩
theorem inner14 {b rb n d bi oi ci : Nat} {S : Value} {vl : Value} {l : List E4} {acc : List Int} {M0 M : Mem} (hM : MemOk M) (X : Ext M0 M) (hb : b < M0.next) (gb : M.get b = some ⟨[i64 ((n : Nat) : Int), vl], 26, 2, 0, true⟩) (href : pRefA 53 (n, l) (pt rb 0) M0) (hs : pBools (linksR l n) (sli bi oi n ci) M0) (hl : l.length ≤ 400) (hn : n ≤ 60) (ha : acc.length ≤ 100000) (hA : AccI M0 M S acc) :
    ∃ S' M', LoopR Try.prog [] (q14.loopAt 2) Try.f14.ntmps (fr [(1, pt b 0), (3, pt rb 0), (4, sli bi oi n ci), (5, S), (6, i64 ((d : Nat) : Int)), (7, i64 ((0 : Nat) : Int))]) M (.exit 2) (fr [(1, pt b 0), (3, pt rb 0), (4, sli bi oi n ci), (5, S'), (6, i64 ((d : Nat) : Int))]) M' ∧ Ext M0 M' ∧ MemOk M' ∧ M'.get b = some ⟨[i64 ((n : Nat) : Int), vl], 26, 2, 0, true⟩ ∧ AccI M0 M' S' (acc ++ refOrd l d n) := by
  have hlr : (linksR l n).length = n := by simp [linksR]
  obtain ⟨S', M', h1, h2, h3, h4, h5⟩ := LoopR.for (P := Try.prog) (GL := []) (b := q14.loopAt 2) (nt := Try.f14.ntmps) (id := 2) (σ := Value) (n := n) (Inv := fun i S M1 => Ext M0 M1 ∧ MemOk M1 ∧ M1.get b = some ⟨[i64 ((n : Nat) : Int), vl], 26, 2, 0, true⟩ ∧ AccI M0 M1 S (acc ++ refOrd l d i))
    (F := fun i S => [(1, pt b 0), (3, pt rb 0), (4, sli bi oi n ci), (5, S), (6, i64 ((d : Nat) : Int)), (7, i64 ((i : Nat) : Int))])
    (O := fun S => [(1, pt b 0), (3, pt rb 0), (4, sli bi oi n ci), (5, S), (6, i64 ((d : Nat) : Int))])
    (by
      rintro i S M1 hi ⟨X1, hM1, hg1, hA⟩
      have hq : (linksR l n)[i]? = some (linkR l ((i : Nat) : Int)) := by simp [linksR, hi]
      have hld := ld_one (P := Try.prog) (ty := 4) hs hq rfl dC4
      have hd1 := refRow_len .fr l ((i : Nat) : Int) l.length
      have hd2 := refRow_len .to l ((i : Nat) : Int) l.length
      have ew := wrap_add (i := (refRow .fr l ((i : Nat) : Int) l.length).length) (j := (refRow .to l ((i : Nat) : Int) l.length).length) (by omega)
      have hlen := refOrd_len l d i
      have hal : (acc ++ refOrd l d i).length ≤ 100060 := by rw [List.length_append]; omega
      rw [refOrd_succ, ← List.append_assoc]
      cases hq0 : linkR l ((i : Nat) : Int) with
      | true =>
        rw [hq0] at hld
        obtain ⟨T1, h1, h2⟩ := r14LQ b rb n d bi oi ci i true vl l S X1 hg1 href hl (decide_eq_true (by omega)) rfl hld
        rw [wrap_succ (by omega)] at h2
        refine ⟨S, T1, M1, h1, h2, X1, hM1, hg1, ?_⟩
        rw [if_neg (by simp), List.append_nil]
        exact hA
      | false =>
        rw [hq0] at hld
        by_cases hdd : refDeg l ((i : Nat) : Int) = d
        · rw [if_pos ⟨rfl, hdd⟩]
          have hcc : ((IntKind.wrap .i64 (((((refRow .fr l ((i : Nat) : Int) l.length).length : Nat) : Int)) + ((((refRow .to l ((i : Nat) : Int) l.length).length : Nat) : Int)))) == (((d : Nat) : Int))) = true := by
            rw [ew]; simp only [beq_iff_eq]; unfold refDeg at hdd; omega
          generalize acc ++ refOrd l d i = A at hA hal
          rcases hA with ⟨rfl, h0⟩ | ⟨r, rfl, h0, hr, hg⟩
          · obtain ⟨T1, M2, b2, h1, h2, h3, h4, h5, h6, h7, _⟩ := r14NA b rb n d bi oi ci i false vl l hM1 X1 hg1 href hl (decide_eq_true (by omega)) rfl hcc hld
            rw [wrap_succ (by omega)] at h2
            exact ⟨_, T1, M2, h1, h2, h3, h4, h5, .inr ⟨b2, by rw [h0]; rfl, by simp, h6, by rw [h7, h0]; rfl⟩⟩
          · obtain ⟨T1, M2, b2, h1, h2, h3, h4, h5, h6, h7, _⟩ := r14GA b rb n d bi oi ci i false vl l r A.length _ hM1 X1 hg1 href hl hr hg (by omega) (decide_eq_true (by omega)) rfl hcc hld ⟨by omega, by simp⟩
            rw [wrap_succ (by omega)] at h2
            exact ⟨_, T1, M2, h1, h2, h3, h4, h5, .inr ⟨b2, by rw [List.length_append]; rfl, by simp, h6, by rw [h7, List.map_append]; rfl⟩⟩
        · rw [if_neg (fun h => hdd h.2), List.append_nil]
          have hcc : ((IntKind.wrap .i64 (((((refRow .fr l ((i : Nat) : Int) l.length).length : Nat) : Int)) + ((((refRow .to l ((i : Nat) : Int) l.length).length : Nat) : Int)))) == (((d : Nat) : Int))) = false := by
            rw [ew]; simp only [beq_eq_false_iff_ne]; unfold refDeg at hdd; omega
          obtain ⟨T1, M2, h1, h2, h3, h4, h5, h6⟩ := r14LS b rb n d bi oi ci i false vl l S hM1 X1 hg1 href hl (decide_eq_true (by omega)) rfl hcc hld
          rw [wrap_succ (by omega)] at h2
          exact ⟨S, T1, M2, h1, h2, h3, h4, h5, hA.keep fun id k hid hg => h6 id k hg (by omega)⟩)
    (by
      rintro S M1 ⟨X1, hM1, hg1, _⟩
      exact r14x b rb n d n bi oi ci S vl hg1 (decide_eq_false (by omega)))
    n 0 (by omega) (s := S) (M := M) ⟨X, hM, gb, by rw [show refOrd l d 0 = [] from rfl, List.append_nil]; exact hA⟩
  exact ⟨S', M', h1, h2, h3, h4, h5⟩
theorem o14_raw (b rb n d bi oi ci cl : Nat) (al : Option Addr) (l : List E4) (S : Value) (M : Mem) (S1 : Value) (M3 : Mem) : oR Try.prog [2] 60 Try.f14 (q14.loopAt 0) [(1, (pt b 0)), (3, (pt rb 0)), (4, (sli bi oi n ci)), (5, S), (6, (i64 (((d : Nat) : Int))))] M [ttL 5 (.slice al l.length cl), ttT 7, ttT 12, .blk 15 [1, 3, 4, 5, 6, 7] .normal (fr [(1, (pt b 0)), (3, (pt rb 0)), (4, (sli bi oi n ci)), (5, S1), (6, (i64 (((d : Nat) : Int))))]) M3] [1, 3, 4, 5, 6] = some (.normal, [some (pt b 0), some (pt rb 0), some (sli bi oi n ci), some S1, some (i64 (IntKind.wrap .i64 ((((d : Nat) : Int)) + (1 : Int))))], M3, [qL 24 b 1 M (.slice al l.length cl), .ln al l.length cl, qT (decide ((((d : Nat) : Int)) ≤ (IntKind.wrap .i64 ((2 : Int) * (((l.length : Nat) : Int)))))), .blk 2 (.loop (q14.loopAt 2)) Try.f14.ntmps [1, 3, 4, 5, 6, 7] [some (pt b 0), some (pt rb 0), some (sli bi oi n ci), some S, some (i64 (((d : Nat) : Int))), some (i64 0)] M .normal (fr [(1, (pt b 0)), (3, (pt rb 0)), (4, (sli bi oi n ci)), (5, S1), (6, (i64 (((d : Nat) : Int))))]) M3]) := by kernel_rfl
theorem o14 (b rb n d bi oi ci cl : Nat) (al : Option Addr) (l : List E4) (S : Value) {acc : List Int} {M M0 : Mem} (hM : MemOk M) (X0 : Ext M0 M) (hb : b < M0.next) (gb : M.get b = some ⟨[i64 ((n : Nat) : Int), (.slice al l.length cl)], 26, 2, 0, true⟩) (href : pRefA 53 (n, l) (pt rb 0) M0) (hs : pBools (linksR l n) (sli bi oi n ci) M0) (hl : pEdges l (.slice al l.length cl) M0) (hl400 : l.length ≤ 400) (hn60 : n ≤ 60) (ha : acc.length ≤ 100000) (hA : AccI M0 M S acc) (cc0 : (decide ((((d : Nat) : Int)) ≤ (IntKind.wrap .i64 ((2 : Int) * (((l.length : Nat) : Int)))))) = true) : ∃ S' T1 M', Rd Try.prog [] (q14.loopAt 0) Try.f14.ntmps (fr [(1, (pt b 0)), (3, (pt rb 0)), (4, (sli bi oi n ci)), (5, S), (6, (i64 (((d : Nat) : Int))))]) M .normal T1 M' ∧ [1, 3, 4, 5, 6].map T1.get = [some (pt b 0), some (pt rb 0), some (sli bi oi n ci), some S', some (i64 (IntKind.wrap .i64 ((((d : Nat) : Int)) + (1 : Int))))] ∧ Ext M0 M' ∧ MemOk M' ∧ M'.get b = some ⟨[i64 ((n : Nat) : Int), (.slice al l.length cl)], 26, 2, 0, true⟩ ∧ AccI M0 M' S' (acc ++ refOrd l d n) := by
  obtain ⟨S1, M3, hL4, X5, hM6, g7, A2⟩ := inner14 (d := d) hM X0 hb gb href hs hl400 hn60 ha hA
  have hraw := o14_raw b rb n d bi oi ci cl al l S M S1 M3
  obtain ⟨T1, h1, h2⟩ := Rd.told noNumP mixedP (fun B => specsB_ok (l := []) (fun p hp => by cases hp) (k := [(2, bone (.loop (q14.loopAt 2)) Try.f14.ntmps [1, 3, 4, 5, 6, 7] [some (pt b 0), some (pt rb 0), some (sli bi oi n ci), some S, some (i64 (((d : Nat) : Int))), some (i64 0)] M .normal (fr [(1, (pt b 0)), (3, (pt rb 0)), (4, (sli bi oi n ci)), (5, S1), (6, (i64 (((d : Nat) : Int))))]) M3)]) (fun p hp => by simp only [List.mem_cons, List.not_mem_nil, or_false] at hp; rcases hp with rfl <;> first | exact BlkOk.loop noNumP mixedP hL4)) (fun _ h => blksF_one h) hraw (hk (lC dC24 gb rfl) (hk (lN hl.ln) (hk (bT cc0) (hk (q_blk rfl) hn))))
  exact ⟨S1, T1, M3, h1, h2, X5, hM6, g7, A2⟩
theorem o14x_raw (b rb n d bi oi ci cl : Nat) (al : Option Addr) (l : List E4) (S : Value) (M : Mem)  : oR Try.prog [] 60 Try.f14 (q14.loopAt 0) [(1, (pt b 0)), (3, (pt rb 0)), (4, (sli bi oi n ci)), (5, S), (6, (i64 (((d : Nat) : Int))))] M [ttL 5 (.slice al l.length cl), ttT 7, ttF 12] [5] = some ((.exit 0), [some S], M, [qL 24 b 1 M (.slice al l.length cl), .ln al l.length cl, qF (decide ((((d : Nat) : Int)) ≤ (IntKind.wrap .i64 ((2 : Int) * (((l.length : Nat) : Int))))))]) := by kernel_rfl
theorem o14x (b rb n d bi oi ci cl : Nat) (al : Option Addr) (l : List E4) (S : Value) {M : Mem} (gb : M.get b = some ⟨[i64 ((n : Nat) : Int), (.slice al l.length cl)], 26, 2, 0, true⟩) {M0 : Mem} (hl : pEdges l (.slice al l.length cl) M0) (cc0 : (decide ((((d : Nat) : Int)) ≤ (IntKind.wrap .i64 ((2 : Int) * (((l.length : Nat) : Int)))))) = false) : ∃ T1, Rd Try.prog [] (q14.loopAt 0) Try.f14.ntmps (fr [(1, (pt b 0)), (3, (pt rb 0)), (4, (sli bi oi n ci)), (5, S), (6, (i64 (((d : Nat) : Int))))]) M (.exit 0) T1 M ∧ [5].map T1.get = [some S] := by
  have hraw := o14x_raw b rb n d bi oi ci cl al l S M  
  obtain ⟨T1, h1, h2⟩ := Rd.told noNumP mixedP (specs_none Try.prog) (fun _ _ => rfl) hraw (hk (lC dC24 gb rfl) (hk (lN hl.ln) (hk (bF cc0) hn)))
  exact ⟨T1, h1, h2⟩
theorem loop14 {b rb n bi oi ci cl : Nat} {al : Option Addr} {l : List E4} {M : Mem} (hM : MemOk M) (gb : M.get b = some ⟨[i64 ((n : Nat) : Int), .slice al l.length cl], 26, 2, 0, true⟩) (href : pRefA 53 (n, l) (pt rb 0) M) (hs : pBools (linksR l n) (sli bi oi n ci) M) (hl : pEdges l (.slice al l.length cl) M) (hl4 : l.length ≤ 400) (hn : n ≤ 60) :
    ∃ S M', LoopR Try.prog [] (q14.loopAt 0) Try.f14.ntmps (fr [(1, pt b 0), (3, pt rb 0), (4, sli bi oi n ci), (5, sln), (6, i64 ((0 : Nat) : Int))]) M (.exit 0) (fr [(5, S)]) M' ∧ Ext M M' ∧ MemOk M' ∧ AccI M M' S (orderR n l) := by
  have hb := Mem.lt_of_get gb
  have ew : IntKind.wrap .i64 ((2 : Int) * ((l.length : Nat) : Int)) = ((2 * l.length : Nat) : Int) := by
    rw [← wrap_nat (i := 2 * l.length) (by omega)]; congr 1
  obtain ⟨S, M', h1, h2, h3, _, h4⟩ := LoopR.for (P := Try.prog) (GL := []) (b := q14.loopAt 0) (nt := Try.f14.ntmps) (id := 0) (σ := Value) (n := 2 * l.length + 1) (Inv := fun i S M1 => Ext M M1 ∧ MemOk M1 ∧ M1.get b = some ⟨[i64 ((n : Nat) : Int), .slice al l.length cl], 26, 2, 0, true⟩ ∧ AccI M M1 S (orderTo l n i))
    (F := fun i S => [(1, pt b 0), (3, pt rb 0), (4, sli bi oi n ci), (5, S), (6, i64 ((i : Nat) : Int))])
    (O := fun S => [(5, S)])
    (by
      rintro i S M1 hi ⟨X1, hM1, hg1, hA⟩
      have hlen := orderTo_len l n i
      have h2 : i * n ≤ 801 * 60 := Nat.mul_le_mul (by omega) hn
      obtain ⟨S', T1, M2, h1, h2, h3, h4, h5, h6⟩ := o14 b rb n i bi oi ci cl al l S hM1 X1 hb hg1 href hs hl hl4 hn (by omega) hA (by rw [ew]; exact decide_eq_true (by omega))
      rw [wrap_succ (by omega)] at h2
      refine ⟨S', T1, M2, h1, h2, h3, h4, h5, ?_⟩
      rw [orderTo_succ]; exact h6)
    (by
      rintro S M1 ⟨X1, hM1, hg1, _⟩
      exact o14x b rb n _ bi oi ci cl al l S hg1 hl (by rw [ew]; exact decide_eq_false (by omega)))
    (2 * l.length + 1) 0 (by omega) (s := sln) (M := M) ⟨Ext.refl M, hM, gb, .inl ⟨rfl, rfl⟩⟩
  exact ⟨S, M', h1, h2, h3, h4⟩
end Go.Proofs.Ytfeabmmgmbddnaa
